/-
  Marks while the map is gone over: what is left, what was done; a store and a delete there.
-/
import Derived.Test.YtcpfihagcmadcaaOfPut
import Derived.Test.YtcpfihagcmadcaaOfRange
namespace Go.Proofs.Ytcpfihagcmadcaa.L12
open Go.RowKit
open Go.Maps
open L3 L4

/-- the program's map, gone over -/
abbrev Over (w : World) (b r N : Nat) (D : DataW Unit) (left : Lit → Bool) (cnt : Nat) : Prop := w.ranges Try.prog 59 (plainElem (H := Unit) Try.prog 3) b r N D left cnt
theorem key_is {x : ByteArray × ByteArray × Int} {kl : Lit} (h : keyOf Try.prog 59 (kV x) = some kl) : (x.1.size ≤ maxLen ∧ x.2.1.size ≤ maxLen ∧ (Lit.int .i64 x.2.2).wf = true) ∧ kl = kLit x.1 x.2.1 x.2.2 := by
  obtain ⟨⟨a, b, c⟩, e, hw, rfl⟩ := key_inv h
  obtain ⟨a', b', c'⟩ := x
  simp [kV] at e
  obtain ⟨rfl, rfl, rfl⟩ := e
  exact ⟨hw, rfl⟩
theorem ranges_below {w w' : World} {b r n : Nat} {D : DataW Unit} {left : Lit → Bool} {cnt : Nat} (h : Over w b r n D left cnt) (hb : Below w.heap.size w w') : Over w' b r n D left cnt :=
  h.kept (row := none) ⟨hb.os, hb.tape, hb.output, hb.size, fun k hk _ => hb.block k hk⟩ (by simp) (by simp)
theorem ranges_map {w : World} {b r n : Nat} {D : DataW Unit} {left : Lit → Bool} {cnt : Nat} (h : Over w b r n D left cnt) : (∃ es c, w.heap[b]? = some (.map es c)) ∧ ∃ a b' c d, w.heap[r]? = some (.mapIter a b' c d) := by
  obtain ⟨es, clock, since, seen, c0, hb, _, _, _, hr, _⟩ := h
  exact ⟨⟨es, clock, hb⟩, ⟨_, _, _, _, hr⟩⟩
theorem spot_box {w w' : World} {g t : ByteArray} {p : Int} (hb : Below (w.alloc (.cells #[.string g, .string t, .int .i64 p] 59)).heap.size (w.alloc (.cells #[.string g, .string t, .int .i64 p] 59)) w') :
    w'.cell? ⟨w.heap.size, 0, none⟩ = some (.string g) ∧ w'.cell? ⟨w.heap.size, 1, none⟩ = some (.string t) ∧ w'.cell? ⟨w.heap.size, 2, none⟩ = some (.int .i64 p) := by
  have h := (hb.block w.heap.size (by simp)).trans (heap_alloc_new w _)
  exact ⟨(cell_of_row _ _ 0 _ _ _ h).trans rfl, (cell_of_row _ _ 1 _ _ _ h).trans rfl, (cell_of_row _ _ 2 _ _ _ h).trans rfl⟩
theorem drop_run {w : World} {b r n : Nat} {D : DataW Unit} {left : Lit → Bool} {cnt : Nat} {g t : ByteArray} {p : Int} (h : Over w b r n D left cnt) (hi : g.size ≤ maxLen) (ht : t.size ≤ maxLen) (hp : (Lit.int .i64 p).wf = true) :
    ∃ U : TypeId × World → World, ∀ ty W', Below w.heap.size w W' → (Builtin.delete_ #[52, 59] ty #[.map (some b), .agg #[.string g, .string t, .int .i64 p]]).run Try.prog W' = .ok (.tuple #[]) (U (ty, W')) ∧
      (∃ cnt', Over (U (ty, W')) b r n (D.del (kLit g t p)) (fun x => left x && !x.sameKey (kLit g t p)) cnt' ∧ cnt' ≤ cnt) ∧ W'.mapTurned (U (ty, W')) b := by
  have key : ∀ x : TypeId × World, ∃ w', Below w.heap.size w x.2 → (Builtin.delete_ #[52, 59] x.1 #[.map (some b), .agg #[.string g, .string t, .int .i64 p]]).run Try.prog x.2 = .ok (.tuple #[]) w' ∧
      (∃ cnt', Over w' b r n (D.del (kLit g t p)) (fun x => left x && !x.sameKey (kLit g t p)) cnt' ∧ cnt' ≤ cnt) ∧ x.2.mapTurned w' b := fun x => by
    by_cases hB : Below w.heap.size w x.2
    · obtain ⟨w', cnt', h1, h2, h3, h4⟩ := (ranges_below h hB).drop lawSpot mapInt (keyOf_spot hi ht hp) x.1
      exact ⟨w', fun _ => ⟨h1, ⟨cnt', h2, h3⟩, h4⟩⟩
    · exact ⟨x.2, fun q => absurd q hB⟩
  obtain ⟨U, hU⟩ := Classical.axiomOfChoice key
  exact ⟨U, fun ty W' hb => hU (ty, W') hb⟩
theorem store_run {w : World} {b r n : Nat} {D : DataW Unit} {left : Lit → Bool} {cnt : Nat} {g t : ByteArray} {p o : Int} (h : Over w b r n D left cnt) (hn : n < maxLen) (hi : g.size ≤ maxLen) (ht : t.size ≤ maxLen) (hp : (Lit.int .i64 p).wf = true) (ho : (Lit.int .i64 o).wf = true) (hin : Maps.has D (kLit g t p) = true) :
    ∃ U : World → World, ∀ W', Below w.heap.size w W' → (Instr.mapUpdate 52 (.map (some b)) (.agg #[.string g, .string t, .int .i64 p]) (.int .i64 o)).run Try.prog W' = .ok () (U W') ∧
      Over (U W') b r n (D.put (kLit g t p) (.lit (.int .i64 o))) left cnt ∧ W'.mapTurned (U W') b := by
  refine Classical.axiomOfChoice (r := fun (W' w' : World) => Below w.heap.size w W' → (Instr.mapUpdate 52 (.map (some b)) (.agg #[.string g, .string t, .int .i64 p]) (.int .i64 o)).run Try.prog W' = .ok () w' ∧ Over w' b r n (D.put (kLit g t p) (.lit (.int .i64 o))) left cnt ∧ W'.mapTurned w' b) (fun W' => ?_)
  by_cases hB : Below w.heap.size w W'
  · obtain ⟨w', h1, h2, h3⟩ := (ranges_below h hB).restore lawSpot mapInt hn (keyOf_spot hi ht hp) (plainElem_int (H := Unit) Try.underlying3 ho) hin
    exact ⟨w', fun _ => ⟨h1, h2, h3⟩⟩
  · exact ⟨W', fun q => absurd q hB⟩

/-! ### what is left -/
theorem key_one {Q : List Mr} (S : SortR Q) (F : Fits Q) {x m : Mr} (hx : x ∈ Q) (hm : m ∈ Q) : x.k.sameKey m.k = decide (x.g = m.g ∧ x.t = m.t ∧ x.p = m.p) := by
  by_cases e : x.g = m.g ∧ x.t = m.t ∧ x.p = m.p
  · have : x = m := S.one hx hm e
    subst this
    rw [decide_eq_true e]
    exact WideAt.sameKey_self (isKey_lit _ _ _)
  · rw [decide_eq_false e]
    exact Maps.sameKey_ne (fun q => e (kLit_inj (F x hx).1 (F x hx).2.1 (F x hx).2.2 (F m hm).1 (F m hm).2.1 (F m hm).2.2 q))
theorem cnt_step0 (P : Mr → Bool) (left : Mr → Bool) (same : Mr → Bool) (m : Mr) : ∀ {Q : List Mr}, Q.Nodup → (∀ x ∈ Q, same x = true ↔ x = m) → m ∈ Q → left m = true →
    (Q.filter (fun x => P x && !(left x && !same x))).length = (Q.filter (fun x => P x && !left x)).length + (if P m = true then 1 else 0)
  | [], _, _, hm, _ => nomatch hm
  | a :: t, hn, hs, hm, hl => by
    obtain ⟨h1, h2⟩ := List.nodup_cons.1 hn
    by_cases e : a = m
    · subst e
      have ha : same a = true := (hs a List.mem_cons_self).2 rfl
      have ht : t.filter (fun x => P x && !(left x && !same x)) = t.filter (fun x => P x && !left x) := by
        refine List.filter_congr (fun x hx => ?_)
        have : same x = false := by
          cases q : same x
          · rfl
          · exact absurd ((hs x (List.mem_cons_of_mem _ hx)).1 q ▸ hx) h1
        rw [this]; simp
      rw [List.filter_cons, List.filter_cons, ht, ha, hl]
      cases P a <;> simp
    · have hm' : m ∈ t := by
        rcases List.mem_cons.1 hm with q | q
        · exact absurd q.symm e
        · exact q
      have ih := cnt_step0 P left same m h2 (fun x hx => hs x (List.mem_cons_of_mem _ hx)) hm' hl
      have ha : same a = false := by
        cases q : same a
        · rfl
        · exact absurd ((hs a List.mem_cons_self).1 q) e
      rw [List.filter_cons, List.filter_cons, ha]
      simp only [Bool.not_false, Bool.and_true]
      split
      · rw [List.length_cons, List.length_cons, ih]; omega
      · exact ih
theorem SortR.nodup {Q : List Mr} (h : SortR Q) : Q.Nodup := h.imp (fun {a b} q e => by rw [e, bef_irrefl] at q; cases q)
theorem same_iff {Q : List Mr} (S : SortR Q) (F : Fits Q) {m : Mr} (hm : m ∈ Q) : ∀ x ∈ Q, x.k.sameKey m.k = true ↔ x = m := fun x hx => by
  rw [key_one S F hx hm, decide_eq_true_iff]
  exact ⟨fun e => S.one hx hm e, fun e => by rw [e]; exact ⟨rfl, rfl, rfl⟩⟩
theorem cnt_step {Q : List Mr} (S : SortR Q) (F : Fits Q) {m : Mr} (hm : m ∈ Q) {left : Lit → Bool} (hl : left m.k = true) (P : Mr → Bool) :
    (Q.filter (fun x => P x && !(left x.k && !x.k.sameKey m.k))).length = (Q.filter (fun x => P x && !left x.k)).length + (if P m = true then 1 else 0) :=
  cnt_step0 P (fun x => left x.k) (fun x => x.k.sameKey m.k) m S.nodup (same_iff S F hm) hm hl
theorem filter_step {Q : List Mr} {m : Mr} {left : Lit → Bool} (S : SortR Q) (F : Fits Q) (hm : m ∈ Q) (hl : left m.k = true) :
    (m :: Q.filter (fun x => !left x.k)).Perm (Q.filter (fun x => !(left x.k && !x.k.sameKey m.k))) := by
  have hnd := S.nodup
  refine (List.perm_ext_iff_of_nodup (List.nodup_cons.2 ⟨fun e => ?_, hnd.filter _⟩) (hnd.filter _)).2 (fun x => ?_)
  · have := (List.mem_filter.1 e).2
    rw [hl] at this; cases this
  · rw [List.mem_cons, List.mem_filter, List.mem_filter]
    constructor
    · rintro (rfl | ⟨h1, h2⟩)
      · exact ⟨hm, by rw [hl, (same_iff S F hm x hm).2 rfl]; rfl⟩
      · refine ⟨h1, ?_⟩
        have : left x.k = false := by simpa using h2
        rw [this]; rfl
    · rintro ⟨h1, h2⟩
      by_cases e : x = m
      · exact .inl e
      · have : x.k.sameKey m.k = false := by
          cases q : x.k.sameKey m.k
          · rfl
          · exact absurd ((same_iff S F hm x h1).1 q) e
        rw [this] at h2
        exact .inr ⟨h1, by simpa using h2⟩
/-- those that stay while a group goes -/
def stay (g : ByteArray) (left : Lit → Bool) (Q : List Mr) : List Mr := Q.filter (fun m => !decide (m.g = g) || left m.k)
theorem stay_end {g : ByteArray} {left : Lit → Bool} {Q : List Mr} (h : ∀ kl, left kl = false) : stay g left Q = dropQ Q g := by
  unfold stay dropQ
  exact List.filter_congr (fun x _ => by rw [h]; simp)
theorem mem_stay {g : ByteArray} {left : Lit → Bool} {Q : List Mr} {x : Mr} : x ∈ stay g left Q ↔ x ∈ Q ∧ (x.g ≠ g ∨ left x.k = true) := by simp [stay]
theorem stay_step {g : ByteArray} {left : Lit → Bool} {Q : List Mr} (S : SortR Q) (F : Fits Q) {m : Mr} (hm : m ∈ Q) (hg : m.g = g) : ∀ x, x ∈ stay g (fun z => left z && !z.sameKey m.k) Q ↔ (x ∈ stay g left Q ∧ ¬ SameR x m) := fun x => by
  rw [mem_stay, mem_stay]
  constructor
  · rintro ⟨hx, h⟩
    simp only [Bool.and_eq_true, Bool.not_eq_true'] at h
    rcases h with h | ⟨h, h'⟩
    · exact ⟨⟨hx, .inl h⟩, fun e => h (e.1.trans hg)⟩
    · exact ⟨⟨hx, .inr h⟩, fun e => by rw [(same_iff S F hm x hx).2 (S.one hx hm e)] at h'; cases h'⟩
  · rintro ⟨⟨hx, h⟩, hn⟩
    refine ⟨hx, ?_⟩
    rcases h with h | h
    · exact .inl h
    · refine .inr ?_
      have : x.k.sameKey m.k = false := by
        cases q : x.k.sameKey m.k
        · rfl
        · exact absurd ((same_iff S F hm x hx).1 q ▸ SameR.rfl) hn
      simp [h, this]
theorem stay_off {g : ByteArray} {left : Lit → Bool} {Q : List Mr} (S : SortR Q) (F : Fits Q) {m : Mr} (hm : m ∈ Q) (hg : m.g ≠ g) : stay g (fun z => left z && !z.sameKey m.k) Q = stay g left Q := by
  unfold stay
  refine List.filter_congr (fun x hx => ?_)
  by_cases e : x = m
  · subst e; simp [hg]
  · have : x.k.sameKey m.k = false := by
      cases q : x.k.sameKey m.k
      · rfl
      · exact absurd ((same_iff S F hm x hx).1 q) e
    dsimp only
    rw [this]; simp
/-- marks while some are raised -/
def upF (t : ByteArray) (p least : Int) (left : Lit → Bool) (y : Mr) : Mr := if (!left y.k && raiseB t p least y) = true then upTo y least else y
def rais (t : ByteArray) (p least : Int) (left : Lit → Bool) (Q : List Mr) : List Mr := Q.map (upF t p least left)
theorem upF_same (t : ByteArray) (p least : Int) (left : Lit → Bool) (y : Mr) : SameR (upF t p least left y) y := by
  unfold upF
  split
  · exact upTo_same _ _
  · exact SameR.rfl
theorem upF_left {t : ByteArray} {p least : Int} {left : Lit → Bool} {y : Mr} (h : left y.k = true) : upF t p least left y = y := by
  unfold upF; rw [h]; simp
theorem rais_end {t : ByteArray} {p least : Int} {left : Lit → Bool} {Q : List Mr} (h : ∀ kl, left kl = false) : rais t p least left Q = raiseQ0 Q t p least := by
  unfold rais raiseQ0
  exact List.map_congr_left (fun x _ => by unfold upF; rw [h]; simp)
theorem rais_start {t : ByteArray} {p least : Int} {left : Lit → Bool} {Q : List Mr} (h : ∀ x ∈ Q, left x.k = true) : rais t p least left Q = Q := by
  unfold rais
  have : Q.map (upF t p least left) = Q.map id := List.map_congr_left (fun x hx => upF_left (h x hx))
  rw [this, List.map_id]
theorem upF_other {t : ByteArray} {p least : Int} {left : Lit → Bool} {Q : List Mr} (S : SortR Q) (F : Fits Q) {m x : Mr} (hm : m ∈ Q) (hx : x ∈ Q) (e : x ≠ m) : upF t p least (fun z => left z && !z.sameKey m.k) x = upF t p least left x := by
  have : x.k.sameKey m.k = false := by
    cases q : x.k.sameKey m.k
    · rfl
    · exact absurd ((same_iff S F hm x hx).1 q) e
  simp [upF, this]
theorem upF_now {t : ByteArray} {p least : Int} {left : Lit → Bool} {m : Mr} : upF t p least (fun z => left z && !z.sameKey m.k) m = if raiseB t p least m = true then upTo m least else m := by
  have : m.k.sameKey m.k = true := WideAt.sameKey_self (isKey_lit _ _ _)
  simp [upF, this]
theorem rais_step {t : ByteArray} {p least : Int} {left : Lit → Bool} {Q : List Mr} (S : SortR Q) (F : Fits Q) {m : Mr} (hm : m ∈ Q) (hl : left m.k = true) (hr : raiseB t p least m = true) : ∀ x, x ∈ rais t p least (fun z => left z && !z.sameKey m.k) Q ↔ x = upTo m least ∨ (x ∈ rais t p least left Q ∧ ¬ SameR x (upTo m least)) := fun x => by
  unfold rais
  rw [List.mem_map, List.mem_map]
  constructor
  · rintro ⟨y, hy, rfl⟩
    by_cases e : y = m
    · subst e
      rw [upF_now, if_pos hr]; exact .inl rfl
    · rw [upF_other S F hm hy e]
      exact .inr ⟨⟨y, hy, rfl⟩, fun q => e (S.one hy hm (((upF_same t p least left y).symm.trans q).trans (upTo_same m least)))⟩
  · rintro (rfl | ⟨⟨y, hy, rfl⟩, hn⟩)
    · exact ⟨m, hm, by rw [upF_now, if_pos hr]⟩
    · by_cases e : y = m
      · subst e
        rw [upF_left hl] at hn
        exact absurd (upTo_same y least).symm hn
      · exact ⟨y, hy, upF_other S F hm hy e⟩
theorem rais_off {t : ByteArray} {p least : Int} {left : Lit → Bool} {Q : List Mr} (S : SortR Q) (F : Fits Q) {m : Mr} (hm : m ∈ Q) (hl : left m.k = true) (hr : raiseB t p least m = false) : rais t p least (fun z => left z && !z.sameKey m.k) Q = rais t p least left Q := by
  unfold rais
  refine List.map_congr_left (fun y hy => ?_)
  by_cases e : y = m
  · subst e
    rw [upF_now, upF_left hl, hr]; simp
  · exact upF_other S F hm hy e
theorem rais_fits {t : ByteArray} {p least : Int} {left : Lit → Bool} {Q : List Mr} (F : Fits Q) : Fits (rais t p least left Q) := fun x hx => by
  obtain ⟨y, hy, rfl⟩ := List.mem_map.1 hx
  obtain ⟨e1, e2, e3⟩ := upF_same t p least left y
  rw [e1, e2, e3]; exact F y hy
/-- the mark at a key that is left -/
theorem rais_at {t : ByteArray} {p least : Int} {left : Lit → Bool} {Q : List Mr} {x : Mr} (hx : x ∈ rais t p least left Q) (hl : left x.k = true) : x ∈ Q := by
  obtain ⟨y, hy, rfl⟩ := List.mem_map.1 hx
  have e := (upF_same t p least left y).k
  rw [e] at hl
  rw [upF_left hl]; exact hy
/-- what the map tells of an entry -/
theorem MapD.entry {D : DataW Unit} {Q : List Mr} (h : MapD D Q) (F : Fits Q) {g t : ByteArray} {p c : Int} {y : DataW Unit} {ps : List MemPlace} (hg : g.size ≤ maxLen) (ht : t.size ≤ maxLen) (hp : (Lit.int .i64 p).wf = true) (hv : plainElem (H := Unit) Try.prog 3 (.int .i64 c) = some (y, ps)) (hat : ∀ z, D.atKey (kLit g t p) z = y) : (⟨g, t, p, c⟩ : Mr) ∈ Q := by
  obtain ⟨c', e, hc, _⟩ := plainElem_int_inv Try.underlying3 hv
  injection e with _ e
  subst e
  have ey : y = .lit (.int .i64 c) := congrArg Prod.fst hc
  subst ey
  have hh : Maps.has D (kLit g t p) = true := Maps.has_true_of_atKey hat
  obtain ⟨q, hq, e⟩ := (h.1 _).1 hh
  obtain ⟨f1, f2, f3⟩ := F q hq
  obtain ⟨rfl, rfl, rfl⟩ := kLit_inj f1 f2 f3 hg ht hp e
  have e2 := h.2 q hq (.lit (.int .i64 0))
  rw [show q.k = kLit q.g q.t q.p from rfl, hat] at e2
  have := lit_inj e2
  subst this
  exact hq
theorem MapD.has_of {D : DataW Unit} {Q : List Mr} (h : MapD D Q) {m : Mr} (hm : m ∈ Q) : Maps.has D m.k = true := (h.1 _).2 ⟨m, hm, rfl⟩
end Go.Proofs.Ytcpfihagcmadcaa.L12
