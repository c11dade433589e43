/-
  Where a group lies in memory: its row, its map of seats, the rows of topics that the map leads to.
-/
import Derived.Test.YtidgifnnkaheeaaGpMath
import Derived.Test.YtidgifnnkaheeaaAsMem
import Derived.Maps.OwnSet
namespace Go.Proofs.Ytidgifnnkaheeaa.L11
open Go.RowKit
open Go.Maps
open L3 L4 L9 L10

/-! a map's elements: as they are -/
def rdS (v : Value) : Option (DataW Value × List MemPlace) := match v with | .agg xs => some (.held (.agg xs), []) | _ => none
theorem rdS_inv {v : Value} {y : DataW Value × List MemPlace} (h : rdS v = some y) : ∃ xs, v = .agg xs ∧ y = (.held v, []) := by
  cases v <;> simp [rdS] at h
  exact ⟨_, rfl, h.symm⟩
def seV (s : Se) (A : Option Addr) (c : Nat) : Value := .agg #[.string s.m.name, .slice A s.m.ts.length c, .int .i64 s.tm, .int .i64 s.sn]
def seC (s : Se) (A : Option Addr) (c : Nat) : List Value := [.string s.m.name, .slice A s.m.ts.length c, .int .i64 s.tm, .int .i64 s.sn]
theorem rdS_se (s : Se) (A : Option Addr) (c : Nat) : rdS (seV s A c) = some (.held (seV s A c), []) := rfl

/-! rows of texts -/
/-- rows of texts stay -/
def KpS (W W' : World) : Prop := ∀ (k : Nat) (cs : Array Value) (fr : Nat × Nat), W.heap[k]? = some (.cells cs 9 fr) → W'.heap[k]? = W.heap[k]?
theorem KpS.trans {A B C : World} (h : KpS A B) (k : KpS B C) : KpS A C := fun x cs fr hx => by
  have h1 := h x cs fr hx
  exact (k x cs fr (h1.trans hx)).trans h1
theorem KpS.below {W W' : World} (b : Below W.heap.size W W') : KpS W W' := fun k _ _ hk => b.block k (Array.getElem?_eq_some_iff.1 hk).1
/-- a slice of texts in a row of its own -/
def RowS (w : World) (A : Option Addr) (l : List ByteArray) : Prop := 0 < l.length → ∃ g cs fr, A = some ⟨g, 0, none⟩ ∧ w.heap[g]? = some (.cells cs 9 fr) ∧ ∀ i s, l[i]? = some s → w.cell? ⟨g, i, none⟩ = some (.string s)
theorem RowS.kept {W W' : World} {A : Option Addr} {l : List ByteArray} (h : RowS W A l) (k : KpS W W') : RowS W' A l := fun h0 => by
  obtain ⟨g, cs, fr, e, hg, hc⟩ := h h0
  have hb := k g cs fr hg
  exact ⟨g, cs, fr, e, hb.trans hg, fun i s hs => (World.cell?_of_block (w := W) hb).trans (hc i s hs)⟩
theorem enc_kb (x : ByteArray) : Go.Proofs.encStr (kb x) = .string x := by
  cases x; simp [Go.Proofs.encStr, kb]
theorem rowS_own {w : World} {base n c m : Nat} {A : Option Addr} {l : List ByteArray} (h : w.ownsRow base 9 1 (.slice A n c) m (l.map (fun x => .string x))) (hm : l.length = m) : RowS w A l := fun h0 => by
  rcases h.2 with ⟨_, e⟩ | ⟨g, cap, cur, e, h1, hh, _⟩
  · omega
  · injection e with e1; subst e1
    refine ⟨g, cur, (0, 0), rfl, hh, fun i s hs => ?_⟩
    have q := h.cells (g := g) rfl i (.string s) (by rw [List.getElem?_map, hs]; rfl)
    rwa [Addr.add_lit, Nat.zero_add] at q
/-- a slice of texts, that has room for them -/
structure RowT (w : World) (A : Option Addr) (c : Nat) (l : List ByteArray) : Prop where
  row : RowS w A l
  room : l.length ≤ c
  nil : A = none → c = 0
theorem RowT.kept {w w' : World} {A : Option Addr} {c : Nat} {l : List ByteArray} (h : RowT w A c l) (k : KpS w w') : RowT w' A c l := ⟨h.row.kept k, h.room, h.nil⟩
theorem RowT.own {w : World} {base n c m : Nat} {A : Option Addr} {l : List ByteArray} (h : w.ownsRow base 9 1 (.slice A n c) m (l.map (fun x => .string x))) (hm : l.length = m) : RowT w A c l := by
  refine ⟨rowS_own h hm, ?_, fun e => ?_⟩
  · rcases h.2 with ⟨_, e⟩ | ⟨g, cap, cur, e, _, _, hc, _⟩
    · omega
    · injection e with _ _ e3; omega
  · rcases h.2 with ⟨e1, _⟩ | ⟨g, cap, cur, e1, _⟩
    · injection e1
    · injection e1 with e2; rw [e] at e2; cases e2
theorem RowT.none0 {w : World} {A : Option Addr} {c : Nat} {l : List ByteArray} (h : RowT w A c l) (e : A = none) : l.length = 0 ∧ c = 0 := by
  refine ⟨?_, h.nil e⟩
  have := h.room
  have := h.nil e
  omega
theorem RowT.src {w : World} {A : Option Addr} {c : Nat} {l : List ByteArray} (h : RowT w A c l) : Src w A (l.map (fun x => .string x)) := by
  refine ⟨fun e => ?_, fun ad e j u hu => ?_⟩
  · rw [List.eq_nil_of_length_eq_zero (h.none0 e).1]; rfl
  · rw [List.getElem?_map] at hu
    obtain ⟨x, hx, rfl⟩ := Option.map_eq_some_iff.1 hu
    obtain ⟨g, cs, fr, e', _, hc⟩ := h.row (by have := (List.getElem?_eq_some_iff.1 hx).1; omega)
    rw [e] at e'; injection e' with e'; subst e'
    rw [Addr.add_lit, Nat.zero_add]
    exact hc j x hx
theorem txt_one (l : List ByteArray) : ∀ v ∈ l.map (fun x => Value.string x), v.oneCell' = true := fun v hv => by
  obtain ⟨x, _, rfl⟩ := List.mem_map.1 hv; rfl
theorem RowT.below {w w' : World} {A : Option Addr} {c : Nat} {l : List ByteArray} (h : RowT w A c l) (b : Below w.heap.size w w') : RowT w' A c l := h.kept (KpS.below b)
theorem RowS.reads {w : World} {A : Option Addr} {l : List ByteArray} (h : RowS w A l) : ReadsT w w.heap.size A l := fun h0 => by
  obtain ⟨g, cs, fr, e, hg, hc⟩ := h h0
  exact ⟨g, e, (Array.getElem?_eq_some_iff.1 hg).1, hc⟩
/-- blocks that hold no texts -/
def NoTxt (w : World) (S : List Nat) : Prop := ∀ k ∈ S, ∀ (cs : Array Value) (fr : Nat × Nat), w.heap[k]? ≠ some (.cells cs 9 fr)
theorem KpS.only {S : List Nat} {w w' : World} (o : Only S w w') (hS : NoTxt w S) : KpS w w' := fun k cs fr hk => o.block k (Array.getElem?_eq_some_iff.1 hk).1 (fun e => hS k e cs fr hk)

theorem keyS {s : ByteArray} (hs : s.size ≤ maxLen) : keyOf Try.prog 9 (.string s) = some (.string s.data.toList) := WideMaps.keyOf_string_mk Try.underlying9 hs
/-! the map -/
def GrpD (w : World) (D : DataW Value) (Q : List Se) : Prop := (∀ x : List UInt8, Maps.has D (.string x) = true ↔ ∃ q ∈ Q, kb q.m.name = x) ∧ ∀ q ∈ Q, ∃ A c, (∀ z, D.atKey (.string (kb q.m.name)) z = .held (seV q A c)) ∧ RowT w A c q.m.ts
def IsGrp (w : World) (b N : Nat) (Q : List Se) : Prop := ∃ D, w.ownsMap Try.prog 9 rdS b N D ∧ GrpD w D Q
theorem GrpD.kept {w w' : World} {D : DataW Value} {Q : List Se} (h : GrpD w D Q) (k : KpS w w') : GrpD w' D Q := ⟨h.1, fun q hq => by
  obtain ⟨A, c, h1, h2⟩ := h.2 q hq
  exact ⟨A, c, h1, h2.kept k⟩⟩
theorem GrpD.has {w : World} {D : DataW Value} {Q : List Se} (h : GrpD w D Q) (s : ByteArray) : Maps.has D (.string s.data.toList) = hasS Q s := by
  cases e : hasS Q s
  · cases e' : Maps.has D (.string s.data.toList)
    · rfl
    · obtain ⟨q, hq, e2⟩ := (h.1 _).1 e'
      exact absurd (kb_inj e2) (hasS_not.1 e q hq)
  · obtain ⟨q, hq, rfl⟩ := hasS_mem.1 e
    exact (h.1 _).2 ⟨q, hq, rfl⟩
theorem GrpD.put {w w' : World} {D : DataW Value} {Q Q' : List Se} (h : GrpD w D Q) (k : KpS w w') (hm : IsMap D) (s : Se) (A : Option Addr) (c : Nat) (hR : RowT w' A c s.m.ts) (hm' : ∀ x, x ∈ Q' ↔ x = s ∨ (x ∈ Q ∧ x.m.name ≠ s.m.name)) : GrpD w' (D.put (.string (kb s.m.name)) (.held (seV s A c))) Q' := by
  refine ⟨fun x => ?_, fun q hq => ?_⟩
  · by_cases e : x = kb s.m.name
    · subst e
      rw [has_put_same hm (isKey_str _)]
      exact ⟨fun _ => ⟨_, (hm' _).2 (.inl rfl), rfl⟩, fun _ => rfl⟩
    · rw [has_put_other (fun q => e (by injection q)), h.1]
      constructor
      · rintro ⟨q, hq, rfl⟩
        exact ⟨q, (hm' q).2 (.inr ⟨hq, fun q' => e (by rw [q'])⟩), rfl⟩
      · rintro ⟨q, hq, rfl⟩
        rcases (hm' q).1 hq with rfl | ⟨hq, _⟩
        · exact absurd rfl e
        · exact ⟨q, hq, rfl⟩
  · rcases (hm' q).1 hq with rfl | ⟨hq, hn⟩
    · exact ⟨A, c, fun z => atKey_put_same hm (isKey_str _) _ z, hR⟩
    · obtain ⟨A', c', h1, h2⟩ := h.2 q hq
      refine ⟨A', c', fun z => ?_, h2.kept k⟩
      rw [atKey_put_other (fun q' => hn (kb_inj (by injection q')))]
      exact h1 z
theorem GrpD.del {w : World} {D : DataW Value} {Q Q' : List Se} (h : GrpD w D Q) (s : ByteArray) (hm' : ∀ x, x ∈ Q' ↔ (x ∈ Q ∧ x.m.name ≠ s)) : GrpD w (D.del (.string (kb s))) Q' := by
  refine ⟨fun x => ?_, fun q hq => ?_⟩
  · by_cases e : x = kb s
    · subst e
      rw [has_del_same]
      constructor
      · intro q; cases q
      · rintro ⟨q, hq, e⟩
        exact absurd (kb_inj e) ((hm' q).1 hq).2
    · rw [has_del_other (fun q => e (by injection q)), h.1]
      constructor
      · rintro ⟨q, hq, rfl⟩
        exact ⟨q, (hm' q).2 ⟨hq, fun q' => e (by rw [q'])⟩, rfl⟩
      · rintro ⟨q, hq, rfl⟩
        exact ⟨q, ((hm' q).1 hq).1, rfl⟩
  · obtain ⟨hq, hn⟩ := (hm' q).1 hq
    obtain ⟨A', c', h1, h2⟩ := h.2 q hq
    refine ⟨A', c', fun z => ?_, h2⟩
    rw [atKey_del_other (fun q' => hn (kb_inj (by injection q')))]
    exact h1 z
theorem grpD_new (w : World) : GrpD w (.map []) [] := ⟨fun x => by simp [Maps.has], fun q hq => by cases hq⟩
theorem names_nodup {Q : List Se} (h : RiseS Q) : (Q.map (fun q => kb q.m.name)).Nodup := List.pairwise_map.2 (h.ne.imp (fun hn e => hn (kb_inj e)))
/-- the map's keys are the names -/
theorem GrpD.perm {D : DataW Value} {Q : List Se} {w W : World} {b N : Nat} (h : GrpD W D Q) (hR : RiseS Q) (ho : w.ownsMap Try.prog 9 rdS b N D) : (Q.map (fun q => kb q.m.name)).Perm (strKeys D) := by
  obtain ⟨es, e, hp⟩ := ho.tidy lawStr
  obtain ⟨es', e', hk⟩ := ho.keysOf
  rw [e] at e'; injection e' with e'; subst e'
  have hh := h.1
  subst e
  refine perm_strKeys hp (fun p hp' => ?_) (names_nodup hR) (fun x => ?_)
  · obtain ⟨key, hkey⟩ := hk p hp'
    obtain ⟨x, _, hx, _⟩ := Maps.keyOf_str Try.underlying9 hkey
    exact ⟨x, hx⟩
  · rw [hh, List.mem_map]
theorem GrpD.size {D : DataW Value} {Q : List Se} {w W : World} {b N : Nat} (h : GrpD W D Q) (hR : RiseS Q) (ho : w.ownsMap Try.prog 9 rdS b N D) : Maps.size D = Q.length := by
  have hp := (h.perm hR ho).length_eq
  obtain ⟨es, rfl, _⟩ := ho.tidy lawStr
  rw [List.length_map] at hp
  rw [hp, Maps.size_eq]
  show _ = (es.map _).length
  rw [List.length_map]
/-- sorted they are the names as they rise -/
theorem seats_sort {Q : List Se} (h : RiseS Q) {ss : List (List UInt8)} (hp : ss.Perm (Q.map (fun q => kb q.m.name))) : ss.mergeSort (fun x y => decide (x ≤ y)) = Q.map (fun q => kb q.m.name) := by
  have e := mergeSort_of_perm hp
  rw [show (fun x y : List UInt8 => decide (x ≤ y)) = leB from rfl, e]
  refine List.mergeSort_of_pairwise ?_
  refine List.pairwise_map.2 (h.imp fun {a b} hl => ?_)
  rw [less_le] at hl
  simp only [leB, decide_eq_true_eq]
  exact (List.le_total _ _).resolve_right hl
theorem IsGrp.map {w : World} {b N : Nat} {Q : List Se} (h : IsGrp w b N Q) : ∃ es c, w.heap[b]? = some (.map es c) := by
  obtain ⟨_, ⟨es, c, hb, _⟩, _⟩ := h
  exact ⟨es, c, hb⟩
theorem IsGrp.lt {w : World} {b N : Nat} {Q : List Se} (h : IsGrp w b N Q) : b < w.heap.size := by
  obtain ⟨es, c, hb⟩ := h.map
  exact (Array.getElem?_eq_some_iff.1 hb).1
theorem IsGrp.kept {w w' : World} {b N : Nat} {Q : List Se} (h : IsGrp w b N Q) (hb : w'.heap[b]? = w.heap[b]?) (k : KpS w w') : IsGrp w' b N Q := by
  obtain ⟨D, ⟨es, clock, h1, F, hs, hD⟩, hc⟩ := h
  exact ⟨D, ⟨es, clock, hb.trans h1, F, hs, hD⟩, hc.kept k⟩
theorem IsGrp.below {w w' : World} {b N : Nat} {Q : List Se} (h : IsGrp w b N Q) (hb : Below w.heap.size w w') : IsGrp w' b N Q := h.kept (hb.block b h.lt) (KpS.below hb)
theorem isGrp_made (w : World) : IsGrp (w.alloc (.map #[] 0)) w.heap.size 0 [] := ⟨_, World.ownsMap_made w _ _ _, grpD_new _⟩
theorem IsGrp.mono {w : World} {b N N' : Nat} {Q : List Se} (h : IsGrp w b N Q) (hN : N ≤ N') : IsGrp w b N' Q := by
  obtain ⟨D, ho, hd⟩ := h
  exact ⟨D, ho.mono hN, hd⟩
theorem mapTxt {w : World} {b N : Nat} {Q : List Se} (h : IsGrp w b N Q) : ∀ (cs : Array Value) (fr : Nat × Nat), w.heap[b]? ≠ some (.cells cs 9 fr) := fun cs fr e => by
  obtain ⟨es, c, hb⟩ := h.map
  rw [hb] at e; cases e
theorem kpS_map {w w' : World} {b N : Nat} {Q : List Se} (h : IsGrp w b N Q) (o : Only [b] w w') : KpS w w' := KpS.only o (fun k hk cs fr => by
  rw [show k = b by simpa using hk]
  exact mapTxt h cs fr)
/-- a store into the map -/
theorem IsGrp.store {w : World} {b N : Nat} {Q Q' : List Se} (h : IsGrp w b N Q) (hN : N < maxLen) (s : Se) (A : Option Addr) (n c : Nat) (hn : s.m.ts.length = n) (hs : s.m.name.size ≤ maxLen) (hR : RowT w A c s.m.ts) (hm' : ∀ x, x ∈ Q' ↔ x = s ∨ (x ∈ Q ∧ x.m.name ≠ s.m.name)) :
    ∃ w', (Instr.mapUpdate 86 (.map (some b)) (.string s.m.name) (.agg #[.string s.m.name, .slice A n c, .int .i64 s.tm, .int .i64 s.sn])).run Try.prog w = .ok () w' ∧ IsGrp w' b (N + 1) Q' ∧ Only [b] w w' := by
  subst hn
  have h0 := h
  obtain ⟨D, ho, hd⟩ := h
  obtain ⟨w', hrun, ho', ht⟩ := ho.store lawStr Try.underlying86 hN (keyS hs) (rdS_se s A c)
  have o := Only.ofGrown ht.grown
  have k := kpS_map h0 o
  exact ⟨w', hrun, ⟨_, ho', hd.put k ho.isMap s A c (hR.kept k) hm'⟩, o⟩
theorem zeroSeat (w : World) : (zeroValue 47).run Try.prog w = .ok (.agg #[.string ⟨#[]⟩, .slice none 0 0, .int .i64 0, .int .i64 0]) w := by kernel_rfl
/-- what is found -/
theorem IsGrp.look {w : World} {b N : Nat} {Q : List Se} (h : IsGrp w b N Q) {s : Se} (hs : s ∈ Q) (hz : s.m.name.size ≤ maxLen) : ∃ A c, RowT w A c s.m.ts ∧ ∀ w', w'.heap[b]? = w.heap[b]? → (Instr.lookup 86 (.map (some b)) (.string s.m.name) false).run Try.prog w' = .ok (.agg #[.string s.m.name, .slice A s.m.ts.length c, .int .i64 s.tm, .int .i64 s.sn]) w' := by
  obtain ⟨D, ho, hd⟩ := h
  obtain ⟨A, c, h1, h2⟩ := hd.2 s hs
  refine ⟨A, c, h2, fun w' hb => ?_⟩
  have ho' : w'.ownsMap Try.prog 9 rdS b N D := by
    obtain ⟨es, c, h1, h2⟩ := ho
    exact ⟨es, c, hb.trans h1, h2⟩
  obtain ⟨v, ps, hrun, hv⟩ := ho'.lookup lawStr Try.underlying86 (zeroSeat w') (show rdS (.agg _) = some (.held (.agg _), []) from rfl) (keyS hz)
  obtain ⟨xs, rfl, e⟩ := rdS_inv hv
  rw [show (s.m.name.data.toList) = kb s.m.name from rfl, h1] at e
  have e2 : seV s A c = Value.agg xs := DataW.held.inj (Prod.mk.inj e).1
  rw [hrun, ← e2]
  unfold seV
  with_reducible rfl

/-! a group -/
structure Gp (w : World) (g b N : Nat) (G : Int) (r : Bool) (Q : List Se) : Prop where
  row : w.heap[g]? = some (.cells #[.int .i64 G, .bool r, .map (some b)] 88 (0, 0))
  map : IsGrp w b N Q
section
variable {w w' : World} {g b N : Nat} {G : Int} {r : Bool} {Q : List Se}
theorem Gp.c0 (h : Gp w g b N G r Q) : w.cell? ⟨g, 0, none⟩ = some (.int .i64 G) := (cell_of_row _ _ 0 _ _ _ h.row).trans rfl
theorem Gp.c1 (h : Gp w g b N G r Q) : w.cell? ⟨g, 1, none⟩ = some (.bool r) := (cell_of_row _ _ 1 _ _ _ h.row).trans rfl
theorem Gp.c2 (h : Gp w g b N G r Q) : w.cell? ⟨g, 2, none⟩ = some (.map (some b)) := (cell_of_row _ _ 2 _ _ _ h.row).trans rfl
theorem Gp.froz (h : Gp w g b N G r Q) (i : Nat) : w.frozen? ⟨g, i, none⟩ = false := frozen_of_row _ _ _ _ _ h.row
theorem Gp.lt (h : Gp w g b N G r Q) : g < w.heap.size := (Array.getElem?_eq_some_iff.1 h.row).1
theorem Gp.kept (h : Gp w g b N G r Q) (h1 : w'.heap[g]? = w.heap[g]?) (h2 : w'.heap[b]? = w.heap[b]?) (k : KpS w w') : Gp w' g b N G r Q := ⟨h1.trans h.row, h.map.kept h2 k⟩
theorem Gp.below (h : Gp w g b N G r Q) (hb : Below w.heap.size w w') : Gp w' g b N G r Q := h.kept (hb.block g h.lt) (hb.block b h.map.lt) (KpS.below hb)
theorem Gp.only {S : List Nat} (h : Gp w g b N G r Q) (o : Only S w w') (h1 : g ∉ S) (h2 : b ∉ S) (hS : NoTxt w S) : Gp w' g b N G r Q := h.kept (o.block g h.lt h1) (o.block b h.map.lt h2) (KpS.only o hS)
theorem Gp.gb (h : Gp w g b N G r Q) : g ≠ b := fun e => by
  obtain ⟨es, c, hb⟩ := h.map.map
  have := h.row
  rw [e, hb] at this; injection this with e; cases e
theorem Gp.noTxt (h : Gp w g b N G r Q) : NoTxt w [g, b] := fun k hk cs fr => by
  rcases List.mem_cons.1 hk with rfl | hk
  · rw [h.row]; intro e; injection e with e; injection e with _ e; exact absurd e (by decide)
  · rw [show k = b by simpa using hk]
    exact mapTxt h.map cs fr
/-- behind a turn of its map -/
theorem Gp.turned {N' : Nat} {Q' : List Se} (h : Gp w g b N G r Q) (o : Only [b] w w') (hm : IsGrp w' b N' Q') : Gp w' g b N' G r Q' := ⟨(o.block g h.lt (by simpa using h.gb)).trans h.row, hm⟩
theorem Gp.mono {N' : Nat} (h : Gp w g b N G r Q) (hN : N ≤ N') : Gp w g b N' G r Q := ⟨h.row, h.map.mono hN⟩
/-- behind a store into its row -/
theorem KpS.setRow {p : Addr} {v : Value} (h : ∀ (cs : Array Value) (fr : Nat × Nat), w.heap[p.block]? ≠ some (.cells cs 9 fr)) : KpS w (w.setCell p v) := fun k cs fr hk =>
  Below.heap_setCell _ _ _ _ (fun e => h cs fr (by rw [← e]; exact hk))
theorem Gp.rowTxt (h : Gp w g b N G r Q) : ∀ (cs : Array Value) (fr : Nat × Nat), w.heap[g]? ≠ some (.cells cs 9 fr) := h.noTxt g (by simp)
theorem Gp.setGen (h : Gp w g b N G r Q) (x : Int) : Gp (w.setCell ⟨g, 0, none⟩ (.int .i64 x)) g b N x r Q :=
  ⟨heap_setCell_same _ _ _ _ _ _ h.row, h.map.kept (Below.heap_setCell _ _ _ _ (fun e => h.gb e.symm)) (KpS.setRow h.rowTxt)⟩
theorem Gp.setRobin (h : Gp w g b N G r Q) (x : Bool) : Gp (w.setCell ⟨g, 1, none⟩ (.bool x)) g b N G x Q :=
  ⟨heap_setCell_same _ _ _ _ _ _ h.row, h.map.kept (Below.heap_setCell _ _ _ _ (fun e => h.gb e.symm)) (KpS.setRow h.rowTxt)⟩
end
end Go.Proofs.Ytidgifnnkaheeaa.L11
