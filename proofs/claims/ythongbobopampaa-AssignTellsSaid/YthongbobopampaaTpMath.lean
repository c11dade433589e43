/-
  Plain: catalogs of topics: which there are, how many partitions each has.
-/
import Derived.Test.YthongbobopampaaMReqNames
import Derived.Test.YthongbobopampaaReqAlike
import Derived.Sort.KeysCollected
import Derived.Maps.OwnSet
import Derived.Maps.OwnIn
import Derived.StringKeys
namespace Go.Proofs.Ythongbobopampaa.L9
open Go.RowKit
open Go.Maps
open L3 L4

/-! ### which name stands ahead -/
/-- a name as a map's key -/
abbrev kb (x : ByteArray) : List UInt8 := x.data.toList
theorem kb_inj {a b : ByteArray} (h : kb a = kb b) : a = b := by
  cases a; cases b
  simp [kb] at h
  simp [h]
theorem lessL_lt : ∀ x y : List UInt8, lessL (x.map UInt8.toNat) (y.map UInt8.toNat) = decide (x < y)
  | [], [] => by simp [lessL]
  | [], b :: y => by simp [lessL]
  | a :: x, [] => by simp [lessL]
  | a :: x, b :: y => by
    simp only [List.map_cons, lessL]
    by_cases h : a = b
    · subst h
      simp [lessL_lt x y]
    · have hn : ¬ a.toNat = b.toNat := fun e => h (UInt8.toNat_inj.1 e)
      rw [if_neg hn]
      simp [List.cons_lt_cons_iff, h, UInt8.lt_iff_toNat_lt]
theorem lessB_kb (a b : ByteArray) : lessB a b = decide (kb a < kb b) := by
  unfold lessB
  rw [← lessL_lt]
  rfl
theorem less_le (a b : ByteArray) : lessB a b = true ↔ ¬ kb b ≤ kb a := by
  rw [lessB_kb, decide_eq_true_eq, List.not_le]
theorem less_irr (a : ByteArray) : lessB a a = false := by
  cases h : lessB a a
  · rfl
  · exact absurd (List.le_refl _) ((less_le a a).1 h)
theorem less_trans {a b c : ByteArray} (h : lessB a b = true) (h' : lessB b c = true) : lessB a c = true := by
  rw [less_le] at *
  intro q
  rcases List.le_total (kb a) (kb b) with r | r
  · exact h' (List.le_trans q r)
  · exact h r
theorem less_apart {a b : ByteArray} (h : lessB a b = false) (hn : a ≠ b) : lessB b a = true := by
  rw [less_le]
  intro q
  have : ¬ lessB a b = true := by simp [h]
  rw [less_le] at this
  exact hn (kb_inj (List.le_antisymm q (Classical.not_not.1 this)))
theorem less_ne {a b : ByteArray} (h : lessB a b = true) : a ≠ b := fun e => by rw [e, less_irr] at h; cases h

/-! ### catalogs -/
def Rise (Q : List Pt) : Prop := Q.Pairwise (fun a b => lessB a.t b.t = true)
def hasB (Q : List Pt) (s : ByteArray) : Bool := Q.any (fun x => decide (x.t = s))
def numOf (Q : List Pt) (s : ByteArray) : Int := ((Q.find? (fun x => decide (x.t = s))).map Pt.n).getD 0
def mayB (s : ByteArray) (n : Int) : Bool := nameB s && decide (1 ≤ n ∧ n ≤ 8)
structure Good (Q : List Pt) : Prop where
  rise : Rise Q
  may : ∀ x ∈ Q, mayB x.t x.n = true
  len : Q.length ≤ 8
theorem good_new : Good [] := ⟨List.Pairwise.nil, fun _ h => (nomatch h), Nat.zero_le _⟩
theorem may_fit {s : ByteArray} {n : Int} (h : mayB s n = true) : s.size ≤ 16 ∧ 1 ≤ n ∧ n ≤ 8 := by
  unfold mayB nameB at h
  simp only [Bool.and_eq_true, decide_eq_true_eq] at h
  exact ⟨h.1.1.2, h.2⟩
theorem may_name {s : ByteArray} {n : Int} (h : mayB s n = true) : nameB s = true := by
  unfold mayB at h
  simp only [Bool.and_eq_true] at h
  exact h.1
theorem Good.fit {Q : List Pt} (g : Good Q) : ∀ x ∈ Q, x.t.size ≤ 16 ∧ 1 ≤ x.n ∧ x.n ≤ 8 := fun x hx => may_fit (g.may x hx)
theorem Rise.ne {Q : List Pt} (h : Rise Q) : Q.Pairwise (fun a b => a.t ≠ b.t) := h.imp less_ne
theorem apart_eq {Q : List Pt} (h : Q.Pairwise (fun a b => a.t ≠ b.t)) {x y : Pt} (hx : x ∈ Q) (hy : y ∈ Q) (e : x.t = y.t) : x = y := by
  induction Q with
  | nil => cases hx
  | cons a t ih =>
    obtain ⟨h1, h2⟩ := List.pairwise_cons.1 h
    rcases List.mem_cons.1 hx with q | q
    · rcases List.mem_cons.1 hy with r | r
      · rw [q, r]
      · exact absurd (q ▸ e) (h1 y r)
    · rcases List.mem_cons.1 hy with r | r
      · exact absurd (r ▸ e).symm (h1 x q)
      · exact ih h2 q r
theorem has_mem {Q : List Pt} {s : ByteArray} : hasB Q s = true ↔ ∃ x ∈ Q, x.t = s := by simp [hasB]
theorem has_not {Q : List Pt} {s : ByteArray} : hasB Q s = false ↔ ∀ x ∈ Q, x.t ≠ s := by simp [hasB]
theorem num_mem {Q : List Pt} (h : Q.Pairwise (fun a b => a.t ≠ b.t)) {x : Pt} (hx : x ∈ Q) : numOf Q x.t = x.n := by
  unfold numOf
  cases e : Q.find? (fun y => decide (y.t = x.t)) with
  | none => exact absurd (decide_eq_true rfl) (List.find?_eq_none.1 e x hx)
  | some y =>
    have h1 := List.find?_some e
    have h2 := List.mem_of_find?_eq_some e
    rw [apart_eq h h2 hx (by simpa using h1)]
    rfl
theorem num_none {Q : List Pt} {s : ByteArray} (h : hasB Q s = false) : numOf Q s = 0 := by
  unfold numOf
  rw [List.find?_eq_none.2 (fun x hx => by simpa using has_not.1 h x hx)]
  rfl
theorem Good.num {Q : List Pt} (g : Good Q) (s : ByteArray) : 0 ≤ numOf Q s ∧ numOf Q s ≤ 8 ∧ (hasB Q s = true → 1 ≤ numOf Q s) := by
  cases h : hasB Q s
  · rw [num_none h]; simp
  · obtain ⟨x, hx, rfl⟩ := has_mem.1 h
    rw [num_mem g.rise.ne hx]
    have := g.fit x hx
    exact ⟨by omega, by omega, fun _ => by omega⟩

/-! ### one more -/
def makeE (Q : List Pt) (s : ByteArray) (n : Int) : Int := if mayB s n = false then 1 else if hasB Q s = true then 90 else if 8 ≤ Q.length then 2 else 0
def insQ : List Pt → Pt → List Pt
  | [], x => [x]
  | y :: t, x => if lessB y.t x.t = true then y :: insQ t x else x :: y :: t
def makeQ (Q : List Pt) (s : ByteArray) (n : Int) : List Pt := if makeE Q s n = 0 then insQ Q ⟨s, n⟩ else Q
theorem mem_ins {Q : List Pt} {x y : Pt} : y ∈ insQ Q x ↔ y = x ∨ y ∈ Q := by
  induction Q with
  | nil => simp [insQ]
  | cons a t ih =>
    unfold insQ
    split
    · simp only [List.mem_cons, ih]
      constructor
      · rintro (h | h | h)
        · exact .inr (.inl h)
        · exact .inl h
        · exact .inr (.inr h)
      · rintro (h | h | h)
        · exact .inr (.inl h)
        · exact .inl h
        · exact .inr (.inr h)
    · simp
theorem len_ins {Q : List Pt} {x : Pt} : (insQ Q x).length = Q.length + 1 := by
  induction Q with
  | nil => rfl
  | cons a t ih => unfold insQ; split <;> simp [ih]
theorem rise_ins {Q : List Pt} (h : Rise Q) {x : Pt} (hn : hasB Q x.t = false) : Rise (insQ Q x) := by
  induction Q with
  | nil => exact List.pairwise_singleton _ _
  | cons a t ih =>
    obtain ⟨h1, h2⟩ := List.pairwise_cons.1 h
    have hq := has_not.1 hn
    unfold insQ
    split
    · rename_i hl
      refine List.pairwise_cons.2 ⟨fun y hy => ?_, ih h2 (has_not.2 fun y hy => hq y (List.mem_cons_of_mem _ hy))⟩
      rcases mem_ins.1 hy with rfl | hy
      · exact hl
      · exact h1 y hy
    · rename_i hl
      have ha : lessB x.t a.t = true := less_apart (by simpa using hl) (hq a List.mem_cons_self)
      refine List.pairwise_cons.2 ⟨fun y hy => ?_, h⟩
      rcases List.mem_cons.1 hy with rfl | hy
      · exact ha
      · exact less_trans ha (h1 y hy)
/-- the place where a name goes -/
def plIns (Q : List Pt) (s : ByteArray) : Nat := (Q.takeWhile (fun y => lessB y.t s)).length
theorem ins_at (Q : List Pt) (x : Pt) : insQ Q x = Q.take (plIns Q x.t) ++ x :: Q.drop (plIns Q x.t) := by
  induction Q with
  | nil => rfl
  | cons a t ih =>
    unfold insQ plIns
    by_cases h : lessB a.t x.t = true
    · rw [if_pos h, ih]
      simp [h, plIns]
    · rw [if_neg h]
      simp [h]
theorem makeE_ok {Q : List Pt} {s : ByteArray} {n : Int} (h : makeE Q s n = 0) : mayB s n = true ∧ hasB Q s = false ∧ Q.length < 8 := by
  unfold makeE at h
  split at h
  · cases h
  · split at h
    · cases h
    · split at h
      · cases h
      · rename_i h1 h2 h3
        exact ⟨by simpa using h1, by simpa using h2, by omega⟩
theorem good_make {Q : List Pt} (g : Good Q) (s : ByteArray) (n : Int) : Good (makeQ Q s n) := by
  unfold makeQ
  split
  · rename_i h
    obtain ⟨h1, h2, h3⟩ := makeE_ok h
    refine ⟨rise_ins g.rise h2, fun x hx => ?_, by rw [len_ins]; omega⟩
    rcases mem_ins.1 hx with rfl | hx
    · exact h1
    · exact g.may x hx
  · exact g

/-! ### more partitions; a topic goes -/
def growE (Q : List Pt) (s : ByteArray) (n : Int) : Int := if hasB Q s = false then 91 else if n < numOf Q s ∨ 8 < n then 1 else 0
def setQ (Q : List Pt) (s : ByteArray) (n : Int) : List Pt := Q.map (fun y => if y.t = s then ⟨s, n⟩ else y)
def growQ (Q : List Pt) (s : ByteArray) (n : Int) : List Pt := if growE Q s n = 0 then setQ Q s n else Q
theorem growE_ok {Q : List Pt} {s : ByteArray} {n : Int} (h : growE Q s n = 0) : hasB Q s = true ∧ numOf Q s ≤ n ∧ n ≤ 8 := by
  unfold growE at h
  split at h
  · cases h
  · split at h
    · cases h
    · rename_i h1 h2
      exact ⟨by simpa using h1, by omega, by omega⟩
theorem set_t (Q : List Pt) (s : ByteArray) (n : Int) : (setQ Q s n).map Pt.t = Q.map Pt.t := by
  unfold setQ
  rw [List.map_map]
  refine List.map_congr_left fun y _ => ?_
  simp only [Function.comp]
  split
  · rename_i h; exact h.symm
  · rfl
theorem rise_map {Q : List Pt} : Rise Q ↔ (Q.map Pt.t).Pairwise (fun a b => lessB a b = true) := by
  unfold Rise
  rw [List.pairwise_map]
theorem mem_set {Q : List Pt} {s : ByteArray} {n : Int} (hh : hasB Q s = true) {x : Pt} : x ∈ setQ Q s n ↔ x = ⟨s, n⟩ ∨ (x ∈ Q ∧ x.t ≠ s) := by
  unfold setQ
  rw [List.mem_map]
  constructor
  · rintro ⟨y, hy, rfl⟩
    split
    · exact .inl rfl
    · rename_i h; exact .inr ⟨hy, h⟩
  · rintro (rfl | ⟨hx, hn⟩)
    · obtain ⟨y, hy, e⟩ := has_mem.1 hh
      exact ⟨y, hy, by rw [if_pos e]⟩
    · exact ⟨x, hx, by rw [if_neg hn]⟩
theorem good_grow {Q : List Pt} (g : Good Q) (s : ByteArray) (n : Int) : Good (growQ Q s n) := by
  unfold growQ
  split
  · rename_i h
    obtain ⟨h1, h2, h3⟩ := growE_ok h
    refine ⟨rise_map.2 (by rw [set_t]; exact rise_map.1 g.rise), fun x hx => ?_, by simpa [setQ] using g.len⟩
    rcases (mem_set h1).1 hx with rfl | ⟨hx, _⟩
    · obtain ⟨y, hy, e⟩ := has_mem.1 h1
      have hm := may_name (g.may y hy)
      have := (g.num s).2.2 h1
      rw [e] at hm
      show mayB s n = true
      unfold mayB
      rw [hm, decide_eq_true (show 1 ≤ n ∧ n ≤ 8 from ⟨by omega, h3⟩)]
      rfl
    · exact g.may x hx
  · exact g
def dropE (Q : List Pt) (s : ByteArray) : Int := if hasB Q s = true then 0 else 91
def dropQ (Q : List Pt) (s : ByteArray) : List Pt := Q.filter (fun y => !decide (y.t = s))
theorem mem_drop {Q : List Pt} {s : ByteArray} {x : Pt} : x ∈ dropQ Q s ↔ x ∈ Q ∧ x.t ≠ s := by simp [dropQ]
theorem drop_none {Q : List Pt} {s : ByteArray} (h : hasB Q s = false) : dropQ Q s = Q := by
  unfold dropQ
  rw [List.filter_eq_self]
  intro x hx
  simpa using has_not.1 h x hx
theorem good_drop {Q : List Pt} (g : Good Q) (s : ByteArray) : Good (dropQ Q s) :=
  ⟨List.Pairwise.filter _ g.rise, fun x hx => g.may x (mem_drop.1 hx).1, Nat.le_trans (List.length_filter_le _ _) g.len⟩

/-! ### what is told -/
def hasP (Q : List Pt) (s : ByteArray) (n : Int) : Bool := decide (0 ≤ n) && decide (n < numOf Q s)
def someP (y : Pt) : List Pt := (List.range y.n.toNat).map (fun i : Nat => (⟨y.t, (i : Int)⟩ : Pt))
def inB (names : List ByteArray) (s : ByteArray) : Bool := names.any (fun x => decide (x = s))
def partsQ (Q : List Pt) (names : List ByteArray) : List Pt := Q.flatMap (fun y => if inB names y.t = true then someP y else [])
theorem someP_len (y : Pt) : (someP y).length = y.n.toNat := by simp [someP]
theorem parts_len {Q : List Pt} (g : ∀ x ∈ Q, x.n ≤ 8) (names : List ByteArray) : (partsQ Q names).length ≤ 8 * Q.length := by
  induction Q with
  | nil => simp [partsQ]
  | cons a t ih =>
    have h1 := ih (fun x hx => g x (List.mem_cons_of_mem _ hx))
    have h2 := g a List.mem_cons_self
    have h3 : (if inB names a.t = true then someP a else []).length ≤ 8 := by
      split
      · rw [someP_len]; omega
      · simp
    unfold partsQ at h1 ⊢
    rw [List.flatMap_cons, List.length_append, List.length_cons]
    omega

/-! ### Load -/
def okAt (l : List Pt) (i : Nat) : Prop := ∀ x, l[i]? = some x → mayB x.t x.n = true ∧ (0 < i → ∀ y, l[i - 1]? = some y → lessB y.t x.t = true)
def OkTo (l : List Pt) (k : Nat) : Prop := ∀ i, i < k → okAt l i
/-- what loading tells: x is the error -/
def loadE (l : List Pt) (x : Int) : Prop := if 8 < l.length then x = 2 else (x = 0 ∧ OkTo l l.length) ∨ (x = 1 ∧ ¬ OkTo l l.length)
theorem OkTo.next {l : List Pt} {k : Nat} (h : OkTo l k) (h' : okAt l k) : OkTo l (k + 1) := fun i hi => by
  by_cases e : i = k
  · subst e; exact h'
  · exact h i (by omega)
theorem OkTo.rise {l : List Pt} : ∀ {k : Nat}, OkTo l k → k ≤ l.length → Rise (l.take k) ∧ ∀ x ∈ l.take k, mayB x.t x.n = true
  | 0, _, _ => ⟨by simp [Rise], fun x hx => by simp at hx⟩
  | k + 1, h, hk => by
    obtain ⟨h1, h2⟩ := OkTo.rise (k := k) (fun i hi => h i (by omega)) (by omega)
    obtain ⟨x, hx⟩ : ∃ x, l[k]? = some x := ⟨l[k], List.getElem?_eq_getElem (by omega)⟩
    obtain ⟨h3, h4⟩ := h k (by omega) x hx
    rw [List.take_add_one, hx]
    refine ⟨List.pairwise_append.2 ⟨h1, List.pairwise_singleton _ _, fun y hy z hz => ?_⟩, fun y hy => ?_⟩
    · have : z = x := by simpa using hz
      subst this
      have hk0 : 0 < k := by
        rcases Nat.eq_zero_or_pos k with e | e
        · subst e; simp at hy
        · exact e
      obtain ⟨u, hu⟩ : ∃ u, l[k - 1]? = some u := ⟨l[k - 1], List.getElem?_eq_getElem (by omega)⟩
      have hux := h4 hk0 u hu
      have e : l.take k = l.take (k - 1) ++ [u] := by
        have := List.take_add_one (l := l) (i := k - 1)
        rw [hu, show k - 1 + 1 = k by omega] at this
        simpa using this
      rw [e] at hy
      rcases List.mem_append.1 hy with hy | hy
      · have hp := h1
        rw [e] at hp
        exact less_trans ((List.pairwise_append.1 hp).2.2 y hy u (by simp)) hux
      · have : y = u := by simpa using hy
        subst this
        exact hux
    · rcases List.mem_append.1 hy with hy | hy
      · exact h2 y hy
      · have : y = x := by simpa using hy
        subst this
        exact h3
theorem OkTo.good {l : List Pt} (h : OkTo l l.length) (hl : l.length ≤ 8) : Good l := by
  obtain ⟨h1, h2⟩ := h.rise (Nat.le_refl _)
  rw [List.take_length] at h1 h2
  exact ⟨h1, h2, hl⟩
theorem Good.okTo {Q : List Pt} (g : Good Q) : OkTo Q Q.length := fun i _ x hx => ⟨g.may x (List.mem_of_getElem? hx), fun h0 y hy => by
  have hi := (List.getElem?_eq_some_iff.1 hx)
  have hj := (List.getElem?_eq_some_iff.1 hy)
  obtain ⟨a, rfl⟩ := hi
  obtain ⟨b, rfl⟩ := hj
  exact List.pairwise_iff_getElem.1 g.rise (i - 1) i b a (by omega)⟩
/-- one further -/
theorem load_has {l : List Pt} {k : Nat} (h : OkTo l k) (hk : k < l.length) {x : Pt} (hx : l[k]? = some x) (hr : 0 < k → ∀ y, l[k - 1]? = some y → lessB y.t x.t = true) : ∀ y ∈ l.take k, lessB y.t x.t = true := by
  have hk0 := hr
  intro y hy
  obtain ⟨h1, _⟩ := h.rise (Nat.le_of_lt hk)
  have k0 : 0 < k := by
    rcases Nat.eq_zero_or_pos k with e | e
    · subst e; simp at hy
    · exact e
  obtain ⟨u, hu⟩ : ∃ u, l[k - 1]? = some u := ⟨l[k - 1], List.getElem?_eq_getElem (by omega)⟩
  have hux := hr k0 u hu
  have e : l.take k = l.take (k - 1) ++ [u] := by
    have := List.take_add_one (l := l) (i := k - 1)
    rw [hu, show k - 1 + 1 = k by omega] at this
    simpa using this
  rw [e] at hy h1
  rcases List.mem_append.1 hy with hy | hy
  · exact less_trans ((List.pairwise_append.1 h1).2.2 y hy u (by simp)) hux
  · have : y = u := by simpa using hy
    subst this
    exact hux
theorem ins_last {Q : List Pt} {x : Pt} (h : ∀ y ∈ Q, lessB y.t x.t = true) : insQ Q x = Q ++ [x] := by
  induction Q with
  | nil => rfl
  | cons a t ih =>
    unfold insQ
    rw [if_pos (h a List.mem_cons_self), ih (fun y hy => h y (List.mem_cons_of_mem _ hy))]
    rfl
theorem make_next {l : List Pt} {k : Nat} (h : OkTo l k) (hk : k < l.length) (hl : l.length ≤ 8) {x : Pt} (hx : l[k]? = some x) (hr : 0 < k → ∀ y, l[k - 1]? = some y → lessB y.t x.t = true) :
    makeE (l.take k) x.t x.n = (if mayB x.t x.n = false then 1 else 0) ∧ (mayB x.t x.n = true → makeQ (l.take k) x.t x.n = l.take (k + 1)) := by
  have ha := load_has h hk hx hr
  have hn : hasB (l.take k) x.t = false := has_not.2 fun y hy => less_ne (ha y hy)
  have hlen : ¬ 8 ≤ (l.take k).length := by rw [List.length_take]; omega
  have e : makeE (l.take k) x.t x.n = (if mayB x.t x.n = false then 1 else 0) := by
    unfold makeE
    rw [hn]
    split
    · rfl
    · simp only [Bool.false_eq_true, if_false]
  refine ⟨e, fun hm => ?_⟩
  unfold makeQ
  rw [e, hm]
  simp only [Bool.true_eq_false, if_false, if_true]
  rw [show (⟨x.t, x.n⟩ : Pt) = x from rfl, ins_last ha, List.take_add_one, hx]
  rfl
/-- .. not further -/
theorem load_bad {l : List Pt} {k : Nat} (hk : k < l.length) (h : ¬ okAt l k) : ¬ OkTo l l.length := fun q => h (q k hk)
end Go.Proofs.Ythongbobopampaa.L9
