/-
  The partitions of all names, and of one.
-/
import Derived.Test.YtohfbmgonjkhhaaTpCut
namespace Go.Proofs.Ytohfbmgonjkhhaa.L9
open Go.RowKit
open Go.Maps
open L3 L4

/-- the partitions of all topics -/
def allP (Q : List Pt) : List Pt := Q.flatMap someP
theorem parts_of {Q : List Pt} {ns : List ByteArray} (h : ∀ y ∈ Q, inB ns y.t = true) : partsQ Q ns = allP Q := by
  induction Q with
  | nil => rfl
  | cons a t ih =>
    have h1 := ih (fun y hy => h y (List.mem_cons_of_mem _ hy))
    unfold partsQ allP at h1 ⊢
    rw [List.flatMap_cons, List.flatMap_cons, h1, if_pos (h a (List.mem_cons_self ..))]
theorem in_names {Q : List Pt} : ∀ y ∈ Q, inB (Q.map Pt.t) y.t = true := fun y hy => by
  unfold inB
  rw [List.any_eq_true]
  exact ⟨y.t, List.mem_map.2 ⟨y, hy, rfl⟩, decide_eq_true rfl⟩
theorem parts_all (Q : List Pt) : partsQ Q (Q.map Pt.t) = allP Q := parts_of in_names
theorem parts_nil (Q : List Pt) : partsQ Q [] = [] := by
  unfold partsQ
  induction Q with
  | nil => rfl
  | cons a t ih => rw [List.flatMap_cons, ih]; rfl
/-- how many they are -/
def allN (Q : List Pt) : Nat := (Q.map (fun y => y.n.toNat)).sum
theorem all_len (Q : List Pt) : (allP Q).length = allN Q := by
  induction Q with
  | nil => rfl
  | cons a t ih =>
    unfold allP allN at ih ⊢
    rw [List.flatMap_cons, List.length_append, ih, someP_len, List.map_cons, List.sum_cons]
theorem all_n_next {Q : List Pt} {i : Nat} {y : Pt} (h : Q[i]? = some y) : allN (Q.take (i + 1)) = allN (Q.take i) + y.n.toNat := by
  unfold allN
  rw [List.take_add_one, h, List.map_append, List.sum_append]
  simp
theorem all_n_le {Q : List Pt} (h : ∀ y ∈ Q, y.n ≤ 8) : allN Q ≤ 8 * Q.length := by
  induction Q with
  | nil => simp [allN]
  | cons a t ih =>
    have h1 := ih (fun y hy => h y (List.mem_cons_of_mem _ hy))
    have h2 := h a (List.mem_cons_self ..)
    unfold allN at h1 ⊢
    rw [List.map_cons, List.sum_cons, List.length_cons]
    omega
theorem some_get {y x : Pt} {i : Nat} (h : (someP y)[i]? = some x) : i < y.n.toNat ∧ x = ⟨y.t, (i : Int)⟩ := by
  have hi := (List.getElem?_eq_some_iff.1 h).1
  rw [someP_len] at hi
  refine ⟨hi, ?_⟩
  unfold someP at h
  rw [List.getElem?_map, List.getElem?_range hi] at h
  exact (Option.some.inj h).symm
theorem all_mem {Q : List Pt} {x : Pt} (h : x ∈ allP Q) : ∃ y ∈ Q, x.t = y.t ∧ 0 ≤ x.n ∧ x.n < y.n := by
  unfold allP at h
  obtain ⟨y, hy, hx⟩ := List.mem_flatMap.1 h
  obtain ⟨i, hi⟩ := List.getElem?_of_mem hx
  obtain ⟨h1, rfl⟩ := some_get hi
  exact ⟨y, hy, rfl, by show (0 : Int) ≤ (i : Int); omega, by show (i : Int) < y.n; omega⟩
/-- each is there -/
theorem all_has {Q : List Pt} (h : Rise Q) {x : Pt} (hx : x ∈ allP Q) : hasP Q x.t x.n = true := by
  obtain ⟨y, hy, e, h0, h1⟩ := all_mem hx
  unfold hasP
  rw [e, num_mem h.ne hy, decide_eq_true h0, decide_eq_true h1]
  rfl
/-- in order, once -/
theorem all_next {Q : List Pt} (h : Rise Q) : ∀ {k : Nat} {x y : Pt}, (allP Q)[k]? = some x → (allP Q)[k + 1]? = some y → lessB x.t y.t = true ∨ (x.t = y.t ∧ y.n = x.n + 1) := by
  induction Q with
  | nil => intro k x y h1; simp [allP] at h1
  | cons a t ih =>
    intro k x y h1 h2
    have ht := List.pairwise_cons.1 h
    have e : allP (a :: t) = someP a ++ allP t := by unfold allP; rw [List.flatMap_cons]
    rw [e] at h1 h2
    by_cases hk : k + 1 < (someP a).length
    · rw [List.getElem?_append_left (by omega)] at h1
      rw [List.getElem?_append_left hk] at h2
      obtain ⟨_, rfl⟩ := some_get h1
      obtain ⟨_, rfl⟩ := some_get h2
      exact .inr ⟨rfl, by show ((k + 1 : Nat) : Int) = (k : Int) + 1; omega⟩
    · rw [List.getElem?_append_right (by omega)] at h2
      by_cases hk2 : k < (someP a).length
      · rw [List.getElem?_append_left hk2] at h1
        obtain ⟨_, rfl⟩ := some_get h1
        obtain ⟨z, hz, ez, _⟩ := all_mem (List.mem_of_getElem? h2)
        refine .inl ?_
        show lessB a.t y.t = true
        rw [ez]
        exact ht.1 z hz
      · rw [List.getElem?_append_right (by omega)] at h1
        rw [show k + 1 - (someP a).length = (k - (someP a).length) + 1 by omega] at h2
        exact ih ht.2 h1 h2
theorem parts_one' {Q : List Pt} (h : Q.Pairwise (fun a b => a.t ≠ b.t)) (s : ByteArray) : partsQ Q [s] = someP ⟨s, numOf Q s⟩ := by
  induction Q with
  | nil => rfl
  | cons a t ih =>
    have ht := List.pairwise_cons.1 h
    have h1 := ih ht.2
    unfold partsQ at h1 ⊢
    rw [List.flatMap_cons, h1]
    have hin : inB [s] a.t = decide (s = a.t) := by simp [inB]
    rw [hin]
    by_cases e : a.t = s
    · subst e
      have hn : hasB t a.t = false := has_not.2 fun y hy e => ht.1 y hy e.symm
      have h2 : numOf (a :: t) a.t = a.n := num_mem h (List.mem_cons_self ..)
      rw [h2, num_none hn, decide_eq_true rfl, if_pos rfl]
      show someP a ++ someP ⟨a.t, 0⟩ = someP ⟨a.t, a.n⟩
      rw [show someP ⟨a.t, 0⟩ = [] from rfl, List.append_nil]
    · rw [decide_eq_false (fun h => e h.symm), if_neg (by simp), List.nil_append]
      have h2 : numOf (a :: t) s = numOf t s := by unfold numOf; rw [List.find?_cons, decide_eq_false e]
      rw [h2]
theorem parts_one_len {Q : List Pt} (g : Good Q) (s : ByteArray) : ((partsQ Q [s]).length : Int) = numOf Q s := by
  rw [parts_one' g.rise.ne, someP_len]
  have := (g.num s).1
  show ((numOf Q s).toNat : Int) = _
  omega
theorem parts_one_get {Q : List Pt} (g : Good Q) {s : ByteArray} {i : Nat} {x : Pt} (h : (partsQ Q [s])[i]? = some x) : x = ⟨s, (i : Int)⟩ := by
  rw [parts_one' g.rise.ne] at h
  exact (some_get h).2
theorem own_texts {w : World} {base m c n B : Nat} {T : TypeId} {A : Option Addr} {l : List ByteArray} (h : w.ownsRow base T 1 (.slice A n c) m (texts l)) (hm : l.length = m) (hB : ∀ k ∈ bk A, k < B) : ReadsT w B A l := fun h0 => by
  rcases h.2 with ⟨_, e⟩ | ⟨g, cap, cur, e, h1, hh, _⟩
  · omega
  · injection e with e1; subst e1
    refine ⟨g, rfl, hB g (by simp [bk]), fun i d hd => ?_⟩
    have q := h.cells (g := g) rfl i (.string d) (by unfold texts; rw [List.getElem?_map, hd]; rfl)
    rw [Addr.add_lit, Nat.zero_add] at q
    exact q
theorem strInfo9 : (Try.prog.info? 9).map (fun i => (i.zero, i.size, i.bytes)) = some (some (.string ⟨#[]⟩), 1, 16) := by kernel_rfl
theorem texts_one (w : World) (a : ByteArray) : ReadsT (w.alloc (.cells #[.string a] 9)) (w.alloc (.cells #[.string a] 9)).heap.size (some ⟨w.heap.size, 0, none⟩) [a] := fun _ => by
  refine ⟨_, rfl, by simp, fun i s hs => ?_⟩
  have hr := heap_alloc_new w (.cells #[.string a] 9)
  refine (cell_of_row _ _ i _ _ _ hr).trans ?_
  match i, hs with
  | 0, hs => simp at hs; subst hs; rfl
  | i + 1, hs => simp at hs
theorem drewB9 (w : World) : Below w.heap.size w w.drew := (Below.refl _ _).drew
theorem keep2n {W w1 w2 : World} {a1 a2 : Addr} {v1 v2 : Value} (h : (w1.cell? a1 = some v1 ∧ w1.cell? a2 = some v2) ∧ Below W.heap.size W w1) (hb : Below w1.heap.size w1 w2) : (w2.cell? a1 = some v1 ∧ w2.cell? a2 = some v2) ∧ Below W.heap.size W w2 :=
  ⟨⟨(hb.cell (World.block_lt_of_cell? _ _ h.1.1)).trans h.1.1, (hb.cell (World.block_lt_of_cell? _ _ h.1.2)).trans h.1.2⟩, h.2.trans (hb.mono h.2.size)⟩
theorem keep4n {W w1 w2 : World} {a1 a2 a3 a4 : Addr} {v1 v2 v3 v4 : Value} (h : (w1.cell? a1 = some v1 ∧ w1.cell? a2 = some v2 ∧ w1.cell? a3 = some v3 ∧ w1.cell? a4 = some v4) ∧ Below W.heap.size W w1) (hb : Below w1.heap.size w1 w2) : (w2.cell? a1 = some v1 ∧ w2.cell? a2 = some v2 ∧ w2.cell? a3 = some v3 ∧ w2.cell? a4 = some v4) ∧ Below W.heap.size W w2 :=
  ⟨⟨(hb.cell (World.block_lt_of_cell? _ _ h.1.1)).trans h.1.1, (hb.cell (World.block_lt_of_cell? _ _ h.1.2.1)).trans h.1.2.1, (hb.cell (World.block_lt_of_cell? _ _ h.1.2.2.1)).trans h.1.2.2.1, (hb.cell (World.block_lt_of_cell? _ _ h.1.2.2.2)).trans h.1.2.2.2⟩, h.2.trans (hb.mono h.2.size)⟩
end Go.Proofs.Ytohfbmgonjkhhaa.L9
