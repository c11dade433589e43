/-
  Contracts: which text stands ahead, whether topics may be, whether two lists of texts are the same: the document's.
-/
import Derived.Test.YtflcggpeflagiaaMRecAll
import Derived.Deep.RegionHeld3
namespace Go.Proofs.Ytflcggpeflagiaa.L4
open Go.RowKit
open L3

/-! ### Which text stands ahead -/
def lessL : List Nat → List Nat → Bool
  | [], [] => false
  | [], _ :: _ => true
  | _ :: _, [] => false
  | a :: s, b :: t => if a = b then lessL s t else decide (a < b)
def lessB (a b : ByteArray) : Bool := lessL (V.nats a) (V.nats b)
theorem drop_cons {l : List Nat} {k c : Nat} (h : l[k]? = some c) : l.drop k = c :: l.drop (k + 1) := by
  have e := List.drop_eq_getElem_cons (List.getElem?_eq_some_iff.1 h).1
  rw [e, (List.getElem?_eq_some_iff.1 h).2]
theorem less_next {l m : List Nat} {k c : Nat} (h1 : l[k]? = some c) (h2 : m[k]? = some c) : lessL (l.drop k) (m.drop k) = lessL (l.drop (k + 1)) (m.drop (k + 1)) := by
  rw [drop_cons h1, drop_cons h2]; simp [lessL]
theorem less_part {l m : List Nat} {k c d : Nat} (h1 : l[k]? = some c) (h2 : m[k]? = some d) (h : c ≠ d) : lessL (l.drop k) (m.drop k) = decide (c < d) := by
  rw [drop_cons h1, drop_cons h2]; simp [lessL, h]
theorem less_end {l m : List Nat} {k : Nat} (hl : k ≤ l.length) (hm : k ≤ m.length) (h : k = l.length ∨ k = m.length) : lessL (l.drop k) (m.drop k) = decide (l.length < m.length) := by
  rcases h with h | h
  · rw [List.drop_of_length_le (by omega : l.length ≤ k)]
    by_cases hk : k < m.length
    · rw [List.drop_eq_getElem_cons hk]
      simp [lessL]; omega
    · rw [List.drop_of_length_le (by omega : m.length ≤ k)]
      simp [lessL]; omega
  · rw [List.drop_of_length_le (by omega : m.length ≤ k)]
    by_cases hk : k < l.length
    · rw [List.drop_eq_getElem_cons hk]
      simp [lessL]; omega
    · rw [List.drop_of_length_le (by omega : l.length ≤ k)]
      simp [lessL]; omega

/-! ### Lists of texts -/
/-- a slice that reads as texts -/
def ReadsT (w : World) (B : Nat) (A : Option Addr) (l : List ByteArray) : Prop :=
  0 < l.length → ∃ g, A = some ⟨g, 0, none⟩ ∧ g < B ∧ ∀ i s, l[i]? = some s → w.cell? ⟨g, i, none⟩ = some (.string s)
theorem ReadsT.below {w w' : World} {B : Nat} {A : Option Addr} {l : List ByteArray} (h : ReadsT w B A l) (hb : Below B w w') : ReadsT w' B A l := fun h0 => by
  obtain ⟨g, e, hg, hc⟩ := h h0
  exact ⟨g, e, hg, fun i s hs => (hb.cell (p := ⟨g, i, none⟩) hg).trans (hc i s hs)⟩
theorem ReadsT.mono {w : World} {B B' : Nat} {A : Option Addr} {l : List ByteArray} (h : ReadsT w B A l) (hB : B ≤ B') : ReadsT w B' A l := fun h0 => by
  obtain ⟨g, e, hg, hc⟩ := h h0
  exact ⟨g, e, Nat.lt_of_lt_of_le hg hB, hc⟩

end Go.Proofs.Ytflcggpeflagiaa.L4
/-
  Contracts: whether two lists, two batches, two commands, two replies are the same: the document's.
-/
namespace Go.Proofs.Ytflcggpeflagiaa.L4
open Go.RowKit
open L3

theorem bytes_off {s t : ByteArray} (h : s ≠ t) : (s.toList == t.toList) = false := by
  rw [beq_eq_false_iff_ne]
  intro e
  apply h
  rw [ByteArray.toList_eq, ByteArray.toList_eq] at e
  cases s; cases t
  simpa using e
theorem bool_off {a b : Bool} (h : a ≠ b) : (a == b) = false := by simpa using h
theorem rec_ways (a a' c c' : Bool) (b b' d d' : ByteArray) : (a = a' ∧ b = b' ∧ c = c' ∧ d = d') ∨ (a == a') = false ∨ (a = a' ∧ (b.toList == b'.toList) = false) ∨ (a = a' ∧ b = b' ∧ (c == c') = false) ∨ (a = a' ∧ b = b' ∧ c = c' ∧ (d.toList == d'.toList) = false) := by
  by_cases h1 : a = a'
  · by_cases h2 : b = b'
    · by_cases h3 : c = c'
      · by_cases h4 : d = d'
        · exact .inl ⟨h1, h2, h3, h4⟩
        · exact .inr (.inr (.inr (.inr ⟨h1, h2, h3, bytes_off h4⟩)))
      · exact .inr (.inr (.inr (.inl ⟨h1, h2, bool_off h3⟩)))
    · exact .inr (.inr (.inl ⟨h1, bytes_off h2⟩))
  · exact .inr (.inl (bool_off h1))
theorem rec_off {α : Type} {v : Bool} {l l' : List α} {k : Nat} {x y : α} (h : v = true ↔ l = l') (h1 : l[k]? = some x) (h2 : l'[k]? = some y) (hne : x ≠ y) : v = false := by
  cases v
  · rfl
  · have e := h.1 rfl
    subst e
    rw [h1] at h2
    exact absurd (Option.some.inj h2) hne

end Go.Proofs.Ytflcggpeflagiaa.L4
