/-
  Plain: the document's place, which never reaches the members' number, picks whom the program's picks.
-/
import Derived.Test.YthongbobopampaaAsFacts
namespace Go.Proofs.Ythongbobopampaa.L10

theorem pos_zero (ab : List Nat) : posB ab 0 = 0 := by unfold posB; simp
theorem pos_all {ab : List Nat} {n : Nat} (h : ∀ x ∈ ab, x < n) : posB ab n = ab.length := by
  unfold posB
  rw [List.filter_eq_self.2 (fun x hx => by simpa using h x hx)]
/-- behind the last one is ahead of the first one -/
theorem pick_mod {ab : List Nat} {p n : Nat} (h : ∀ x ∈ ab, x < n) (hp : p ≤ n) : pickB ab (p % n) = pickB ab p := by
  rcases Nat.lt_or_ge p n with q | q
  · rw [Nat.mod_eq_of_lt q]
  · obtain rfl : p = n := by omega
    unfold pickB
    rw [Nat.mod_self, pos_zero, pos_all h, Nat.mod_self, Nat.zero_mod]
theorem pos_skip {ab : List Nat} {d : Nat} (hd : d ∉ ab) : posB ab (d + 1) = posB ab d := by
  unfold posB
  congr 1
  refine List.filter_congr fun x hx => ?_
  have : x ≠ d := fun e => hd (e ▸ hx)
  have e : (x < d + 1) ↔ (x < d) := by omega
  simp [e]
/-- one who does not want it is passed over -/
theorem pick_skip {ab : List Nat} {d n : Nat} (h : ∀ x ∈ ab, x < n) (hd : d < n) (hn : d ∉ ab) : pickB ab ((d + 1) % n) = pickB ab d := by
  rw [pick_mod h hd]
  unfold pickB
  rw [pos_skip hn]
/-- one who wants it is it -/
theorem pick_hit {ab : List Nat} (hr : ab.Pairwise (· < ·)) {d : Nat} (hd : d ∈ ab) : pickB ab d = d := by
  obtain ⟨i, hi, e⟩ := List.mem_iff_getElem.1 hd
  have hat : ab[i]? = some d := by rw [List.getElem?_eq_getElem hi, e]
  have h1 : ¬ i < posB ab d := fun q => by have := (posB_at hr d i d hat).2 q; omega
  have h2 : posB ab d = i := by
    rcases Nat.lt_trichotomy (posB ab d) i with q | q | q
    · have hj : posB ab d < ab.length := by omega
      have hat' : ab[posB ab d]? = some ab[posB ab d] := List.getElem?_eq_getElem hj
      have hlt : ab[posB ab d] < ab[i] := List.pairwise_iff_getElem.1 hr _ _ hj hi q
      have := (posB_at hr d _ _ hat').1 (by omega)
      omega
    · exact q
    · exact absurd q h1
  unfold pickB
  rw [h2, Nat.mod_eq_of_lt hi, List.getD_eq_getElem?_getD, hat]
  rfl
/-- how many are passed over -/
def gapB (ab : List Nat) (n d : Nat) : Nat := if d ≤ pickB ab d then pickB ab d - d else pickB ab d + n - d
theorem gap_skip {ab : List Nat} {d n : Nat} (h : ∀ x ∈ ab, x < n) (hd : d < n) (hn : d ∉ ab) (h0 : ab ≠ []) : gapB ab n ((d + 1) % n) < gapB ab n d := by
  have hm := pick_mem h0 d
  have hne : pickB ab d ≠ d := fun e => hn (e ▸ hm)
  have hlt := h _ hm
  unfold gapB
  rw [pick_skip h hd hn]
  rcases Nat.lt_or_ge (d + 1) n with q | q
  · rw [Nat.mod_eq_of_lt q]
    split <;> split <;> omega
  · obtain rfl : d + 1 = n := by omega
    rw [Nat.mod_self]
    split <;> split <;> omega
end Go.Proofs.Ythongbobopampaa.L10
