/-
  Two producers and a partition, as plain data.
-/
import Derived.Test.YtajdcppajbnhiaaDdFixed
namespace Go.Proofs.Ytajdcppajbnhiaa.L8
open Go.RowKit

theorem lastOf_more (id id' ep : Int) (t t' : ByteArray) (p p' : Int) (l : List Did) (ms : List Mk) (h : id ≠ id') : lastOf (⟨id, ep, t, p, l⟩ :: ms) id' t' p' = lastOf ms id' t' p' := by
  unfold lastOf
  rw [List.find?_cons, show isK id' t' p' ⟨id, ep, t, p, l⟩ = false from by
    cases e : isK id' t' p' ⟨id, ep, t, p, l⟩
    · rfl
    · exact absurd (isK_iff.1 e).1 h]
theorem bef_id {a b : Mk} (h : a.id < b.id) : befB a b = true := by
  exact (bef_iff a b).2 (.inl h)
def mkA (t : ByteArray) (p : Int) (k : Nat) : Mk := ⟨1, 0, t, p, [⟨0, k, 5⟩]⟩
def mkB (t : ByteArray) (p : Int) : Mk := ⟨2, 0, t, p, [⟨0, 1, 6⟩]⟩
theorem none_last (id : Int) (t : ByteArray) (p : Int) : lastOf [] id t p = [] := lastOf_none (by simp)
variable (t u : ByteArray) (p q : Int) (k : Nat)
theorem f_ask1 : askP [0, 0] [] t p 1 0 0 k = (0, false, 0) := by
  unfold askP; rw [none_last]; simp [due]
theorem f_done1 (hk : 1 ≤ k) : doneE [0, 0] [] t p 1 0 0 k 5 = 0 ∧ doneM [0, 0] [] t p 1 0 0 k 5 = [mkA t p k] := by
  have h : doneE [0, 0] [] t p 1 0 0 k 5 = 0 := by
    unfold doneE; rw [f_ask1]; simp [numB8]; omega
  refine ⟨h, ?_⟩
  unfold doneM; rw [h, none_last]; rfl
theorem f_ask2 : askP [0, 0] [mkA t p k] t p 2 0 0 1 = (0, false, 0) := by
  unfold askP mkA; rw [lastOf_other _ _ _ _ _ _ _ _ (by decide)]; simp [due]
theorem f_done2 : doneE [0, 0] [mkA t p k] t p 2 0 0 1 6 = 0 ∧ doneM [0, 0] [mkA t p k] t p 2 0 0 1 6 = [mkA t p k, mkB t p] := by
  have h : doneE [0, 0] [mkA t p k] t p 2 0 0 1 6 = 0 := by
    unfold doneE; rw [f_ask2]; simp [numB8]
  refine ⟨h, ?_⟩
  have hb : befB (mkA t p k) ⟨2, 0, t, p, push [] ⟨0, 1, 6⟩⟩ = true := bef_id (by show (1 : Int) < 2; decide)
  unfold doneM
  rw [h, show lastOf [mkA t p k] 2 t p = [] from lastOf_other _ _ _ _ _ _ _ _ (by decide)]
  rw [if_neg (by simp)]
  show putM ⟨2, 0, t, p, push [] ⟨0, 1, 6⟩⟩ false [mkA t p k] = _
  unfold putM
  rw [hb]
  rfl
def msJ (j : Nat) : List Mk := if j = 0 then [mkA t p k, mkB t p] else [mkB t p]
theorem f_open (j : Nat) (hj : j ≤ 10) : openR [(j : Int), 0] 1 = (1, (j : Int) + 1, 0) ∧ openE [(j : Int), 0] 1 = [((j + 1 : Nat) : Int), 0] ∧ openM [(j : Int), 0] (msJ t p k j) 1 = msJ t p k (j + 1) := by
  have e : (j : Int) ≠ 1099511627776 := by omega
  refine ⟨?_, ?_, ?_⟩
  · simp [openR, e]
  · simp [openE, e]
  · simp only [openM]
    rw [if_neg (by decide), if_neg (by simp), if_neg (by simpa using e)]
    unfold msJ
    rw [if_neg (show ¬ j + 1 = 0 by omega)]
    split <;> simp [mkA, mkB]
variable (n : Nat)
theorem f_ask3 : askP [((n + 1 : Nat) : Int), 0] [mkB t p] t p 1 (n : Int) k 1 = (0, false, 81) := by
  unfold askP; simp; omega
theorem f_ask4 : askP [((n + 1 : Nat) : Int), 0] [mkB t p] u q 1 ((n + 1 : Nat) : Int) 0 1 = (0, false, 0) := by
  unfold askP mkB; rw [lastOf_other _ _ _ _ _ _ _ _ (by decide)]; simp [due]
theorem f_ask5 (hk : 1 ≤ k) : askP [((n + 1 : Nat) : Int), 0] [mkB t p] t p 1 ((n + 1 : Nat) : Int) k 1 = (0, false, 82) := by
  unfold askP mkB; rw [lastOf_other _ _ _ _ _ _ _ _ (by decide)]; simp [due]; omega
theorem due_six : due [⟨0, 1, 6⟩] = 1 := by simp [due, wrap64]
theorem f_ask6 : askP [((n + 1 : Nat) : Int), 0] [mkB t p] t p 2 0 0 1 = (6, true, 0) := by
  unfold askP mkB; rw [lastOf_one, due_six]; simp
end Go.Proofs.Ytajdcppajbnhiaa.L8
