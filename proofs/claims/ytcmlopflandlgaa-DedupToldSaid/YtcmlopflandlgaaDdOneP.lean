/-
  One producer that sends to one partition, as plain data.
-/
import Derived.Test.YtcmlopflandlgaaDdLaw
namespace Go.Proofs.Ytcmlopflandlgaa.L8
open Go.RowKit

theorem due_push (l : List Did) (d : Did) : due (push l d) = wrap64 (d.s + d.n) := by
  unfold due
  rw [push_eq, List.getLast?_append]
  rfl
/-- what is remembered behind some batches of producer 1 -/
def ApT (t : ByteArray) (p z : Int) (ms : List Mk) : Prop := (ms = [] ∧ z = 0) ∨ ∃ l, ms = [⟨1, 0, t, p, l⟩] ∧ due l = z ∧ 0 < z
theorem ap_last {t : ByteArray} {p z : Int} {ms : List Mk} (h : ApT t p z ms) : due (lastOf ms 1 t p) = z := by
  rcases h with ⟨rfl, rfl⟩ | ⟨l, rfl, h, _⟩
  · rw [lastOf_none (by simp)]; rfl
  · unfold lastOf
    rw [List.find?_cons, show isK 1 t p ⟨1, 0, t, p, l⟩ = true from isK_iff.2 ⟨rfl, rfl, rfl⟩]
    exact h
theorem ap_other {t u : ByteArray} {p q z id : Int} {ms : List Mk} (h : ApT t p z ms) (hn : ¬ (id = 1 ∧ u = t ∧ q = p) ∨ z = 0) : lastOf ms id u q = [] := by
  rcases h with ⟨rfl, rfl⟩ | ⟨l, rfl, _, h⟩
  · exact lastOf_none (by simp)
  · refine lastOf_none (fun m hm => ?_)
    rw [List.mem_singleton.1 hm]
    cases e : isK id u q ⟨1, 0, t, p, l⟩
    · rfl
    · obtain ⟨a, b, c⟩ := isK_iff.1 e
      exfalso
      rcases hn with hn | hn
      · exact hn ⟨a.symm, b.symm, c.symm⟩
      · omega
theorem ap_ask {t : ByteArray} {p z : Int} {ms : List Mk} {k : Nat} (h : ApT t p z ms) : askP [0, 0] ms t p 1 0 z k = (0, false, 0) := by
  unfold askP; rw [ap_last h]; simp
theorem ap_done {t : ByteArray} {p z off : Int} {ms : List Mk} {k : Nat} (h : ApT t p z ms) (hk : 1 ≤ k) (o0 : 0 ≤ off) (o1 : off ≤ 1000) : doneE [0, 0] ms t p 1 0 z k off = 0 := by
  unfold doneE; rw [ap_ask h]; simp [numB8]; omega
theorem ap_next {t : ByteArray} {p z off : Int} {ms : List Mk} {k : Nat} (h : ApT t p z ms) (hk : 1 ≤ k) (hk8 : k ≤ 8) (z0 : 0 ≤ z) (z1 : z ≤ 1000) (o0 : 0 ≤ off) (o1 : off ≤ 1000) : ApT t p (z + k) (doneM [0, 0] ms t p 1 0 z k off) := by
  have e : doneM [0, 0] ms t p 1 0 z k off = [⟨1, 0, t, p, push (lastOf ms 1 t p) ⟨z, k, off⟩⟩] := by
    unfold doneM
    rw [ap_done h hk o0 o1, if_neg (by simp)]
    rcases h with ⟨rfl, rfl⟩ | ⟨l, rfl, _, _⟩
    · rfl
    · have hb : befB ⟨1, 0, t, p, l⟩ ⟨1, 0, t, p, push (lastOf [⟨1, 0, t, p, l⟩] 1 t p) ⟨z, k, off⟩⟩ = false := (bef_same (a' := ⟨1, 0, t, p, l⟩) (b' := ⟨1, 0, t, p, l⟩) ⟨rfl, rfl, rfl⟩ ⟨rfl, rfl, rfl⟩).trans (bef_irrefl _)
      have hb' : befB ⟨1, 0, t, p, push (lastOf [⟨1, 0, t, p, l⟩] 1 t p) ⟨z, k, off⟩⟩ ⟨1, 0, t, p, l⟩ = false := (bef_same (a' := ⟨1, 0, t, p, l⟩) (b' := ⟨1, 0, t, p, l⟩) ⟨rfl, rfl, rfl⟩ ⟨rfl, rfl, rfl⟩).trans (bef_irrefl _)
      unfold putM
      rw [hb, hb']
      rfl
  rw [e]
  refine .inr ⟨_, rfl, ?_, by omega⟩
  rw [due_push]
  simp only [wrap64]; omega
theorem ap_free {t u : ByteArray} {p q z id : Int} {ms : List Mk} (h : ApT t p z ms) (hi : id = 1 ∨ id = 2) (hn : ¬ (id = 1 ∧ u = t ∧ q = p) ∨ z = 0) : askP [0, 0] ms u q id 0 0 1 = (0, false, 0) := by
  unfold askP
  rw [ap_other h hn]
  rcases hi with rfl | rfl <;> simp [due]
end Go.Proofs.Ytcmlopflandlgaa.L8
