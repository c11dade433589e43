/-
  One producer that sends its batches one behind the other, as plain data.
-/
import Derived.Test.YtcmlopflandlgaaDdOneP
namespace Go.Proofs.Ytcmlopflandlgaa.L8
open Go.RowKit

/-- batches, each behind the one ahead of it; the number that is due -/
structure OnceL (L : List Did) (z : Int) : Prop where
  one : ∀ d ∈ L, 0 ≤ d.s ∧ 1 ≤ d.n ∧ d.n ≤ 8 ∧ d.s + d.n ≤ z
  next : L.Pairwise fun d e => d.s + d.n ≤ e.s
  due : due L = z
  low : 0 ≤ z
  up : z ≤ 8 * L.length
/-- what is remembered -/
def OnceM (T : ByteArray) (L : List Did) (ms : List Mk) : Prop := (L = [] ∧ ms = []) ∨ (L ≠ [] ∧ ms = [⟨1, 0, T, 1, L.drop (L.length - 5)⟩])
theorem once_nil : OnceL [] 0 := ⟨by simp, List.Pairwise.nil, rfl, by omega, by simp⟩
theorem due_drop (L : List Did) : due (L.drop (L.length - 5)) = due L := by
  have e : (L.drop (L.length - 5)).getLast? = L.getLast? := by
    rw [List.getLast?_drop]
    by_cases h : L.length ≤ L.length - 5
    · have : L = [] := List.eq_nil_of_length_eq_zero (by omega)
      subst this
      rfl
    · rw [if_neg h]
  unfold due
  rw [e]
theorem once_add {L : List Did} {z : Int} (h : OnceL L z) {n : Nat} (h1 : 1 ≤ n) (h8 : n ≤ 8) (hl : L.length ≤ 40) (off : Int) : OnceL (L ++ [⟨z, n, off⟩]) (z + n) := by
  have hz := h.low
  have hu := h.up
  refine ⟨fun d hd => ?_, ?_, ?_, by omega, by simp; omega⟩
  · rcases List.mem_append.1 hd with hd | hd
    · have := h.one d hd; omega
    · rw [List.mem_singleton] at hd; subst hd; dsimp only; omega
  · rw [List.pairwise_append]
    refine ⟨h.next, by simp, fun d hd e he => ?_⟩
    rw [List.mem_singleton] at he; subst he
    have := (h.one d hd).2.2.2; dsimp only; omega
  · unfold L8.due
    rw [List.getLast?_append]
    show wrap64 (z + n) = z + n
    simp only [wrap64]; omega
theorem once_last {T : ByteArray} {L : List Did} {ms : List Mk} (h : OnceM T L ms) : lastOf ms 1 T 1 = L.drop (L.length - 5) := by
  rcases h with ⟨rfl, rfl⟩ | ⟨_, rfl⟩
  · exact lastOf_none (by simp)
  · unfold lastOf
    rw [List.find?_cons, show isK 1 T 1 ⟨1, 0, T, 1, L.drop (L.length - 5)⟩ = true from isK_iff.2 ⟨rfl, rfl, rfl⟩]
    rfl
theorem once_ask {T : ByteArray} {L : List Did} {ms : List Mk} {z : Int} (h : OnceM T L ms) (hL : OnceL L z) (n : Nat) : askP [0] ms T 1 1 0 z n = (0, false, 0) := by
  unfold askP
  rw [once_last h, due_drop, hL.due]
  simp
theorem once_done {T : ByteArray} {L : List Did} {ms : List Mk} {z : Int} (h : OnceM T L ms) (hL : OnceL L z) {n : Nat} (hn : 1 ≤ n) {off : Int} (ho : numB8 off = true) : doneE [0] ms T 1 1 0 z n off = 0 := by
  unfold doneE
  rw [once_ask h hL]
  simp [ho]; omega
theorem once_doneM {T : ByteArray} {L : List Did} {ms : List Mk} {z : Int} (h : OnceM T L ms) (hL : OnceL L z) {n : Nat} (hn : 1 ≤ n) {off : Int} (ho : numB8 off = true) : doneM [0] ms T 1 1 0 z n off = putM ⟨1, 0, T, 1, push (L.drop (L.length - 5)) ⟨z, n, off⟩⟩ false ms := by
  unfold doneM
  rw [once_done h hL hn ho, if_neg (by simp), once_last h]
theorem once_next {T : ByteArray} {L : List Did} {ms : List Mk} {z : Int} (h : OnceM T L ms) (hL : OnceL L z) {n : Nat} (hn : 1 ≤ n) {off : Int} (ho : numB8 off = true) : OnceM T (L ++ [⟨z, n, off⟩]) (doneM [0] ms T 1 1 0 z n off) := by
  rw [once_doneM h hL hn ho]
  refine .inr ⟨by simp, ?_⟩
  have e : push (L.drop (L.length - 5)) ⟨z, n, off⟩ = (L ++ [(⟨z, n, off⟩ : Did)]).drop ((L ++ [(⟨z, n, off⟩ : Did)]).length - 5) := by
    unfold push
    rw [← List.drop_append_of_le_length (by omega), List.drop_drop]
    congr 1
    simp; omega
  rw [e]
  rcases h with ⟨rfl, rfl⟩ | ⟨_, rfl⟩
  · rfl
  · generalize (L ++ [(⟨z, n, off⟩ : Did)]).drop ((L ++ [(⟨z, n, off⟩ : Did)]).length - 5) = l
    generalize L.drop (L.length - 5) = l'
    have hb : befB ⟨1, 0, T, 1, l'⟩ ⟨1, 0, T, 1, l⟩ = false := (bef_same (a' := ⟨1, 0, T, 1, l⟩) (b' := ⟨1, 0, T, 1, l⟩) ⟨rfl, rfl, rfl⟩ ⟨rfl, rfl, rfl⟩).trans (bef_irrefl _)
    have hb' : befB ⟨1, 0, T, 1, l⟩ ⟨1, 0, T, 1, l'⟩ = false := (bef_same (a' := ⟨1, 0, T, 1, l⟩) (b' := ⟨1, 0, T, 1, l⟩) ⟨rfl, rfl, rfl⟩ ⟨rfl, rfl, rfl⟩).trans (bef_irrefl _)
    unfold putM
    rw [hb, hb']
    rfl
theorem once_again {T : ByteArray} {L : List Did} {ms : List Mk} {z : Int} (h : OnceM T L ms) (hL : OnceL L z) {k : Nat} {d : Did} (hd : L[k]? = some d) {m : Nat} (hm : d.n = (m : Int)) :
    askP [0] ms T 1 1 0 d.s m = if L.length - k > 5 then (0, false, 82) else (d.o, true, 0) := by
  obtain ⟨hk, hg⟩ := List.getElem?_eq_some_iff.1 hd
  have h0 := hL.one d (List.mem_of_getElem? hd)
  have hp := List.pairwise_iff_getElem.1 hL.next
  have key : ∀ j e, L[j]? = some e → e.s = d.s → j = k := fun j e he hs => by
    obtain ⟨hj, hge⟩ := List.getElem?_eq_some_iff.1 he
    have h1 := hL.one e (List.mem_of_getElem? he)
    rcases Nat.lt_trichotomy j k with q | q | q
    · have := hp j k hj hk q; rw [hg, hge] at this; omega
    · exact q
    · have := hp k j hk hj q; rw [hg, hge] at this; omega
  unfold askP
  rw [once_last h, due_drop, hL.due]
  rw [if_neg (by decide), if_neg (by simp), if_neg (by simp), if_neg (by simp), if_neg (by omega)]
  cases hf : (L.drop (L.length - 5)).find? (fun x => decide (x.s = d.s) && decide (x.n = (m : Int))) with
  | none =>
    have hn := List.find?_eq_none.1 hf
    by_cases q : L.length - k > 5
    · rw [if_pos q]
    · exfalso
      have hmem : d ∈ L.drop (L.length - 5) := by
        refine List.mem_of_getElem? (i := k - (L.length - 5)) ?_
        rw [List.getElem?_drop, show L.length - 5 + (k - (L.length - 5)) = k by omega]; exact hd
      have := hn d hmem
      simp [hm] at this
  | some e =>
    have h1 := List.find?_some hf
    have h2 := List.mem_of_find?_eq_some hf
    obtain ⟨j, hj⟩ := List.mem_iff_getElem?.1 h2
    rw [List.getElem?_drop] at hj
    have h3 : e.s = d.s := by simp at h1; exact h1.1
    have h4 := key _ _ hj h3
    rw [h4, hd] at hj
    injection hj with hj
    subst hj
    rw [if_neg (by omega)]
end Go.Proofs.Ytcmlopflandlgaa.L8
