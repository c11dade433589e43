/-
  Contracts: a table's small calls.
-/
import Derived.Test.YtcmlopflandlgaaDdMem
import Derived.LoopTactic
import Derived.BigQuiet
import Derived.Deep.QuietTactic
import Derived.Lib.SliceRun
import Derived.OwnWalk
import Derived.Deep.RegionHeld3
import Derived.Deep.RegionLaw
import Derived.Deep.AppendLies
import Derived.Outline
namespace Go.Proofs.Ytcmlopflandlgaa.L8
open Go.RowKit
open Go.Maps
open L3 L4

theorem one_box' {w : World} (o : Obj) : Below w.heap.size w (w.alloc o) := (Below.refl _ _).alloc (Nat.le_refl _) o
theorem within_is (n : Int) (b : Bool) (w : World) (HB : Hid (numB8 n = b)) :
    Calls Try.prog 31 #[.int .i64 n] w fun e w' => e = .returned (.bool b) ∧ w = w' := by
  go_enter Try.func31, Try.ntmps31
  go_wp2_with fail
  all_goals
    go_ret
    refine ⟨congrArg (fun b => Ending.returned (.bool b)) ?_, rfl⟩
    rw [← HB.out]
    unfold numB8
    simp [*]
    try omega
theorem num8_is (n : Int) (b : Bool) (w : World) (HB : Hid (numB8 n = b)) :
    Calls Try.prog 34 #[.int .i64 n] w fun e w' => e = .returned (.bool b) ∧ w = w' :=
  num_is n b w (Lib.hid (by rw [← num8]; exact HB.out))

theorem due_last {l : List Did} {d : Did} (h : l[l.length - 1]? = some d) : due l = wrap64 (d.s + d.n) := by
  unfold due
  rw [List.getLast?_eq_getElem?, h]
theorem due_nil : due [] = 0 := rfl
set_option maxRecDepth 100000 in
set_option maxHeartbeats 1000000 in
theorem due_is {w : World} {A : Option Addr} {l : List Did} (n cap : Nat) (x : Int) (hn : l.length = n) (hl : n ≤ 1000000) (hR : Hid (RowD w A l)) (HX : Hid (due l = x)) :
    Calls Try.prog 29 #[.slice A n cap] w fun e w' => e = .returned (.int .i64 x) ∧ Below w.heap.size w w' := by
  by_cases h0 : n = 0
  · have hx : x = 0 := by rw [← HX.out, List.eq_nil_of_length_eq_zero (hn.trans h0)]; rfl
    clear hn
    subst h0
    subst hx
    go_enter Try.func29, Try.ntmps29
    go_wp2_with fail
    go_ret
    exact ⟨rfl, Below.refl _ _⟩
  · obtain ⟨⟨s, m, o⟩, hd⟩ : ∃ d, l[l.length - 1]? = some d := ⟨_, List.getElem?_eq_getElem (by omega)⟩
    have hx : wrap64 (s + m) = x := by rw [← HX.out, due_last hd]
    obtain ⟨g, o', cs, fr, rfl, hg, hc⟩ := hR.out (by omega)
    obtain ⟨c0, c1, c2⟩ := hc _ _ hd
    rw [hn] at c0 c1 c2
    have n0 : ((n : Int) == 0) = false := by simpa using (by omega : (n : Int) ≠ 0)
    clear hc hd hn hg HX hR
    go_enter Try.func29, Try.ntmps29
    go_wp2_with fail
    go_ret
    exact ⟨rfl, one_box' _⟩

theorem there_is {w : World} {g cap b N : Nat} {A : Option Addr} {es : List Int} {ms : List Mk} (id : Int) (v : Bool) (h : Hid (Tab w g A cap b N es ms)) (HV : Hid (decide (1 ≤ id ∧ id ≤ es.length) = v)) :
    Calls Try.prog 27 #[.pointer (some ⟨g, 0, none⟩), .int .i64 id] w fun e w' => e = .returned (.bool v) ∧ w = w' := by
  have c0 := h.out.c0
  go_enter Try.func27, Try.ntmps27
  go_wp2_with fail
  all_goals
    go_ret
    refine ⟨congrArg (fun b => Ending.returned (.bool b)) ?_, rfl⟩
    rw [← HV.out]
    first | (simp [*]; done) | (simp [*]; omega)

/-- a table whose blocks are new -/
def TabM (B : Nat) (w : World) (g N : Nat) (es : List Int) (ms : List Mk) : Prop := ∃ A cap b, Tab w g A cap b N es ms ∧ ∀ k ∈ blocks g A b, B ≤ k
theorem new_is (w : World) : Calls Try.prog 7 #[] w fun e w' => ∃ g, e = .returned (.pointer (some ⟨g, 0, none⟩)) ∧ TabM w.heap.size w' g 0 [] [] ∧ Below w.heap.size w w' := by
  have hmm := @run_makeMap Try.prog
  go_enter Try.func7, Try.ntmps7
  go_wp2_with fail
  go_ret
  have b1 := one_box' (w := w) (.map #[] 0)
  have e1 : (w.alloc (.map #[] 0)).heap.size = w.heap.size + 1 := by simp
  refine ⟨_, rfl, ⟨none, 0, w.heap.size, ⟨?_, World.ownsRow_nil _ _ _ _, (isTab_made w).below (one_box' _)⟩, fun k hk => ?_⟩, b1.alloc b1.size _⟩
  · rw [← e1]; exact heap_alloc_new _ _
  · simp [blocks, bk] at hk; omega
end Go.Proofs.Ytcmlopflandlgaa.L8
