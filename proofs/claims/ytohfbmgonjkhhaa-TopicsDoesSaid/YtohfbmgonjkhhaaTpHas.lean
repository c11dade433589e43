/-
  Contracts: is there a partition.
-/
import Derived.Test.YtohfbmgonjkhhaaTpLoad
import Derived.Deep.RegionHeld3
namespace Go.Proofs.Ytohfbmgonjkhhaa.L9
open Go.RowKit
open Go.Maps
open L3 L4

set_option maxRecDepth 100000 in
set_option maxHeartbeats 2000000 in
theorem has_is {w : World} {g b N : Nat} {Q : List Pt} (s : ByteArray) (n : Int) (v : Bool) (h : Hid (Cat w g b N Q)) (hR : Hid (Rise Q)) (hs : s.size ≤ maxLen) (HV : Hid (hasP Q s n = v)) :
    Calls Try.prog 21 #[.pointer (some ⟨g, 0, none⟩), .agg #[.string s, .int .i64 n]] w fun e w' => e = .returned (.bool v) ∧ Below w.heap.size w w' := by
  have hv := HV.out
  unfold hasP at hv
  by_cases h0 : 0 ≤ n
  · rw [decide_eq_true h0, Bool.true_and] at hv
    obtain ⟨y, hy⟩ : ∃ y, numOf Q s = y := ⟨_, rfl⟩
    rw [hy] at hv
    have HY := Lib.hid hy
    have HVV : Hid (decide (n < y) = v) := Lib.hid hv
    have g0 : decide (0 ≤ n) = true := decide_eq_true h0
    clear hv hy
    go_enter Try.func21, Try.ntmps21
    go_wp2_with fail
    have hr := heap_alloc_new w (.cells #[.string s, .int .i64 n] 37)
    have b0 : (w.alloc (.cells #[.string s, .int .i64 n] 37)).cell? ⟨w.heap.size, 0, none⟩ = some (.string s) := (cell_of_row _ _ 0 _ _ _ hr).trans rfl
    have b1 : (w.alloc (.cells #[.string s, .int .i64 n] 37)).cell? ⟨w.heap.size, 1, none⟩ = some (.int .i64 n) := (cell_of_row _ _ 1 _ _ _ hr).trans rfl
    have HB1 : Hid (Below w.heap.size w (w.alloc (.cells #[.string s, .int .i64 n] 37))) := Lib.hid (one_box' _)
    clear hr
    go_region_held3 (fun w' => (w'.cell? ⟨w.heap.size, 0, none⟩ = some (.string s) ∧ w'.cell? ⟨w.heap.size, 1, none⟩ = some (.int .i64 n)) ∧ Below w.heap.size w w')
      (first | assumption | exact ⟨⟨b0, b1⟩, HB1.out.drew⟩)
      (first
        | (go_at_call 19; refine (n_is s y (Lib.hid (h.out.below HB1.out.drew)) hR hs HY).mono ?_; rintro e w1 ⟨rfl, rfl⟩))
    all_goals
      go_wp2_with fail
      go_ret
      exact ⟨congrArg Ending.returned (congrArg Value.bool HVV.out), HB1.out.drew⟩
  · have g0 : decide (0 ≤ n) = false := decide_eq_false h0
    have hv' : v = false := by rw [← hv, decide_eq_false h0]; rfl
    subst hv'
    clear hv
    go_enter Try.func21, Try.ntmps21
    go_wp2_with fail
    go_quiet (fail)
    go_wp2_with fail
    go_ret
    exact ⟨rfl, drewN_below (one_box' _) _⟩
end Go.Proofs.Ytohfbmgonjkhhaa.L9
