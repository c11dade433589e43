/-
  Contracts: the document's Range and Robin, where the topics or the members may not be.
-/
import Derived.Test.YthongbobopampaaAsRwho
namespace Go.Proofs.Ythongbobopampaa.L10
open Go.RowKit
open L3 L4 L9

set_option maxRecDepth 100000 in
set_option maxHeartbeats 4000000 in
theorem rrange_no (w : World) (A Am : Option Addr) (n c nm cm : Nat) (l : List Pt) (ms : List Mb) (x : Int) (hx : x ≠ 0) (hL : Hid (IsL w w.heap.size A n c l)) (hM : Hid (IsM w w.heap.size Am nm cm ms)) (HX : Hid (chkE l ms x)) :
    Calls Try.prog 6 #[.slice A n c, .slice Am nm cm] w fun e w' => e = .returned (.tuple #[.slice none 0 0, .int .i64 x]) ∧ Below w.heap.size w w' := by
  have q : (x == 0) = false := by simpa using hx
  go_enter Try.func6, Try.ntmps6
  go_wp2_with (go_at_call 9; refine (rcheck_is w A Am n c nm cm l ms x hL hM HX).mono ?_; rintro e w1 ⟨rfl, hb1⟩; have HB1 := Lib.hid hb1; clear hb1)
  go_ret2
  exact ⟨rfl, HB1.out⟩

set_option maxRecDepth 100000 in
set_option maxHeartbeats 4000000 in
theorem rrobin_no (w : World) (A Am : Option Addr) (n c nm cm : Nat) (l : List Pt) (ms : List Mb) (x : Int) (hx : x ≠ 0) (hL : Hid (IsL w w.heap.size A n c l)) (hM : Hid (IsM w w.heap.size Am nm cm ms)) (HX : Hid (chkE l ms x)) :
    Calls Try.prog 8 #[.slice A n c, .slice Am nm cm] w fun e w' => e = .returned (.tuple #[.slice none 0 0, .int .i64 x]) ∧ Below w.heap.size w w' := by
  have q : (x == 0) = false := by simpa using hx
  go_enter Try.func8, Try.ntmps8
  go_wp2_with (go_at_call 9; refine (rcheck_is w A Am n c nm cm l ms x hL hM HX).mono ?_; rintro e w1 ⟨rfl, hb1⟩; have HB1 := Lib.hid hb1; clear hb1)
  go_ret2
  exact ⟨rfl, HB1.out⟩
end Go.Proofs.Ythongbobopampaa.L10
