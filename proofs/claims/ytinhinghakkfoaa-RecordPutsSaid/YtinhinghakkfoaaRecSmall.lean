/-
  Contracts of the small functions of records: whether one may be, its first byte, how many records may be.
-/
import Derived.Test.YtinhinghakkfoaaProg
import Derived.Test.YtinhinghakkfoaaRecChk
import Derived.WalkKit
import Derived.Below
namespace Go.Proofs.Ytinhinghakkfoaa.L3
open Go.RowKit

theorem count_any (n : Int) (w : World) :
    Calls Try.prog 31 #[.int .u64 n] w fun e w' => e = .returned (.int .i64 (cnt n)) ∧ w = w' := by
  go_enter Try.func31, Try.ntmps31
  go_wp2_with fail
  all_goals
    go_ret
    refine ⟨ret_int ?_, rfl⟩
    simp only [beq_iff_eq, beq_eq_false_iff_ne] at *
    unfold cnt
    (repeat' split) <;> first | rfl | (exfalso; omega)

/-- whether a number may be -/
def numB (n : Int) : Bool := decide (0 ≤ n ∧ n ≤ 1099511627776)
theorem num_any (n : Int) (w : World) :
    Calls Try.prog 32 #[.int .i64 n] w fun e w' => e = .returned (.bool (numB n)) ∧ w = w' := by
  go_enter Try.func32, Try.ntmps32
  go_wp2_with fail
  all_goals
    go_ret
    refine ⟨congrArg (fun b => Ending.returned (.bool b)) ?_, rfl⟩
    unfold numB
    simp [*]
    try omega

/-- a record's first byte -/
def first (hk tb : Bool) : Int := if tb then 3 else if hk then 1 else 0
theorem first_any (hk : Bool) (k : ByteArray) (tb : Bool) (v : ByteArray) (w : World) :
    Calls Try.prog 26 #[.agg #[.bool hk, .string k, .bool tb, .string v]] w fun e w' => e = .returned (.int .u8 (first hk tb)) ∧ Below w.heap.size w w' := by
  cases hk <;> cases tb
  all_goals
    go_enter Try.func26, Try.ntmps26
    go_wp2_with fail
    go_ret
    exact ⟨rfl, one_box _⟩

theorem two_box {w : World} (o o' : Obj) : Below w.heap.size w ((w.alloc o).alloc o') := (one_box o).alloc (by simp) _

theorem outline_zero (w : World) :
    Calls Try.prog 35 #[.int .u8 0] w fun e w' => e = .returned (.tuple #[.agg #[.bool false, .string ⟨#[]⟩, .bool false, .string ⟨#[]⟩], .bool true]) ∧ Below w.heap.size w w' := by
  go_enter Try.func35, Try.ntmps35
  go_wp2_with fail
  refine bodyPost_ret (v := .tuple #[.agg #[.bool false, .string ⟨#[]⟩, .bool false, .string ⟨#[]⟩], .bool true]) (by simp [results, Try.results35, go_sem]) rfl ⟨rfl, ?_⟩
  exact two_box _ _
theorem outline_one (w : World) :
    Calls Try.prog 35 #[.int .u8 1] w fun e w' => e = .returned (.tuple #[.agg #[.bool true, .string ⟨#[]⟩, .bool false, .string ⟨#[]⟩], .bool true]) ∧ Below w.heap.size w w' := by
  go_enter Try.func35, Try.ntmps35
  go_wp2_with fail
  refine bodyPost_ret (v := .tuple #[.agg #[.bool true, .string ⟨#[]⟩, .bool false, .string ⟨#[]⟩], .bool true]) (by simp [results, Try.results35, go_sem]) rfl ⟨rfl, ?_⟩
  exact two_box _ _
theorem outline_three (w : World) :
    Calls Try.prog 35 #[.int .u8 3] w fun e w' => e = .returned (.tuple #[.agg #[.bool true, .string ⟨#[]⟩, .bool true, .string ⟨#[]⟩], .bool true]) ∧ Below w.heap.size w w' := by
  go_enter Try.func35, Try.ntmps35
  go_wp2_with fail
  refine bodyPost_ret (v := .tuple #[.agg #[.bool true, .string ⟨#[]⟩, .bool true, .string ⟨#[]⟩], .bool true]) (by simp [results, Try.results35, go_sem]) rfl ⟨rfl, ?_⟩
  exact two_box _ _
theorem outline_no (c : Int) (w : World) (h : c ≠ 0 ∧ c ≠ 1 ∧ c ≠ 3) :
    Calls Try.prog 35 #[.int .u8 c] w fun e w' => e = .returned (.tuple #[.agg #[.bool false, .string ⟨#[]⟩, .bool false, .string ⟨#[]⟩], .bool false]) ∧ Below w.heap.size w w' := by
  have e0 : (c == 0) = false := by simpa using h.1
  have e1 : (c == 1) = false := by simpa using h.2.1
  have e3 : (c == 3) = false := by simpa using h.2.2
  clear h
  go_enter Try.func35, Try.ntmps35
  go_wp2_with fail
  refine bodyPost_ret (v := .tuple #[.agg #[.bool false, .string ⟨#[]⟩, .bool false, .string ⟨#[]⟩], .bool false]) (by simp [results, Try.results35, go_sem]) rfl ⟨rfl, ?_⟩
  exact two_box _ _
theorem tomb_any (w : World) :
    Calls Try.prog 34 #[] w fun e w' => e = .returned (.agg #[.bool true, .string ⟨#[97]⟩, .bool true, .string ⟨#[]⟩]) ∧ Below w.heap.size w w' := by
  go_enter Try.func34, Try.ntmps34
  go_wp2_with fail
  exact bodyPost_ret (v := .agg #[.bool true, .string ⟨#[97]⟩, .bool true, .string ⟨#[]⟩]) (by simp [results, Try.results34, go_sem]) rfl ⟨rfl, one_box _⟩
end Go.Proofs.Ytinhinghakkfoaa.L3
