/-
  The contracts of the functions that only compute: signs (both texts), and whether a byte makes a number too long.
-/
import Derived.Test.YtngdbjapiiijgaaProg
import Derived.Test.YtngdbjapiiijgaaBits
import Derived.WalkKit
namespace Go.Proofs.Ytngdbjapiiijgaa
open Go.RowKit

theorem ret_int {k : IntKind} {a b : Int} (h : a = b) : Ending.returned (.int k a) = .returned (.int k b) := by rw [h]

theorem zig_any (n : Int) (w : World) (h0 : -9223372036854775808 ≤ n) (h1 : n ≤ 9223372036854775807) :
    Calls Try.prog 14 #[.int .i64 n] w fun e w' => e = .returned (.int .u64 (V.zig n)) ∧ w = w' := by
  go_enter Try.func14, Try.ntmps14
  go_wp2
  go_ret
  exact ⟨ret_int (V.zig_bits n h0 h1), rfl⟩

theorem refzig_any (n : Int) (w : World) (h0 : -9223372036854775808 ≤ n) (h1 : n ≤ 9223372036854775807) :
    Calls Try.prog 15 #[.int .i64 n] w fun e w' => e = .returned (.int .u64 (V.zig n)) ∧ w = w' := by
  by_cases h : 0 ≤ n
  · go_enter Try.func15, Try.ntmps15
    go_wp2
    go_ret
    exact ⟨ret_int (by unfold V.zig; rw [if_pos h]), rfl⟩
  · go_enter Try.func15, Try.ntmps15
    go_wp2
    go_ret
    exact ⟨ret_int (by unfold V.zig; rw [if_neg (by omega)]; omega), rfl⟩

theorem zag_any (n : Int) (w : World) (h0 : 0 ≤ n) (h1 : n ≤ 18446744073709551615) :
    Calls Try.prog 16 #[.int .u64 n] w fun e w' => e = .returned (.int .i64 (V.zag n)) ∧ w = w' := by
  go_enter Try.func16, Try.ntmps16
  go_wp2
  go_ret
  exact ⟨ret_int (V.zag_bits n h0 h1), rfl⟩

theorem refzag_any (n : Int) (w : World) (h0 : 0 ≤ n) (h1 : n ≤ 18446744073709551615) :
    Calls Try.prog 17 #[.int .u64 n] w fun e w' => e = .returned (.int .i64 (V.zag n)) ∧ w = w' := by
  by_cases h : n % 2 = 0
  · go_enter Try.func17, Try.ntmps17
    go_wp2
    go_ret
    exact ⟨ret_int (by unfold V.zag; rw [if_pos h]), rfl⟩
  · go_enter Try.func17, Try.ntmps17
    go_wp2
    go_ret
    exact ⟨ret_int (by unfold V.zag; rw [if_neg h]), rfl⟩

/-- a byte that makes a number too long -/
def tl (i b : Int) : Bool := decide ((i = 9 ∧ 1 < b) ∨ (0 < i ∧ b = 0))

theorem tooLong_any (i b : Int) (w : World) :
    Calls Try.prog 25 #[.int .i64 i, .int .u8 b] w fun e w' => e = .returned (.bool (tl i b)) ∧ w = w' := by
  have key : tl i b = true ∨ tl i b = false := by cases tl i b <;> simp
  rcases key with e | e <;> rw [e] <;> by_cases h1 : i = 9 <;> by_cases h2 : 1 < b <;> by_cases h3 : 0 < i <;> by_cases h4 : b = 0 <;> first | (exfalso; have := of_decide_eq_true e; omega) | (exfalso; have := of_decide_eq_false e; omega) | skip
  all_goals
    clear e
    go_enter Try.func25, Try.ntmps25
    go_wp2
    go_ret
    refine ⟨?_, rfl⟩
    first | rfl | (simp [*]; done)
theorem tooLong_is (i b : Int) (v : Bool) (w : World) (h : tl i b = v) :
    Calls Try.prog 25 #[.int .i64 i, .int .u8 b] w fun e w' => e = .returned (.bool v) ∧ w = w' := by
  subst h; exact tooLong_any i b w
theorem tl_nat {k b : Nat} (h : tl k b = true) : (k = 9 ∧ 1 < b) ∨ (0 < k ∧ b = 0) := by
  have := of_decide_eq_true h; omega
theorem tl_not {k b : Nat} (h : tl k b = false) : ¬ ((k = 9 ∧ 1 < b) ∨ (0 < k ∧ b = 0)) := by
  have := of_decide_eq_false h; omega
end Go.Proofs.Ytngdbjapiiijgaa
