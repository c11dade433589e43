/-
  The contract of the function that tells whether a byte makes a number too long.
-/
import Derived.Test.YtinhinghakkfoaaProg
import Derived.Test.YtinhinghakkfoaaBits
import Derived.WalkKit
namespace Go.Proofs.Ytinhinghakkfoaa
open Go.RowKit

theorem ret_int {k : IntKind} {a b : Int} (h : a = b) : Ending.returned (.int k a) = .returned (.int k b) := by rw [h]

/-- a byte that makes a number too long -/
def tl (i b : Int) : Bool := decide ((i = 9 ∧ 1 < b) ∨ (0 < i ∧ b = 0))

theorem tooLong_any (i b : Int) (w : World) :
    Calls Try.prog 45 #[.int .i64 i, .int .u8 b] w fun e w' => e = .returned (.bool (tl i b)) ∧ w = w' := by
  have key : tl i b = true ∨ tl i b = false := by cases tl i b <;> simp
  rcases key with e | e <;> rw [e] <;> by_cases h1 : i = 9 <;> by_cases h2 : 1 < b <;> by_cases h3 : 0 < i <;> by_cases h4 : b = 0 <;> first | (exfalso; have := of_decide_eq_true e; omega) | (exfalso; have := of_decide_eq_false e; omega) | skip
  all_goals
    clear e
    go_enter Try.func45, Try.ntmps45
    go_wp2
    go_ret
    refine ⟨?_, rfl⟩
    first | rfl | (simp [*]; done)
theorem tooLong_is (i b : Int) (v : Bool) (w : World) (h : tl i b = v) :
    Calls Try.prog 45 #[.int .i64 i, .int .u8 b] w fun e w' => e = .returned (.bool v) ∧ w = w' := by
  subst h; exact tooLong_any i b w
theorem tl_nat {k b : Nat} (h : tl k b = true) : (k = 9 ∧ 1 < b) ∨ (0 < k ∧ b = 0) := by
  have := of_decide_eq_true h; omega
theorem tl_not {k b : Nat} (h : tl k b = false) : ¬ ((k = 9 ∧ 1 < b) ∨ (0 < k ∧ b = 0)) := by
  have := of_decide_eq_false h; omega
end Go.Proofs.Ytinhinghakkfoaa
