/-
  The contract of the function that tells whether a byte makes a number too long.
-/
import Derived.Test.YtflcggpeflagiaaProg
import Derived.Test.YtflcggpeflagiaaMMath
import Derived.WalkKit
import Derived.Test.YtflcggpeflagiaaMRecMath
import Derived.Below
namespace Go.Proofs.Ytflcggpeflagiaa
open Go.RowKit

theorem ret_int {k : IntKind} {a b : Int} (h : a = b) : Ending.returned (.int k a) = .returned (.int k b) := by rw [h]

/-- a byte that makes a number too long -/
def tl (i b : Int) : Bool := decide ((i = 9 ∧ 1 < b) ∨ (0 < i ∧ b = 0))

theorem tl_nat {k b : Nat} (h : tl k b = true) : (k = 9 ∧ 1 < b) ∨ (0 < k ∧ b = 0) := by
  have := of_decide_eq_true h; omega
theorem tl_not {k b : Nat} (h : tl k b = false) : ¬ ((k = 9 ∧ 1 < b) ∨ (0 < k ∧ b = 0)) := by
  have := of_decide_eq_false h; omega
end Go.Proofs.Ytflcggpeflagiaa
/-
  Contracts: whether a record may be.
-/
namespace Go.Proofs.Ytflcggpeflagiaa.L3
open Go.RowKit

theorem nil_iff (s : ByteArray) : s.toList = [] ↔ s.size = 0 := by
  rw [ByteArray.toList_eq]
  cases s with | mk a => simp [ByteArray.size]

theorem one_box {w : World} (o : Obj) : Below w.heap.size w (w.alloc o) := (Below.refl _ _).alloc (Nat.le_refl _) _

theorem sizes (k : ByteArray) (m : Int) (h : k.size ≤ maxLen) :
    (k.size = 0 ∧ k.toList = [] ∧ (k.size : Int) ≤ 9223372036854775807) ∨ (0 < k.size ∧ (¬ k.toList = [] ∧ (!k.toList.isEmpty) = true) ∧ (k.size : Int) ≤ m) ∨ (m < (k.size : Int) ∧ (¬ k.toList = [] ∧ (!k.toList.isEmpty) = true ∧ 0 < k.size) ∧ (k.size : Int) ≤ 9223372036854775807) := by
  unfold maxLen at h
  have e := nil_iff k
  by_cases h0 : k.size = 0
  · exact .inl ⟨h0, e.2 h0, by omega⟩
  · have hn0 : ¬ k.toList = [] := fun q => h0 (e.1 q)
    have hn : ¬ k.toList = [] ∧ (!k.toList.isEmpty) = true := ⟨hn0, by cases h : k.toList with | nil => exact absurd h hn0 | cons _ _ => rfl⟩
    by_cases h1 : (k.size : Int) ≤ m
    · exact .inr (.inl ⟨by omega, hn, h1⟩)
    · exact .inr (.inr ⟨by omega, ⟨hn.1, hn.2, by omega⟩, by omega⟩)

set_option maxHeartbeats 400000 in
theorem check_any (hk : Bool) (k : ByteArray) (tb : Bool) (v : ByteArray) (w : World) (h1 : k.size ≤ maxLen) (h2 : v.size ≤ maxLen) :
    Calls Try.prog 24 #[.agg #[.bool hk, .string k, .bool tb, .string v]] w fun e w' => e = .returned (.int .i64 (chk hk k tb v)) ∧ Below w.heap.size w w' := by
  obtain ⟨x, hx⟩ : ∃ x, chk hk k tb v = x := ⟨_, rfl⟩
  have hA := sizes k 64 h1
  have hC := sizes v 512 h2
  clear h1 h2
  rw [hx]
  rcases hA with ⟨a, a1, a2⟩ | ⟨a, ⟨a1, a3⟩, a2⟩ | ⟨a, ⟨a1, a3, a4⟩, a2⟩ <;> rcases hC with ⟨c, c1, c2⟩ | ⟨c, ⟨c1, c3⟩, c2⟩ | ⟨c, ⟨c1, c3, c4⟩, c2⟩ <;> cases hk <;> cases tb <;> simp only [chk] at hx
  all_goals (try simp (disch := omega) only [if_pos, if_neg] at hx); subst hx
  all_goals
    go_enter Try.func24, Try.ntmps24
    go_wp2_with fail
    go_ret
    exact ⟨rfl, one_box _⟩

set_option maxHeartbeats 400000 in
theorem refcheck_any (hk : Bool) (k : ByteArray) (tb : Bool) (v : ByteArray) (w : World) (h1 : k.size ≤ maxLen) (h2 : v.size ≤ maxLen) :
    Calls Try.prog 30 #[.agg #[.bool hk, .string k, .bool tb, .string v]] w fun e w' => e = .returned (.int .i64 (chk hk k tb v)) ∧ Below w.heap.size w w' := by
  obtain ⟨x, hx⟩ : ∃ x, chk hk k tb v = x := ⟨_, rfl⟩
  have hA := sizes k 64 h1
  have hC := sizes v 512 h2
  clear h1 h2
  rw [hx]
  rcases hA with ⟨a, a1, a2⟩ | ⟨a, ⟨a1, a3⟩, a2⟩ | ⟨a, ⟨a1, a3, a4⟩, a2⟩ <;> rcases hC with ⟨c, c1, c2⟩ | ⟨c, ⟨c1, c3⟩, c2⟩ | ⟨c, ⟨c1, c3, c4⟩, c2⟩ <;> cases hk <;> cases tb <;> simp only [chk] at hx
  all_goals (try simp (disch := omega) only [if_pos, if_neg] at hx); subst hx
  all_goals
    go_enter Try.func30, Try.ntmps30
    go_wp2_with fail
    go_ret
    exact ⟨rfl, one_box _⟩

end Go.Proofs.Ytflcggpeflagiaa.L3
/-
  Contracts of the small functions of records: whether one may be, its first byte, how many records may be.
-/
namespace Go.Proofs.Ytflcggpeflagiaa.L3
open Go.RowKit

/-- whether a number may be -/
def numB (n : Int) : Bool := decide (0 ≤ n ∧ n ≤ 1099511627776)
theorem num_any (n : Int) (w : World) :
    Calls Try.prog 66 #[.int .i64 n] w fun e w' => e = .returned (.bool (numB n)) ∧ w = w' := by
  go_enter Try.func66, Try.ntmps66
  go_wp2_with fail
  all_goals
    go_ret
    refine ⟨congrArg (fun b => Ending.returned (.bool b)) ?_, rfl⟩
    unfold numB
    simp [*]
    try omega

/-- a record's first byte -/
def first (hk tb : Bool) : Int := if tb then 3 else if hk then 1 else 0
theorem first_any (hk : Bool) (k : ByteArray) (tb : Bool) (v : ByteArray) (w : World) :
    Calls Try.prog 77 #[.agg #[.bool hk, .string k, .bool tb, .string v]] w fun e w' => e = .returned (.int .u8 (first hk tb)) ∧ Below w.heap.size w w' := by
  cases hk <;> cases tb
  all_goals
    go_enter Try.func77, Try.ntmps77
    go_wp2_with fail
    go_ret
    exact ⟨rfl, one_box _⟩

theorem two_box {w : World} (o o' : Obj) : Below w.heap.size w ((w.alloc o).alloc o') := (one_box o).alloc (by simp) _

end Go.Proofs.Ytflcggpeflagiaa.L3
