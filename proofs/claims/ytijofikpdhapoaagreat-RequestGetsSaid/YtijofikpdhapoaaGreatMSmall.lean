/-
  The contract of the function that tells whether a byte makes a number too long.
-/
import Derived.Test.YtijofikpdhapoaaGreatProg
import Derived.Test.YtijofikpdhapoaaGreatMMath
import Derived.WalkKit
import Derived.Test.YtijofikpdhapoaaGreatMRecMath
import Derived.Below
namespace Go.Proofs.YtijofikpdhapoaaGreat
open Go.RowKit

theorem ret_int {k : IntKind} {a b : Int} (h : a = b) : Ending.returned (.int k a) = .returned (.int k b) := by rw [h]

/-- a byte that makes a number too long -/
def tl (i b : Int) : Bool := decide ((i = 9 ∧ 1 < b) ∨ (0 < i ∧ b = 0))

theorem tooLong_any (i b : Int) (w : World) :
    Calls Tryz.prog 60 #[.int .i64 i, .int .u8 b] w fun e w' => e = .returned (.bool (tl i b)) ∧ w = w' := by
  have key : tl i b = true ∨ tl i b = false := by cases tl i b <;> simp
  rcases key with e | e <;> rw [e] <;> by_cases h1 : i = 9 <;> by_cases h2 : 1 < b <;> by_cases h3 : 0 < i <;> by_cases h4 : b = 0 <;> first | (exfalso; have := of_decide_eq_true e; omega) | (exfalso; have := of_decide_eq_false e; omega) | skip
  all_goals
    clear e
    go_enter Tryz.func60, Tryz.ntmps60
    go_wp2
    go_ret
    refine ⟨?_, rfl⟩
    first | rfl | (simp [*]; done)
theorem tooLong_is (i b : Int) (v : Bool) (w : World) (h : tl i b = v) :
    Calls Tryz.prog 60 #[.int .i64 i, .int .u8 b] w fun e w' => e = .returned (.bool v) ∧ w = w' := by
  subst h; exact tooLong_any i b w
theorem tl_nat {k b : Nat} (h : tl k b = true) : (k = 9 ∧ 1 < b) ∨ (0 < k ∧ b = 0) := by
  have := of_decide_eq_true h; omega
theorem tl_not {k b : Nat} (h : tl k b = false) : ¬ ((k = 9 ∧ 1 < b) ∨ (0 < k ∧ b = 0)) := by
  have := of_decide_eq_false h; omega
end Go.Proofs.YtijofikpdhapoaaGreat
/-
  Contracts: whether a record may be.
-/
namespace Go.Proofs.YtijofikpdhapoaaGreat.L3
open Go.RowKit

theorem nil_iff (s : ByteArray) : s.toList = [] ↔ s.size = 0 := by
  rw [ByteArray.toList_eq]
  cases s with | mk a => simp [ByteArray.size]

theorem one_box {w : World} (o : Obj) : Below w.heap.size w (w.alloc o) := (Below.refl _ _).alloc (Nat.le_refl _) _

theorem sizes (k : ByteArray) (m : Int) (h : k.size ≤ maxLen) :
    (k.size = 0 ∧ k.toList = [] ∧ (k.size : Int) ≤ 9223372036854775807) ∨ (0 < k.size ∧ (¬ k.toList = [] ∧ (!k.toList.isEmpty) = true) ∧ (k.size : Int) ≤ m) ∨ (m < (k.size : Int) ∧ (¬ k.toList = [] ∧ (!k.toList.isEmpty) = true ∧ 0 < k.size) ∧ (k.size : Int) ≤ 9223372036854775807) := by
  unfold maxLen at h
  have e := nil_iff k
  by_cases h0 : k.size = 0
  · exact .inl ⟨h0, e.2 h0, by omega⟩
  · have hn0 : ¬ k.toList = [] := fun q => h0 (e.1 q)
    have hn : ¬ k.toList = [] ∧ (!k.toList.isEmpty) = true := ⟨hn0, by cases h : k.toList with | nil => exact absurd h hn0 | cons _ _ => rfl⟩
    by_cases h1 : (k.size : Int) ≤ m
    · exact .inr (.inl ⟨by omega, hn, h1⟩)
    · exact .inr (.inr ⟨by omega, ⟨hn.1, hn.2, by omega⟩, by omega⟩)

set_option maxHeartbeats 400000 in
theorem check_any (hk : Bool) (k : ByteArray) (tb : Bool) (v : ByteArray) (w : World) (h1 : k.size ≤ maxLen) (h2 : v.size ≤ maxLen) :
    Calls Tryz.prog 67 #[.agg #[.bool hk, .string k, .bool tb, .string v]] w fun e w' => e = .returned (.int .i64 (chk hk k tb v)) ∧ Below w.heap.size w w' := by
  obtain ⟨x, hx⟩ : ∃ x, chk hk k tb v = x := ⟨_, rfl⟩
  have hA := sizes k 64 h1
  have hC := sizes v 512 h2
  clear h1 h2
  rw [hx]
  rcases hA with ⟨a, a1, a2⟩ | ⟨a, ⟨a1, a3⟩, a2⟩ | ⟨a, ⟨a1, a3, a4⟩, a2⟩ <;> rcases hC with ⟨c, c1, c2⟩ | ⟨c, ⟨c1, c3⟩, c2⟩ | ⟨c, ⟨c1, c3, c4⟩, c2⟩ <;> cases hk <;> cases tb <;> simp only [chk] at hx
  all_goals (try simp (disch := omega) only [if_pos, if_neg] at hx); subst hx
  all_goals
    go_enter Tryz.func67, Tryz.ntmps67
    go_wp2_with fail
    go_ret
    exact ⟨rfl, one_box _⟩

set_option maxHeartbeats 400000 in
theorem refcheck_any (hk : Bool) (k : ByteArray) (tb : Bool) (v : ByteArray) (w : World) (h1 : k.size ≤ maxLen) (h2 : v.size ≤ maxLen) :
    Calls Tryz.prog 74 #[.agg #[.bool hk, .string k, .bool tb, .string v]] w fun e w' => e = .returned (.int .i64 (chk hk k tb v)) ∧ Below w.heap.size w w' := by
  obtain ⟨x, hx⟩ : ∃ x, chk hk k tb v = x := ⟨_, rfl⟩
  have hA := sizes k 64 h1
  have hC := sizes v 512 h2
  clear h1 h2
  rw [hx]
  rcases hA with ⟨a, a1, a2⟩ | ⟨a, ⟨a1, a3⟩, a2⟩ | ⟨a, ⟨a1, a3, a4⟩, a2⟩ <;> rcases hC with ⟨c, c1, c2⟩ | ⟨c, ⟨c1, c3⟩, c2⟩ | ⟨c, ⟨c1, c3, c4⟩, c2⟩ <;> cases hk <;> cases tb <;> simp only [chk] at hx
  all_goals (try simp (disch := omega) only [if_pos, if_neg] at hx); subst hx
  all_goals
    go_enter Tryz.func74, Tryz.ntmps74
    go_wp2_with fail
    go_ret
    exact ⟨rfl, one_box _⟩

end Go.Proofs.YtijofikpdhapoaaGreat.L3
/-
  Contracts of the small functions of records: whether one may be, its first byte, how many records may be.
-/
namespace Go.Proofs.YtijofikpdhapoaaGreat.L3
open Go.RowKit

theorem count_any (n : Int) (w : World) :
    Calls Tryz.prog 109 #[.int .u64 n] w fun e w' => e = .returned (.int .i64 (cnt n)) ∧ w = w' := by
  go_enter Tryz.func109, Tryz.ntmps109
  go_wp2_with fail
  all_goals
    go_ret
    refine ⟨ret_int ?_, rfl⟩
    simp only [beq_iff_eq, beq_eq_false_iff_ne] at *
    unfold cnt
    (repeat' split) <;> first | rfl | (exfalso; omega)

/-- whether a number may be -/
def numB (n : Int) : Bool := decide (0 ≤ n ∧ n ≤ 1099511627776)
theorem num_any (n : Int) (w : World) :
    Calls Tryz.prog 55 #[.int .i64 n] w fun e w' => e = .returned (.bool (numB n)) ∧ w = w' := by
  go_enter Tryz.func55, Tryz.ntmps55
  go_wp2_with fail
  all_goals
    go_ret
    refine ⟨congrArg (fun b => Ending.returned (.bool b)) ?_, rfl⟩
    unfold numB
    simp [*]
    try omega

/-- a record's first byte -/
def first (hk tb : Bool) : Int := if tb then 3 else if hk then 1 else 0
theorem first_any (hk : Bool) (k : ByteArray) (tb : Bool) (v : ByteArray) (w : World) :
    Calls Tryz.prog 68 #[.agg #[.bool hk, .string k, .bool tb, .string v]] w fun e w' => e = .returned (.int .u8 (first hk tb)) ∧ Below w.heap.size w w' := by
  cases hk <;> cases tb
  all_goals
    go_enter Tryz.func68, Tryz.ntmps68
    go_wp2_with fail
    go_ret
    exact ⟨rfl, one_box _⟩

theorem two_box {w : World} (o o' : Obj) : Below w.heap.size w ((w.alloc o).alloc o') := (one_box o).alloc (by simp) _

theorem outline_zero (w : World) :
    Calls Tryz.prog 82 #[.int .u8 0] w fun e w' => e = .returned (.tuple #[.agg #[.bool false, .string ⟨#[]⟩, .bool false, .string ⟨#[]⟩], .bool true]) ∧ Below w.heap.size w w' := by
  go_enter Tryz.func82, Tryz.ntmps82
  go_wp2_with fail
  refine bodyPost_ret (v := .tuple #[.agg #[.bool false, .string ⟨#[]⟩, .bool false, .string ⟨#[]⟩], .bool true]) (by simp [results, Tryz.results82, go_sem]) rfl ⟨rfl, ?_⟩
  exact two_box _ _
theorem outline_one (w : World) :
    Calls Tryz.prog 82 #[.int .u8 1] w fun e w' => e = .returned (.tuple #[.agg #[.bool true, .string ⟨#[]⟩, .bool false, .string ⟨#[]⟩], .bool true]) ∧ Below w.heap.size w w' := by
  go_enter Tryz.func82, Tryz.ntmps82
  go_wp2_with fail
  refine bodyPost_ret (v := .tuple #[.agg #[.bool true, .string ⟨#[]⟩, .bool false, .string ⟨#[]⟩], .bool true]) (by simp [results, Tryz.results82, go_sem]) rfl ⟨rfl, ?_⟩
  exact two_box _ _
theorem outline_three (w : World) :
    Calls Tryz.prog 82 #[.int .u8 3] w fun e w' => e = .returned (.tuple #[.agg #[.bool true, .string ⟨#[]⟩, .bool true, .string ⟨#[]⟩], .bool true]) ∧ Below w.heap.size w w' := by
  go_enter Tryz.func82, Tryz.ntmps82
  go_wp2_with fail
  refine bodyPost_ret (v := .tuple #[.agg #[.bool true, .string ⟨#[]⟩, .bool true, .string ⟨#[]⟩], .bool true]) (by simp [results, Tryz.results82, go_sem]) rfl ⟨rfl, ?_⟩
  exact two_box _ _
theorem outline_no (c : Int) (w : World) (h : c ≠ 0 ∧ c ≠ 1 ∧ c ≠ 3) :
    Calls Tryz.prog 82 #[.int .u8 c] w fun e w' => e = .returned (.tuple #[.agg #[.bool false, .string ⟨#[]⟩, .bool false, .string ⟨#[]⟩], .bool false]) ∧ Below w.heap.size w w' := by
  have e0 : (c == 0) = false := by simpa using h.1
  have e1 : (c == 1) = false := by simpa using h.2.1
  have e3 : (c == 3) = false := by simpa using h.2.2
  clear h
  go_enter Tryz.func82, Tryz.ntmps82
  go_wp2_with fail
  refine bodyPost_ret (v := .tuple #[.agg #[.bool false, .string ⟨#[]⟩, .bool false, .string ⟨#[]⟩], .bool false]) (by simp [results, Tryz.results82, go_sem]) rfl ⟨rfl, ?_⟩
  exact two_box _ _
end Go.Proofs.YtijofikpdhapoaaGreat.L3
