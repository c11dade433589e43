/-
  Plain facts on the machine's bits: a number as sevens, signs turned.
-/
import Derived.Laws.BitsAllLaws
import Derived.Laws.Bits64
import Derived.Laws.BitsLemmas
import Derived.RowKit
import Derived.Test.YtinhinghakkfoaaMath
namespace Go.Proofs.Ytinhinghakkfoaa.V
open Go Go.RowKit

def zig (n : Int) : Int := if 0 ≤ n then 2 * n else -2 * n - 1
def zag (n : Int) : Int := if n % 2 = 0 then n / 2 else -(n / 2) - 1

theorem u64_xor_ones (x : Nat) (h : x < 18446744073709551616) : bits .xor .u64 (x : Int) 18446744073709551615 = 18446744073709551615 - x := by
  have := u64_xor_nat x 18446744073709551615 h (by decide)
  rw [show ((18446744073709551615 : Nat) : Int) = 18446744073709551615 from rfl] at this
  rw [this]
  have e : x ^^^ 18446744073709551615 = 18446744073709551615 - x := by
    have h1 : (BitVec.ofNat 64 x ^^^ BitVec.allOnes 64).toNat = (~~~ (BitVec.ofNat 64 x)).toNat := by rw [BitVec.xor_allOnes]
    rw [BitVec.toNat_xor, BitVec.toNat_not, BitVec.toNat_ofNat, BitVec.toNat_allOnes, Nat.mod_eq_of_lt (by omega)] at h1
    exact h1
  rw [e]; omega

theorem zig_bits (n : Int) (h0 : -9223372036854775808 ≤ n) (h1 : n ≤ 9223372036854775807) :
    bits .xor .u64 (IntKind.u64.wrap (IntKind.u64.wrap n * 2)) (IntKind.u64.wrap (n / 9223372036854775808)) = zig n := by
  simp only [IntKind.wrap_u64]
  unfold zig
  by_cases h : 0 ≤ n
  · rw [if_pos h]
    have e1 : n / 9223372036854775808 % 18446744073709551616 = ((0 : Nat) : Int) := by omega
    have e2 : n % 18446744073709551616 * 2 % 18446744073709551616 = ((2 * n).toNat : Int) := by omega
    rw [e1, e2, u64_xor_nat _ _ (by omega) (by decide), Nat.xor_zero]
    omega
  · rw [if_neg h]
    have e1 : n / 9223372036854775808 % 18446744073709551616 = 18446744073709551615 := by omega
    have e2 : n % 18446744073709551616 * 2 % 18446744073709551616 = ((18446744073709551616 + 2 * n).toNat : Int) := by omega
    rw [e1, e2, u64_xor_ones _ (by omega)]
    omega

theorem i64_xor_zero (x : Int) (h0 : 0 ≤ x) (h1 : x ≤ 9223372036854775807) : bits .xor .i64 x 0 = x := by
  have e : (BitVec.ofInt 64 x ^^^ BitVec.ofInt 64 0).toNat = x.toNat := by
    rw [show BitVec.ofInt 64 0 = 0#64 from rfl, BitVec.xor_zero, BitVec.toNat_ofInt]; omega
  show IntKind.i64.wrap ((BitVec.ofInt 64 x ^^^ BitVec.ofInt 64 0).toNat : Int) = x
  rw [e, IntKind.wrap_i64]
  omega
theorem i64_xor_ones (x : Int) (h0 : 0 ≤ x) (h1 : x ≤ 9223372036854775807) : bits .xor .i64 x (-1) = -x - 1 := by
  have e : ((BitVec.ofInt 64 x ^^^ BitVec.ofInt 64 (-1)).toNat : Int) = 18446744073709551615 - x := by
    rw [show BitVec.ofInt 64 (-1) = BitVec.allOnes 64 from by decide, BitVec.xor_allOnes, BitVec.toNat_not, BitVec.toNat_ofInt]; omega
  show IntKind.i64.wrap ((BitVec.ofInt 64 x ^^^ BitVec.ofInt 64 (-1)).toNat : Int) = -x - 1
  rw [e, IntKind.wrap_i64]
  omega

theorem u64_and_one (n : Int) (h0 : 0 ≤ n) (h1 : n ≤ 18446744073709551615) : bits .and .u64 n 1 = n % 2 := by
  have := u64_and_nat n.toNat 1 (by omega) (by decide)
  rw [show (n.toNat : Int) = n by omega, show ((1 : Nat) : Int) = 1 from rfl, nat_mask1] at this
  rw [this]; omega

theorem zag_bits (n : Int) (h0 : 0 ≤ n) (h1 : n ≤ 18446744073709551615) :
    bits .xor .i64 (n / 2) (wrap64 (-wrap64 (bits .and .u64 n 1))) = zag n := by
  rw [u64_and_one n h0 h1]
  unfold zag
  by_cases h : n % 2 = 0
  · rw [if_pos h, h]
    have : wrap64 (-wrap64 0) = 0 := by decide
    rw [this]
    exact i64_xor_zero _ (by omega) (by omega)
  · rw [if_neg h]
    have e : n % 2 = 1 := by omega
    rw [e]
    have : wrap64 (-wrap64 1) = -1 := by decide
    rw [this]
    exact i64_xor_ones _ (by omega) (by omega)

theorem zig_nonneg (n : Int) (h0 : -9223372036854775808 ≤ n) (h1 : n ≤ 9223372036854775807) : 0 ≤ zig n ∧ zig n ≤ 18446744073709551615 := by unfold zig; split <;> omega
theorem zag_range (n : Int) (h0 : 0 ≤ n) (h1 : n ≤ 18446744073709551615) : -9223372036854775808 ≤ zag n ∧ zag n ≤ 9223372036854775807 := by unfold zag; split <;> omega
theorem zag_zig (n : Int) : zag (zig n) = n := by unfold zig zag; split <;> split <;> omega
theorem zig_zag (n : Int) (h : 0 ≤ n) : zig (zag n) = n := by unfold zig zag; split <;> split <;> omega
theorem zig_odd (n : Int) : zig n % 2 = 1 ↔ n < 0 := by unfold zig; split <;> omega
theorem zig_small (n : Int) : zig n < 128 ↔ (-64 ≤ n ∧ n < 64) := by unfold zig; split <;> omega

/-- the lowest seven bits of a number, alone or with the sign that another one follows -/
theorem u8_low (b : Int) (h0 : 0 ≤ b) (h1 : b ≤ 255) : bits .andNot .u8 b 128 = b % 128 := by
  rw [u8_andNot b 128 h0 (by omega) (by decide) (by decide)]
  have : b.toNat &&& (255 - (128 : Int).toNat) = b.toNat % 128 := nat_mask7 _
  rw [this]; omega
theorem u8_more (b : Int) (h0 : 0 ≤ b) (h1 : b < 128) : bits .or .u8 b 128 = b + 128 := by
  rw [u8_or b 128 h0 (by omega) (by decide) (by decide)]
  have : b.toNat ||| (128 : Int).toNat = b.toNat + 128 := by
    rw [Nat.or_comm]
    rw [show (128 : Int).toNat = 128 from rfl, nat_join 7 128 b.toNat (by decide) (by omega)]
    omega
  rw [this]; omega

/-- a number's next seven, joined -/
theorem u64_join (acc c i : Nat) (hi : i ≤ 9) (ha : acc < 128 ^ i) (hc : c < 128) (h9 : i = 9 → c ≤ 1) :
    bits .or .u64 (acc : Int) (((c : Int) * 2 ^ (7 * i)) % 18446744073709551616) = ((acc + c * 128 ^ i : Nat) : Int) := by
  have e : (2 : Nat) ^ (7 * i) = 128 ^ i := by rw [Nat.pow_mul]
  have hlt : c * 128 ^ i < 18446744073709551616 := by
    rcases Nat.lt_or_ge i 9 with h | h
    · have h8 : (128 : Nat) ^ i ≤ 128 ^ 8 := Nat.pow_le_pow_right (by decide) (by omega)
      have e8 : (128 : Nat) ^ 8 = 72057594037927936 := by decide
      have : c * 128 ^ i ≤ 127 * 128 ^ 8 := Nat.mul_le_mul (by omega) h8
      omega
    · obtain rfl : i = 9 := by omega
      have e9 : (128 : Nat) ^ 9 = 9223372036854775808 := by decide
      rw [e9]
      have := h9 rfl
      omega
  have hacc : acc < 18446744073709551616 := by
    have h9 : (128 : Nat) ^ i ≤ 128 ^ 9 := Nat.pow_le_pow_right (by decide) hi
    have e9 : (128 : Nat) ^ 9 = 9223372036854775808 := by decide
    omega
  have ez : ((c : Int) * 2 ^ (7 * i)) % 18446744073709551616 = ((c * 128 ^ i : Nat) : Int) := by
    have : ((c : Int) * 2 ^ (7 * i)) = ((c * 128 ^ i : Nat) : Int) := by
      rw [← e]; simp
    rw [this]; omega
  rw [ez, u64_or_nat acc _ hacc hlt, Nat.or_comm, nat_join (7 * i) _ acc (by rw [e]; exact Nat.mul_mod_left _ _) (by rw [e]; exact ha), Nat.add_comm]

/-- as the document spells it -/
theorem sum_spelt (acc b k P : Nat) (hk : k ≤ 9) (ha : acc < 128 ^ k) (h9 : k = 9 → b ≤ 1) (hP : P = 128 ^ k) :
    IntKind.u64.wrap ((acc : Int) + IntKind.u64.wrap ((b : Int) % 128 * (P : Int))) = ((acc + b % 128 * 128 ^ k : Nat) : Int) := by
  have hlt : acc + b % 128 * 128 ^ k < 18446744073709551616 := by
    rcases Nat.lt_or_ge k 9 with h | h
    · have h8 : (128 : Nat) ^ k ≤ 128 ^ 8 := Nat.pow_le_pow_right (by decide) (by omega)
      have e8 : (128 : Nat) ^ 8 = 72057594037927936 := by decide
      have : b % 128 * 128 ^ k ≤ 127 * 128 ^ 8 := Nat.mul_le_mul (by omega) h8
      omega
    · obtain rfl : k = 9 := by omega
      have e9 : (128 : Nat) ^ 9 = 9223372036854775808 := by decide
      rw [e9] at ha ⊢
      have := h9 rfl
      have : b % 128 * 9223372036854775808 ≤ 1 * 9223372036854775808 := Nat.mul_le_mul_right _ (by omega)
      omega
  have e : (b : Int) % 128 * (P : Int) = ((b % 128 * 128 ^ k : Nat) : Int) := by rw [hP]; simp
  rw [IntKind.wrap_u64, IntKind.wrap_u64, e]
  omega
theorem pow_next (k P : Nat) (hk : k < 9) (hP : P = 128 ^ k) : IntKind.u64.wrap ((P : Int) * 128) = ((128 ^ (k + 1) : Nat) : Int) := by
  have h8 : (128 : Nat) ^ k ≤ 128 ^ 8 := Nat.pow_le_pow_right (by decide) (by omega)
  have e8 : (128 : Nat) ^ 8 = 72057594037927936 := by decide
  rw [IntKind.wrap_u64, Nat.pow_succ, ← hP]
  omega

/-- as the machine spells it -/
theorem join_spelt (acc b k : Nat) (hk : k ≤ 9) (ha : acc < 128 ^ k) (hb : b < 256) (h9 : k = 9 → b ≤ 1) :
    bits .or .u64 (acc : Int) (IntKind.u64.wrap (IntKind.u64.wrap (bits .andNot .u8 (b : Int) 128) * 2 ^ (7 * k))) = ((acc + b % 128 * 128 ^ k : Nat) : Int) := by
  rw [u8_low _ (by omega) (by omega), IntKind.wrap_u64, IntKind.wrap_u64]
  have e : (b : Int) % 128 % 18446744073709551616 = ((b % 128 : Nat) : Int) := by omega
  rw [e]
  exact u64_join acc (b % 128) k hk ha (by omega) (fun h => by have := h9 h; omega)
theorem acc_next (acc b k : Nat) (ha : acc < 128 ^ k) : acc + b % 128 * 128 ^ k < 128 ^ (k + 1) := by
  have : b % 128 * 128 ^ k ≤ 127 * 128 ^ k := Nat.mul_le_mul_right _ (by omega)
  rw [Nat.pow_succ]; omega
end Go.Proofs.Ytinhinghakkfoaa.V
