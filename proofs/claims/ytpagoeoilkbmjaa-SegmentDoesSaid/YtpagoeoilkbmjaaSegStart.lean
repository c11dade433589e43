/-
  Two new segments, the program's and the document's.
-/
import Derived.Test.YtpagoeoilkbmjaaSegBoth
namespace Go.Proofs.Ytpagoeoilkbmjaa.L5
open Go.RowKit
open L3 L4

theorem mask40 (x : Int) : 0 ≤ bits .and .i64 x 1099511627775 ∧ bits .and .i64 x 1099511627775 ≤ 1099511627775 := by
  have e : (BitVec.ofInt 64 x &&& BitVec.ofInt 64 1099511627775).toNat ≤ 1099511627775 := by
    rw [BitVec.toNat_and]
    exact Nat.le_trans Nat.and_le_right (by decide)
  show 0 ≤ IntKind.i64.wrap ((BitVec.ofInt 64 x &&& BitVec.ofInt 64 1099511627775).toNat : Int) ∧ IntKind.i64.wrap ((BitVec.ofInt 64 x &&& BitVec.ofInt 64 1099511627775).toNat : Int) ≤ 1099511627775
  rw [IntKind.wrap_i64]
  omega
theorem newE_ok {b : Int} (h0 : 0 ≤ b) (h1 : b ≤ 1099511627775) : newE b = 0 := by
  unfold newE
  rw [if_pos (by simp [numB]; omega)]
theorem good_new {b : Int} (h0 : 0 ≤ b) (h1 : b ≤ 1099511627775) : Good b b [] :=
  ⟨h0, Int.le_refl _, by omega, by simp, rfl, fun f hf => by simp at hf⟩
theorem new_first (b : Int) (W : World) (HX : Hid (newE b = 0)) :
    Calls Try.prog 11 #[.int .i64 b] W fun e W' => ∃ g A c, e = .returned (.tuple #[.pointer (some ⟨g, 0, none⟩), .int .i64 0]) ∧ Fresh 87 W g A c b b [] W' ∧ Below W.heap.size W W' := by
  refine (new_is b 0 W HX).mono ?_
  rintro e W' ⟨h, ⟨hx, _⟩ | ⟨_, g, A, cap, rfl, hf⟩⟩
  · exact absurd rfl hx
  · exact ⟨g, A, cap, rfl, hf, h⟩
theorem new_second {w W : World} {g c : Nat} {A : Option Addr} {b : Int} (hf : Hid (Fresh 87 w g A c b b [] W)) (hb : Hid (Below w.heap.size w W)) (HX : Hid (newE b = 0)) :
    Calls Try.prog 12 #[.int .i64 b] W fun e W' => ∃ k X, e = .returned (.tuple #[.pointer (some ⟨k, 0, none⟩), .int .i64 0]) ∧ Both w W' g k A X b b [] b [] := by
  refine (rnew_is b 0 W HX).mono ?_
  rintro e W' ⟨h, ⟨hx, _⟩ | ⟨_, k, X, cap, rfl, hf2⟩⟩
  · exact absurd rfl hx
  · have hsz := hb.out.size
    exact ⟨k, X, rfl, acc hb.out h, hf.out.2.1, by have := hf2.2.1; omega, hf.out.2.2, fun j e => by have := hf2.2.2 j e; omega, ⟨c, hf.out.1.below h⟩, ⟨cap, hf2.1⟩, far_fresh hf.out.1.lt hf.out.1.blkLt hf2⟩
end Go.Proofs.Ytpagoeoilkbmjaa.L5
