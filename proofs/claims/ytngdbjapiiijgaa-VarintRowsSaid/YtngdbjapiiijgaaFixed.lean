/-
  The calls whose answers the document fixes.
-/
import Derived.Test.YtngdbjapiiijgaaTextRef
import Derived.Test.YtngdbjapiiijgaaRef
namespace Go.Proofs.Ytngdbjapiiijgaa
open Go.RowKit

/-- what has been kept so far is kept -/
theorem acc {W w w' : World} (h : Below W.heap.size W w) (k : Below w.heap.size w w') : Below W.heap.size W w' := h.trans (k.mono h.size)

theorem text_is (s : ByteArray) (at_ most : Int) (w : World) (hs : s.size ≤ 281474976710656) (hmost : most ≤ 9223372036854775807) (t : ByteArray) (to e : Int) (h : Hid (V.text s at_ most = (t, to, e))) :
    Calls Try.prog 21 #[.string s, .int .i64 at_, .int .i64 most] w fun e1 w' => e1 = .returned (.tuple #[.string t, .int .i64 to, .int .i64 e]) ∧ Below w.heap.size w w' := by
  have := gettext_any s at_ most w hs hmost
  rw [h.out] at this
  exact this

theorem f1 (w : World) : Calls Try.prog 19 #[.string ⟨#[172, 2, 120]⟩, .int .i64 0] w fun e w' => e = .returned (.tuple #[.int .u64 300, .int .i64 2, .int .i64 0]) ∧ w = w' :=
  get_is _ _ w (by decide) 300 2 0 (Lib.hid (by decide))
theorem f2 (w : World) : Calls Try.prog 19 #[.string ⟨#[128, 0]⟩, .int .i64 0] w fun e w' => e = .returned (.tuple #[.int .u64 0, .int .i64 0, .int .i64 11]) ∧ w = w' :=
  get_is _ _ w (by decide) 0 0 11 (Lib.hid (by decide))
theorem f3 (w : World) : Calls Try.prog 19 #[.string ⟨#[128]⟩, .int .i64 0] w fun e w' => e = .returned (.tuple #[.int .u64 0, .int .i64 0, .int .i64 10]) ∧ w = w' :=
  get_is _ _ w (by decide) 0 0 10 (Lib.hid (by decide))
theorem f4 (w : World) : Calls Try.prog 19 #[.string ⟨#[]⟩, .int .i64 1] w fun e w' => e = .returned (.tuple #[.int .u64 0, .int .i64 0, .int .i64 1]) ∧ w = w' :=
  get_is _ _ w (by decide) 0 0 1 (Lib.hid (by decide))
theorem f5 (w : World) : Calls Try.prog 21 #[.string ⟨#[2, 104, 105, 120]⟩, .int .i64 0, .int .i64 2] w fun e w' => e = .returned (.tuple #[.string ⟨#[104, 105]⟩, .int .i64 3, .int .i64 0]) ∧ Below w.heap.size w w' :=
  text_is _ _ _ w (by decide) (by decide) _ _ _ (Lib.hid (by decide))
theorem f6 (w : World) : Calls Try.prog 21 #[.string ⟨#[2, 104, 105]⟩, .int .i64 0, .int .i64 1] w fun e w' => e = .returned (.tuple #[.string ⟨#[]⟩, .int .i64 0, .int .i64 2]) ∧ Below w.heap.size w w' :=
  text_is _ _ _ w (by decide) (by decide) _ _ _ (Lib.hid (by decide))
theorem f7 (w : World) : Calls Try.prog 21 #[.string ⟨#[3, 104, 105]⟩, .int .i64 0, .int .i64 9] w fun e w' => e = .returned (.tuple #[.string ⟨#[]⟩, .int .i64 0, .int .i64 10]) ∧ Below w.heap.size w w' :=
  text_is _ _ _ w (by decide) (by decide) _ _ _ (Lib.hid (by decide))
theorem puts300 : V.puts 300 = [172, 2] := by rw [V.puts_big (by decide), V.puts_small (by decide)]
theorem puts2 : V.puts 2 = [2] := V.puts_small (by decide)
theorem f8 (w : World) : Calls Try.prog 11 #[.int .u64 300] w fun e w' => e = .returned (.string ⟨#[172, 2]⟩) ∧ Below w.heap.size w w' := by
  have h := put_any 300 w (by decide) (by decide)
  have e : V.put (300 : Int).toNat = ⟨#[172, 2]⟩ := by unfold V.put; rw [show (300 : Int).toNat = 300 from rfl, puts300]; rfl
  rw [e] at h
  exact h
theorem f9 (w : World) : Calls Try.prog 13 #[.int .u64 300] w fun e w' => e = .returned (.int .i64 2) ∧ Below w.heap.size w w' := by
  have h := size_any 300 w (by decide) (by decide)
  rw [show (300 : Int).toNat = 300 from rfl, puts300] at h
  exact h
theorem f10 (w : World) : Calls Try.prog 23 #[.string ⟨#[104, 105]⟩] w fun e w' => e = .returned (.string ⟨#[2, 104, 105]⟩) ∧ Below w.heap.size w w' := by
  have h := puttext_any ⟨#[104, 105]⟩ w (by decide)
  have e : V.put (ByteArray.mk #[104, 105]).size ++ ⟨#[104, 105]⟩ = (⟨#[2, 104, 105]⟩ : ByteArray) := by unfold V.put; rw [show (ByteArray.mk #[104, 105]).size = 2 from rfl, puts2]; decide
  rw [e] at h
  exact h
theorem f11 (w : World) : Calls Try.prog 14 #[.int .i64 (-1)] w fun e w' => e = .returned (.int .u64 1) ∧ w = w' := zig_any (-1) w (by decide) (by decide)
theorem f12 (w : World) : Calls Try.prog 14 #[.int .i64 1] w fun e w' => e = .returned (.int .u64 2) ∧ w = w' := zig_any 1 w (by decide) (by decide)
theorem f13 (w : World) : Calls Try.prog 16 #[.int .u64 3] w fun e w' => e = .returned (.int .i64 (-2)) ∧ w = w' := zag_any 3 w (by decide) (by decide)

set_option maxRecDepth 100000 in
set_option maxHeartbeats 4000000 in
theorem fixed_any (w : World) :
    Calls Try.prog 18 #[] w fun e w' => e = .returned (.bool true) ∧ Below w.heap.size w w' := by
  have hB := Below.refl w.heap.size w
  go_enter Try.func18, Try.ntmps18
  go_wp2_with (first
    | (go_at_call 19; (first | (with_reducible refine (f1 _).mono ?_) | (with_reducible refine (f2 _).mono ?_) | (with_reducible refine (f3 _).mono ?_) | (with_reducible refine (f4 _).mono ?_)); rintro e w' ⟨rfl, rfl⟩)
    | (go_at_call 21; (first | (with_reducible refine (f5 _).mono ?_) | (with_reducible refine (f6 _).mono ?_) | (with_reducible refine (f7 _).mono ?_)); rintro e w' ⟨rfl, hb⟩; replace hB := acc hB hb; clear hb)
    | (go_at_call 11; refine (f8 _).mono ?_; rintro e w' ⟨rfl, hb⟩; replace hB := acc hB hb; clear hb)
    | (go_at_call 13; refine (f9 _).mono ?_; rintro e w' ⟨rfl, hb⟩; replace hB := acc hB hb; clear hb)
    | (go_at_call 23; refine (f10 _).mono ?_; rintro e w' ⟨rfl, hb⟩; replace hB := acc hB hb; clear hb)
    | (go_at_call 14; (first | (with_reducible refine (f11 _).mono ?_) | (with_reducible refine (f12 _).mono ?_)); rintro e w' ⟨rfl, rfl⟩)
    | (go_at_call 16; refine (f13 _).mono ?_; rintro e w' ⟨rfl, rfl⟩))
  go_ret
  exact ⟨rfl, hB⟩
/-! ### Contracts once more, as the laws' walks meet them -/
theorem refput_is (n : Int) (w : World) (h0 : 0 ≤ n) (h1 : n ≤ 18446744073709551615) :
    Calls Try.prog 12 #[.int .u64 n] w fun e w' => e = .returned (.string (V.put n.toNat)) ∧ Below w.heap.size w w' :=
  refput_any n.toNat n w (by omega) h0 h1
theorem size_is (n : Int) (w : World) (h0 : 0 ≤ n) (h1 : n ≤ 18446744073709551615) :
    Calls Try.prog 13 #[.int .u64 n] w fun e w' => e = .returned (.int .i64 (V.put n.toNat).size) ∧ Below w.heap.size w w' := by
  rw [V.put_size]
  exact size_any n w h0 h1
theorem zig_wrap (n : Int) (w : World) :
    Calls Try.prog 14 #[.int .i64 (wrap64 n)] w fun e w' => e = .returned (.int .u64 (V.zig (wrap64 n))) ∧ w = w' :=
  zig_any _ w (by unfold wrap64; omega) (by unfold wrap64; omega)
theorem refzig_wrap (n : Int) (w : World) :
    Calls Try.prog 15 #[.int .i64 (wrap64 n)] w fun e w' => e = .returned (.int .u64 (V.zig (wrap64 n))) ∧ w = w' :=
  refzig_any _ w (by unfold wrap64; omega) (by unfold wrap64; omega)
end Go.Proofs.Ytngdbjapiiijgaa
