/-
  The calls on sums and frames whose answers the document fixes; what the laws' walks want of sums, frames and cuts.
-/
import Derived.Test.YtinnellkjoeikaaCrcImp
namespace Go.Proofs.Ytinnellkjoeikaa
open Go.RowKit

theorem crcsum_is (s : ByteArray) (c : Int) (w : World) (hs : s.size ≤ 140737488355328) (h : Hid (((sumOf s : Nat) : Int) = c)) :
    Calls Try.prog 10 #[.string s] w fun e w' => e = .returned (.int .u32 c) ∧ Below w.heap.size w w' := by
  have k := crcsum_any s w hs
  rw [h.out] at k
  exact k
theorem crcmore_is (S : Int) (s : ByteArray) (c : Int) (w : World) (h0 : 0 ≤ S) (h1 : S ≤ 4294967295) (hs : s.size ≤ 140737488355328) (h : Hid (((C.more S.toNat (V.nats s) : Nat) : Int) = c)) :
    Calls Try.prog 12 #[.int .u32 S, .string s] w fun e w' => e = .returned (.int .u32 c) ∧ Below w.heap.size w w' := by
  have k := crcmore_any S s w h0 h1 hs
  rw [h.out] at k
  exact k
theorem frame_is (s f : ByteArray) (w : World) (hs : s.size ≤ 140737488355328) (h : Hid (frame s = f)) :
    Calls Try.prog 17 #[.string s] w fun e w' => e = .returned (.string f) ∧ Below w.heap.size w w' := by
  have k := frame_any s w hs
  rw [h.out] at k
  exact k
theorem cut_is (s : ByteArray) (at_ most : Int) (w : World) (hs : s.size ≤ 140737488355328) (hmost : most ≤ 9223372036854775807) (t : ByteArray) (to e : Int) (h : Hid (cut s at_ most = (t, to, e))) :
    Calls Try.prog 15 #[.string s, .int .i64 at_, .int .i64 most] w fun e1 w' => e1 = .returned (.tuple #[.string t, .int .i64 to, .int .i64 e]) ∧ Below w.heap.size w w' := by
  have k := cut_any s at_ most w hs hmost
  rw [h.out] at k
  exact k

theorem x1 (w : World) (f : ByteArray) (hf : Hid (frame ⟨#[104, 105]⟩ = f)) : Calls Try.prog 15 #[.string (f ++ ⟨#[120]⟩), .int .i64 0, .int .i64 9] w fun e w' => e = .returned (.tuple #[.string ⟨#[104, 105]⟩, .int .i64 7, .int .i64 0]) ∧ Below w.heap.size w w' := by
  have hp : (V.puts (ByteArray.mk #[104, 105]).size).length = 1 := (V.puts_one _).2 (by decide)
  have hz : (frame ⟨#[104, 105]⟩).size = 7 := by rw [frame_size, hp]; rfl
  refine cut_is _ _ _ w (by rw [ByteArray.size_append, ← hf.out, hz]; decide) (by decide) _ _ _ (Lib.hid ?_)
  have k := cut_at (s := f ++ ⟨#[120]⟩) (l := []) (r := V.nats ⟨#[120]⟩) (t := ⟨#[104, 105]⟩) (most := 9) (by decide) (by rw [← hf.out, V.nats_append]; rfl) (by decide)
  rw [hz] at k
  exact k
theorem text_hi (r : List UInt8) : V.text ⟨(2 :: 104 :: 105 :: r).toArray⟩ 0 9 = (⟨#[104, 105]⟩, 3, 0) := by
  have h := text_at (s := ⟨(2 :: 104 :: 105 :: r).toArray⟩) (l := []) (r := r.map UInt8.toNat) (t := ⟨#[104, 105]⟩) (most := 9) (by decide)
    (by rw [show (ByteArray.mk #[104, 105]).size = 2 from rfl, V.puts_small (by decide)]; rfl) (by decide)
  rw [show (ByteArray.mk #[104, 105]).size = 2 from rfl, V.puts_small (by decide)] at h
  exact h
theorem x2 (w : World) : Calls Try.prog 15 #[.string ⟨#[2, 104, 105]⟩, .int .i64 0, .int .i64 9] w fun e w' => e = .returned (.tuple #[.string ⟨#[]⟩, .int .i64 0, .int .i64 20]) ∧ Below w.heap.size w w' :=
  cut_is _ _ _ w (by decide) (by decide) _ _ _ (Lib.hid (cut_short (text_hi []) (by decide)))
theorem x3 (w : World) : Calls Try.prog 15 #[.string ⟨#[2, 104, 105, 0, 0, 0, 0]⟩, .int .i64 0, .int .i64 9] w fun e w' => e = .returned (.tuple #[.string ⟨#[]⟩, .int .i64 0, .int .i64 21]) ∧ Below w.heap.size w w' :=
  cut_is _ _ _ w (by decide) (by decide) _ _ _ (Lib.hid (cut_sum (text_hi [0, 0, 0, 0]) (by decide) (by decide +kernel)))
theorem x4 (w : World) : Calls Try.prog 10 #[.string ⟨#[49, 50, 51, 52, 53, 54, 55, 56, 57]⟩] w fun e w' => e = .returned (.int .u32 3421780262) ∧ Below w.heap.size w w' :=
  crcsum_is _ _ w (by decide) (Lib.hid (by decide +kernel))
theorem x5 (w : World) : Calls Try.prog 10 #[.string ⟨#[]⟩] w fun e w' => e = .returned (.int .u32 0) ∧ Below w.heap.size w w' :=
  crcsum_is _ _ w (by decide) (Lib.hid (by decide +kernel))
theorem x6 (w : World) : Calls Try.prog 10 #[.string ⟨#[49, 50, 51, 52]⟩] w fun e w' => e = .returned (.int .u32 2615402659) ∧ Below w.heap.size w w' :=
  crcsum_is _ _ w (by decide) (Lib.hid (by decide +kernel))
theorem x7 (w : World) : Calls Try.prog 12 #[.int .u32 2615402659, .string ⟨#[53, 54, 55, 56, 57]⟩] w fun e w' => e = .returned (.int .u32 3421780262) ∧ Below w.heap.size w w' :=
  crcmore_is _ _ _ w (by decide) (by decide) (by decide) (Lib.hid (by decide +kernel))

set_option maxRecDepth 100000 in
set_option maxHeartbeats 4000000 in
theorem fixed2_any (w : World) :
    Calls Try.prog 14 #[] w fun e w' => e = .returned (.bool true) ∧ Below w.heap.size w w' := by
  have hB := Below.refl w.heap.size w
  obtain ⟨f, hf⟩ : ∃ f, frame ⟨#[104, 105]⟩ = f := ⟨_, rfl⟩
  have hz : f.size = 7 := by rw [← hf, frame_size, (V.puts_one _).2 (by decide)]; rfl
  have HF := Lib.hid hf
  clear hf
  go_enter Try.func14, Try.ntmps14
  go_wp2_with (first
    | (go_at_call 17; refine (frame_is _ _ _ (by decide) HF).mono ?_; rintro e w' ⟨rfl, hb⟩; replace hB := acc hB hb; clear hb)
    | (go_at_call 15; (first | (with_reducible refine (x1 _ _ HF).mono ?_) | (with_reducible refine (x2 _).mono ?_) | (with_reducible refine (x3 _).mono ?_)); rintro e w' ⟨rfl, hb⟩; replace hB := acc hB hb; clear hb)
    | (go_at_call 10; (first | (with_reducible refine (x4 _).mono ?_) | (with_reducible refine (x5 _).mono ?_) | (with_reducible refine (x6 _).mono ?_)); rintro e w' ⟨rfl, hb⟩; replace hB := acc hB hb; clear hb)
    | (go_at_call 12; refine (x7 _).mono ?_; rintro e w' ⟨rfl, hb⟩; replace hB := acc hB hb; clear hb))
  go_ret
  exact ⟨rfl, hB⟩
end Go.Proofs.Ytinnellkjoeikaa
