/-
  Contracts: a record's bytes.
-/
import Derived.Test.YtinhinghakkfoaaRecSmall
import Derived.Test.YtinhinghakkfoaaTextRef
import Derived.Test.YtinhinghakkfoaaRef
namespace Go.Proofs.Ytinhinghakkfoaa.L3
open Go.RowKit

theorem txtput_is (t s : ByteArray) (w : World) (ht : t.size ≤ 281474976710656) (h : Hid (txt t = s)) :
    Calls Try.prog 27 #[.string t] w fun e w' => e = .returned (.string s) ∧ Below w.heap.size w w' := by
  have k := puttext_any t w ht
  rw [show V.put t.size ++ t = s from h.out] at k
  exact k
theorem reftxt_is (s p : ByteArray) (w : World) (hs : s.size ≤ 281474976710656) (h : Hid (txt s = p)) :
    Calls Try.prog 40 #[.string s] w fun e w' => e = .returned (.string p) ∧ Below w.heap.size w w' := by
  rw [← h.out]
  unfold txt
  have hz : (V.put s.size).size ≤ 10 := by rw [V.put_size]; exact V.puts_len _ (by omega)
  go_enter Try.func40, Try.ntmps40
  go_wp2_with (go_at_call 30; refine (refput_any s.size _ _ (by omega) (by omega) (by omega)).mono ?_; rintro e w' ⟨rfl, hb⟩)
  go_ret
  exact ⟨rfl, hb⟩

theorem box_cells {W w1 : World} (hb : Below W.heap.size W w1) : (∀ b o, b < W.heap.size → w1.cell? ⟨b, o, none⟩ = W.cell? ⟨b, o, none⟩) ∧ (∀ b o, b < W.heap.size → w1.frozen? ⟨b, o, none⟩ = W.frozen? ⟨b, o, none⟩) :=
  ⟨fun b o h => hb.cell (p := ⟨b, o, none⟩) h, fun b o h => hb.frozen (p := ⟨b, o, none⟩) h⟩

set_option maxRecDepth 100000 in
set_option maxHeartbeats 1000000 in
theorem put_three (k v tk : ByteArray) (w : World) (hk1 : k.size ≤ 64) (hv1 : v.size ≤ 512) (htk : tk.size ≤ 100) (TK : Hid (txt k = tk)) (HC : Hid (chk true k true v = 0)) :
    Calls Try.prog 11 #[.agg #[.bool true, .string k, .bool true, .string v]] w fun e w' => e = .returned (.tuple #[.string (⟨#[3]⟩ ++ tk), .int .i64 0]) ∧ Below w.heap.size w w' := by
  have kc := conv_one
  have e3 : strOfNums [3] = ⟨#[3]⟩ := rfl
  have hB := Below.refl w.heap.size w
  go_enter Try.func11, Try.ntmps11
  go_wp2_with (first
    | (go_at_call 15; refine (check_any _ _ _ _ _ (by unfold maxLen; omega) (by unfold maxLen; omega)).mono ?_; rw [HC.out]; rintro e w1 ⟨rfl, hb1⟩; obtain ⟨hc1, hf1⟩ := box_cells hb1; have hz1 : w.heap.size < w1.heap.size := (by have := hb1.size; simp at this; omega); replace hB := ((hB.alloc (Nat.le_refl _) _).trans (hb1.mono (by simp))); clear hb1)
    | (go_at_call 26; refine (first_any _ _ _ _ _).mono ?_; rw [show first true true = 3 from rfl]; rintro e w2 ⟨rfl, hb2⟩; obtain ⟨hc2, hf2⟩ := box_cells hb2; have hz2 : w.heap.size < w2.heap.size := (by have := hb2.size; omega); replace hB := acc hB hb2; clear hb2)
    | (go_at_call 27; (with_reducible refine (txtput_is _ _ _ (by omega) TK).mono ?_); rintro e w3 ⟨rfl, hb3⟩; obtain ⟨hc3, hf3⟩ := box_cells hb3; have hz3 : w.heap.size < w3.heap.size := (by have := hb3.size; simp at this; omega); replace hB := (hB.alloc (by omega) _).trans (hb3.mono (by simp; omega)); clear hb3))
  go_ret2
  exact ⟨rfl, hB⟩
set_option maxRecDepth 100000 in
set_option maxHeartbeats 1000000 in
theorem put_one (k v tk tv : ByteArray) (w : World) (hk1 : k.size ≤ 64) (hv1 : v.size ≤ 512) (htk : tk.size ≤ 100) (htv : tv.size ≤ 600) (TK : Hid (txt k = tk)) (TV : Hid (txt v = tv)) (HC : Hid (chk true k false v = 0)) :
    Calls Try.prog 11 #[.agg #[.bool true, .string k, .bool false, .string v]] w fun e w' => e = .returned (.tuple #[.string (⟨#[1]⟩ ++ tk ++ tv), .int .i64 0]) ∧ Below w.heap.size w w' := by
  have kc := conv_one
  have e3 : strOfNums [1] = ⟨#[1]⟩ := rfl
  have hB := Below.refl w.heap.size w
  go_enter Try.func11, Try.ntmps11
  go_wp2_with (first
    | (go_at_call 15; refine (check_any _ _ _ _ _ (by unfold maxLen; omega) (by unfold maxLen; omega)).mono ?_; rw [HC.out]; rintro e w1 ⟨rfl, hb1⟩; obtain ⟨hc1, hf1⟩ := box_cells hb1; have hz1 : w.heap.size < w1.heap.size := (by have := hb1.size; simp at this; omega); replace hB := ((hB.alloc (Nat.le_refl _) _).trans (hb1.mono (by simp))); clear hb1)
    | (go_at_call 26; refine (first_any _ _ _ _ _).mono ?_; rw [show first true false = 1 from rfl]; rintro e w2 ⟨rfl, hb2⟩; obtain ⟨hc2, hf2⟩ := box_cells hb2; have hz2 : w.heap.size < w2.heap.size := (by have := hb2.size; omega); replace hB := acc hB hb2; clear hb2)
    | (go_at_call 27; (with_reducible refine (txtput_is _ _ _ (by omega) TK).mono ?_); rintro e w3 ⟨rfl, hb3⟩; obtain ⟨hc3, hf3⟩ := box_cells hb3; have hz3 : w.heap.size < w3.heap.size := (by have := hb3.size; simp at this; omega); replace hB := (hB.alloc (by omega) _).trans (hb3.mono (by simp; omega)); clear hb3)
    | (go_at_call 27; (with_reducible refine (txtput_is _ _ _ (by omega) TV).mono ?_); rintro e w4 ⟨rfl, hb4⟩; replace hB := acc hB hb4; clear hb4))
  go_ret2
  exact ⟨rfl, hB⟩
set_option maxRecDepth 100000 in
set_option maxHeartbeats 1000000 in
theorem put_zero (k v tv : ByteArray) (w : World) (hk1 : k.size ≤ 64) (hv1 : v.size ≤ 512) (htv : tv.size ≤ 600) (TV : Hid (txt v = tv)) (HC : Hid (chk false k false v = 0)) :
    Calls Try.prog 11 #[.agg #[.bool false, .string k, .bool false, .string v]] w fun e w' => e = .returned (.tuple #[.string (⟨#[0]⟩ ++ tv), .int .i64 0]) ∧ Below w.heap.size w w' := by
  have kc := conv_one
  have e3 : strOfNums [0] = ⟨#[0]⟩ := rfl
  have hB := Below.refl w.heap.size w
  go_enter Try.func11, Try.ntmps11
  go_wp2_with (first
    | (go_at_call 15; refine (check_any _ _ _ _ _ (by unfold maxLen; omega) (by unfold maxLen; omega)).mono ?_; rw [HC.out]; rintro e w1 ⟨rfl, hb1⟩; obtain ⟨hc1, hf1⟩ := box_cells hb1; have hz1 : w.heap.size < w1.heap.size := (by have := hb1.size; simp at this; omega); replace hB := ((hB.alloc (Nat.le_refl _) _).trans (hb1.mono (by simp))); clear hb1)
    | (go_at_call 26; refine (first_any _ _ _ _ _).mono ?_; rw [show first false false = 0 from rfl]; rintro e w2 ⟨rfl, hb2⟩; obtain ⟨hc2, hf2⟩ := box_cells hb2; have hz2 : w.heap.size < w2.heap.size := (by have := hb2.size; omega); replace hB := acc hB hb2; clear hb2)
    | (go_at_call 27; (with_reducible refine (txtput_is _ _ _ (by omega) TV).mono ?_); rintro e w3 ⟨rfl, hb3⟩; obtain ⟨hc3, hf3⟩ := box_cells hb3; have hz3 : w.heap.size < w3.heap.size := (by have := hb3.size; simp at this; omega); replace hB := (hB.alloc (by omega) _).trans (hb3.mono (by simp; omega)); clear hb3))
  go_ret2
  exact ⟨rfl, hB⟩

set_option maxHeartbeats 1000000 in
theorem put_err (hk : Bool) (k : ByteArray) (tb : Bool) (v : ByteArray) (x : Int) (w : World) (h1 : k.size ≤ maxLen) (h2 : v.size ≤ maxLen) (HX : (x != 0) = true) (HC : Hid (chk hk k tb v = x)) :
    Calls Try.prog 11 #[.agg #[.bool hk, .string k, .bool tb, .string v]] w fun e w' => e = .returned (.tuple #[.string ⟨#[]⟩, .int .i64 x]) ∧ Below w.heap.size w w' := by
  have H1 := Lib.hid h1
  have H2 := Lib.hid h2
  clear h1 h2
  go_enter Try.func11, Try.ntmps11
  go_wp2_with (go_at_call 15; refine (check_any _ _ _ _ _ H1.out H2.out).mono ?_; rw [HC.out]; rintro e w1 ⟨rfl, hb1⟩)
  go_ret2
  exact ⟨rfl, (one_box _).trans (hb1.mono (by simp))⟩
end Go.Proofs.Ytinhinghakkfoaa.L3
