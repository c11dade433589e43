/-
  The contracts of texts: put, and got.
-/
import Derived.Test.YtflcggpeflagiaaMSev
import Derived.Laws.DeepStrings4
import Derived.Deep.RegionWith
import Derived.Test.YtflcggpeflagiaaMSmall
namespace Go.Proofs.Ytflcggpeflagiaa
open Go.RowKit

theorem clone_any (s : ByteArray) (w : World) (hlim : s.size ≤ 281474976710656) :
    Calls Try.prog 67 #[.string s] w fun e w' => e = .returned (.string s) ∧ Below w.heap.size w w' := by
  go_enter Try.func67, Try.ntmps67
  go_wp2_with (go_at_call 74; refine (Try.stringslite_Clone _ _ hlim).mono ?_; rintro e w' ⟨rfl, hb⟩)
  go_ret
  exact ⟨rfl, hb⟩

/-- the bytes of a number -/
theorem put_any (n : Int) (w : World) (h0 : 0 ≤ n) (h1 : n ≤ 18446744073709551615) :
    Calls Try.prog 79 #[.int .u64 n] w fun e w' => e = .returned (.string (V.put n.toNat)) ∧ Below w.heap.size w w' := by
  have h := callsIn_wide.1 (put_in Fence.wide 3 trivial trivial trivial rfl (Nat.le_refl _) n.toNat (by omega) w (by rw [svs_len]; exact V.puts_len _ (by omega)))
  rw [show ((n.toNat : Nat) : Int) = n by omega] at h
  exact h
theorem puttext_any (s : ByteArray) (w : World) (hs : s.size ≤ 281474976710656) :
    Calls Try.prog 78 #[.string s] w fun e w' => e = .returned (.string (V.put s.size ++ s)) ∧ Below w.heap.size w w' := by
  have hz : (V.put s.size).size ≤ 10 := by rw [V.put_size]; exact V.puts_len _ (by omega)
  go_enter Try.func78, Try.ntmps78
  go_wp2_with (go_at_call 79; refine (put_any _ _ (by omega) (by omega)).mono ?_; rintro e w' ⟨rfl, hb⟩)
  go_ret
  exact ⟨rfl, hb⟩

theorem rett {a b : ByteArray} {x y x' y' : Int} (h1 : a = b) (h2 : x = x') (h3 : y = y') :
    Ending.returned (.tuple #[.string a, .int .i64 x, .int .i64 y]) = .returned (.tuple #[.string b, .int .i64 x', .int .i64 y']) := by rw [h1, h2, h3]

/-- what has been kept so far is kept -/
theorem acc {W w w' : World} (h : Below W.heap.size W w) (k : Below w.heap.size w w') : Below W.heap.size W w' := h.trans (k.mono h.size)

end Go.Proofs.Ytflcggpeflagiaa
/-
  The contract of the document's own texts.
-/
namespace Go.Proofs.Ytflcggpeflagiaa
open Go.RowKit

end Go.Proofs.Ytflcggpeflagiaa
/-
  The contract of the document's own number: its bytes.
-/
namespace Go.Proofs.Ytflcggpeflagiaa
open Go.RowKit

theorem conv_one (W : World) (B : Nat) (x : Int) (h : W.cell? ⟨B, 0, none⟩ = some (.int .u8 x)) :
    (convert 119 9 (.slice (some ⟨B, 0, none⟩) 1 1)).run Try.prog W = .ok (.string (strOfNums [x])) W :=
  run_convert_bytes_arg (P := Try.prog) W 119 5 Try.underlying119 Try.underlying5 B 0 1 1 [x] rfl (fun i hi => by obtain rfl : i = 0 := (by omega); simpa using h) 9 Try.underlying9

theorem put_small (n : Int) (h : n < 128) : strOfNums [n] = V.put n.toNat := by
  unfold V.put V.bytesOf
  rw [V.puts_small (by omega)]
  rfl
theorem put_big (n : Int) (h : 128 ≤ n) : strOfNums [n % 128 + 128] ++ V.put (n / 128).toNat = V.put n.toNat := by
  have e1 : (n / 128).toNat = n.toNat / 128 := by omega
  have e2 : (n % 128 + 128).toNat = n.toNat % 128 + 128 := by omega
  unfold V.put V.bytesOf
  rw [V.puts_big (by omega : ¬ n.toNat < 128), e1]
  apply ByteArray.ext
  simp [ByteArray.data_append, strOfNums, e2]

theorem ret_str {a b : ByteArray} (h : a = b) : Ending.returned (.string a) = .returned (.string b) := by rw [h]

set_option maxRecDepth 100000 in
set_option maxHeartbeats 1000000 in
theorem refput_small (n : Int) (w : World) (h0 : 0 ≤ n) (h : n < 128) :
    Calls Try.prog 76 #[.int .u64 n] w fun e w' => e = .returned (.string (V.put n.toNat)) ∧ Below w.heap.size w w' := by
  have kc := conv_one
  go_enter Try.func76, Try.ntmps76
  go_wp2_with fail
  go_ret
  exact ⟨ret_str (put_small n h), (Below.refl _ _).alloc (Nat.le_refl _) _⟩

set_option maxRecDepth 100000 in
set_option maxHeartbeats 1000000 in
theorem refput_any (k : Nat) : ∀ (n : Int) (w : World), n ≤ k → 0 ≤ n → n ≤ 18446744073709551615 →
    Calls Try.prog 76 #[.int .u64 n] w fun e w' => e = .returned (.string (V.put n.toNat)) ∧ Below w.heap.size w w' := by
  induction k with
  | zero => intro n w hk h0 h1; exact refput_small n w h0 (by omega)
  | succ k ih =>
    intro n w hk h0 h1
    have kc := conv_one
    by_cases h : n < 128
    · exact refput_small n w h0 h
    · go_enter Try.func76, Try.ntmps76
      go_wp2_with fail
      have e1 : IntKind.u64.wrap (n.tdiv 128) = n / 128 := by rw [IntKind.wrap_u64, Int.tdiv_eq_ediv_of_nonneg h0]; omega
      have e2 : IntKind.u8.wrap (IntKind.u64.wrap (n.tmod 128 + 128)) = n % 128 + 128 := by rw [IntKind.wrap_u64, IntKind.wrap_u8, Int.tmod_eq_emod_of_nonneg h0]; omega
      have hz : (V.put (n / 128).toNat).size ≤ 10 := by rw [V.put_size]; exact V.puts_len _ (by omega)
      have hz1 : (strOfNums [n % 128 + 128]).size = 1 := strOfNums_size _
      have hno : (9223372036854775807 < 1 + (V.put (n / 128).toNat).size) = False := by simp; omega
      go_region_with (go_at_call 76; refine (ih (n / 128) _ (by omega) (by omega) (by omega)).mono ?_; rintro e w' ⟨rfl, hb⟩; first | (have hlt : w.heap.size < w'.heap.size := (by have := hb.size; simp at this; omega); clear hlt; have hcell : w'.cell? ⟨w.heap.size, 0, none⟩ = some (.int .u8 (n % 128 + 128)) := (hb.cell (p := ⟨w.heap.size, 0, none⟩) (by simp)).trans (by simp)) | skip)
      all_goals go_wp2_with fail
      all_goals go_ret
      · exact ⟨ret_str (put_big n h), (((Below.refl _ w).alloc (Nat.le_refl _) _).drew).trans (hb.mono (by simp))⟩
      · exact ⟨ret_str (put_big n h), (((Below.refl _ w).alloc (Nat.le_refl _) _).drew).trans (hb.mono (by simp))⟩
      · exact ⟨ret_str (put_big n h), (((Below.refl _ w).drew).trans hb).alloc (by have := hb.size; simpa using this) _⟩
end Go.Proofs.Ytflcggpeflagiaa
/-
  Contracts: a record's bytes.
-/
namespace Go.Proofs.Ytflcggpeflagiaa.L3
open Go.RowKit

theorem txtput_is (t s : ByteArray) (w : World) (ht : t.size ≤ 281474976710656) (h : Hid (txt t = s)) :
    Calls Try.prog 78 #[.string t] w fun e w' => e = .returned (.string s) ∧ Below w.heap.size w w' := by
  have k := puttext_any t w ht
  rw [show V.put t.size ++ t = s from h.out] at k
  exact k
theorem reftxt_is (s p : ByteArray) (w : World) (hs : s.size ≤ 281474976710656) (h : Hid (txt s = p)) :
    Calls Try.prog 73 #[.string s] w fun e w' => e = .returned (.string p) ∧ Below w.heap.size w w' := by
  rw [← h.out]
  unfold txt
  have hz : (V.put s.size).size ≤ 10 := by rw [V.put_size]; exact V.puts_len _ (by omega)
  go_enter Try.func73, Try.ntmps73
  go_wp2_with (go_at_call 76; refine (refput_any s.size _ _ (by omega) (by omega) (by omega)).mono ?_; rintro e w' ⟨rfl, hb⟩)
  go_ret
  exact ⟨rfl, hb⟩

theorem box_cells {W w1 : World} (hb : Below W.heap.size W w1) : (∀ b o, b < W.heap.size → w1.cell? ⟨b, o, none⟩ = W.cell? ⟨b, o, none⟩) ∧ (∀ b o, b < W.heap.size → w1.frozen? ⟨b, o, none⟩ = W.frozen? ⟨b, o, none⟩) :=
  ⟨fun b o h => hb.cell (p := ⟨b, o, none⟩) h, fun b o h => hb.frozen (p := ⟨b, o, none⟩) h⟩

set_option maxRecDepth 100000 in
set_option maxHeartbeats 1000000 in
theorem put_three (k v tk : ByteArray) (w : World) (hk1 : k.size ≤ 64) (hv1 : v.size ≤ 512) (htk : tk.size ≤ 100) (TK : Hid (txt k = tk)) (HC : Hid (chk true k true v = 0)) :
    Calls Try.prog 75 #[.agg #[.bool true, .string k, .bool true, .string v]] w fun e w' => e = .returned (.tuple #[.string (⟨#[3]⟩ ++ tk), .int .i64 0]) ∧ Below w.heap.size w w' := by
  have kc := conv_one
  have e3 : strOfNums [3] = ⟨#[3]⟩ := rfl
  have hB := Below.refl w.heap.size w
  go_enter Try.func75, Try.ntmps75
  go_wp2_with (first
    | (go_at_call 24; refine (check_any _ _ _ _ _ (by unfold maxLen; omega) (by unfold maxLen; omega)).mono ?_; rw [HC.out]; rintro e w1 ⟨rfl, hb1⟩; obtain ⟨hc1, hf1⟩ := box_cells hb1; have hz1 : w.heap.size < w1.heap.size := (by have := hb1.size; simp at this; omega); replace hB := ((hB.alloc (Nat.le_refl _) _).trans (hb1.mono (by simp))); clear hb1)
    | (go_at_call 77; refine (first_any _ _ _ _ _).mono ?_; rw [show first true true = 3 from rfl]; rintro e w2 ⟨rfl, hb2⟩; obtain ⟨hc2, hf2⟩ := box_cells hb2; have hz2 : w.heap.size < w2.heap.size := (by have := hb2.size; omega); replace hB := acc hB hb2; clear hb2)
    | (go_at_call 78; (with_reducible refine (txtput_is _ _ _ (by omega) TK).mono ?_); rintro e w3 ⟨rfl, hb3⟩; obtain ⟨hc3, hf3⟩ := box_cells hb3; have hz3 : w.heap.size < w3.heap.size := (by have := hb3.size; simp at this; omega); replace hB := (hB.alloc (by omega) _).trans (hb3.mono (by simp; omega)); clear hb3))
  go_ret2
  exact ⟨rfl, hB⟩
set_option maxRecDepth 100000 in
set_option maxHeartbeats 1000000 in
theorem put_one (k v tk tv : ByteArray) (w : World) (hk1 : k.size ≤ 64) (hv1 : v.size ≤ 512) (htk : tk.size ≤ 100) (htv : tv.size ≤ 600) (TK : Hid (txt k = tk)) (TV : Hid (txt v = tv)) (HC : Hid (chk true k false v = 0)) :
    Calls Try.prog 75 #[.agg #[.bool true, .string k, .bool false, .string v]] w fun e w' => e = .returned (.tuple #[.string (⟨#[1]⟩ ++ tk ++ tv), .int .i64 0]) ∧ Below w.heap.size w w' := by
  have kc := conv_one
  have e3 : strOfNums [1] = ⟨#[1]⟩ := rfl
  have hB := Below.refl w.heap.size w
  go_enter Try.func75, Try.ntmps75
  go_wp2_with (first
    | (go_at_call 24; refine (check_any _ _ _ _ _ (by unfold maxLen; omega) (by unfold maxLen; omega)).mono ?_; rw [HC.out]; rintro e w1 ⟨rfl, hb1⟩; obtain ⟨hc1, hf1⟩ := box_cells hb1; have hz1 : w.heap.size < w1.heap.size := (by have := hb1.size; simp at this; omega); replace hB := ((hB.alloc (Nat.le_refl _) _).trans (hb1.mono (by simp))); clear hb1)
    | (go_at_call 77; refine (first_any _ _ _ _ _).mono ?_; rw [show first true false = 1 from rfl]; rintro e w2 ⟨rfl, hb2⟩; obtain ⟨hc2, hf2⟩ := box_cells hb2; have hz2 : w.heap.size < w2.heap.size := (by have := hb2.size; omega); replace hB := acc hB hb2; clear hb2)
    | (go_at_call 78; (with_reducible refine (txtput_is _ _ _ (by omega) TK).mono ?_); rintro e w3 ⟨rfl, hb3⟩; obtain ⟨hc3, hf3⟩ := box_cells hb3; have hz3 : w.heap.size < w3.heap.size := (by have := hb3.size; simp at this; omega); replace hB := (hB.alloc (by omega) _).trans (hb3.mono (by simp; omega)); clear hb3)
    | (go_at_call 78; (with_reducible refine (txtput_is _ _ _ (by omega) TV).mono ?_); rintro e w4 ⟨rfl, hb4⟩; replace hB := acc hB hb4; clear hb4))
  go_ret2
  exact ⟨rfl, hB⟩
set_option maxRecDepth 100000 in
set_option maxHeartbeats 1000000 in
theorem put_zero (k v tv : ByteArray) (w : World) (hk1 : k.size ≤ 64) (hv1 : v.size ≤ 512) (htv : tv.size ≤ 600) (TV : Hid (txt v = tv)) (HC : Hid (chk false k false v = 0)) :
    Calls Try.prog 75 #[.agg #[.bool false, .string k, .bool false, .string v]] w fun e w' => e = .returned (.tuple #[.string (⟨#[0]⟩ ++ tv), .int .i64 0]) ∧ Below w.heap.size w w' := by
  have kc := conv_one
  have e3 : strOfNums [0] = ⟨#[0]⟩ := rfl
  have hB := Below.refl w.heap.size w
  go_enter Try.func75, Try.ntmps75
  go_wp2_with (first
    | (go_at_call 24; refine (check_any _ _ _ _ _ (by unfold maxLen; omega) (by unfold maxLen; omega)).mono ?_; rw [HC.out]; rintro e w1 ⟨rfl, hb1⟩; obtain ⟨hc1, hf1⟩ := box_cells hb1; have hz1 : w.heap.size < w1.heap.size := (by have := hb1.size; simp at this; omega); replace hB := ((hB.alloc (Nat.le_refl _) _).trans (hb1.mono (by simp))); clear hb1)
    | (go_at_call 77; refine (first_any _ _ _ _ _).mono ?_; rw [show first false false = 0 from rfl]; rintro e w2 ⟨rfl, hb2⟩; obtain ⟨hc2, hf2⟩ := box_cells hb2; have hz2 : w.heap.size < w2.heap.size := (by have := hb2.size; omega); replace hB := acc hB hb2; clear hb2)
    | (go_at_call 78; (with_reducible refine (txtput_is _ _ _ (by omega) TV).mono ?_); rintro e w3 ⟨rfl, hb3⟩; obtain ⟨hc3, hf3⟩ := box_cells hb3; have hz3 : w.heap.size < w3.heap.size := (by have := hb3.size; simp at this; omega); replace hB := (hB.alloc (by omega) _).trans (hb3.mono (by simp; omega)); clear hb3))
  go_ret2
  exact ⟨rfl, hB⟩

set_option maxHeartbeats 1000000 in
theorem put_err (hk : Bool) (k : ByteArray) (tb : Bool) (v : ByteArray) (x : Int) (w : World) (h1 : k.size ≤ maxLen) (h2 : v.size ≤ maxLen) (HX : (x != 0) = true) (HC : Hid (chk hk k tb v = x)) :
    Calls Try.prog 75 #[.agg #[.bool hk, .string k, .bool tb, .string v]] w fun e w' => e = .returned (.tuple #[.string ⟨#[]⟩, .int .i64 x]) ∧ Below w.heap.size w w' := by
  have H1 := Lib.hid h1
  have H2 := Lib.hid h2
  clear h1 h2
  go_enter Try.func75, Try.ntmps75
  go_wp2_with (go_at_call 24; refine (check_any _ _ _ _ _ H1.out H2.out).mono ?_; rw [HC.out]; rintro e w1 ⟨rfl, hb1⟩)
  go_ret2
  exact ⟨rfl, (one_box _).trans (hb1.mono (by simp))⟩
end Go.Proofs.Ytflcggpeflagiaa.L3
