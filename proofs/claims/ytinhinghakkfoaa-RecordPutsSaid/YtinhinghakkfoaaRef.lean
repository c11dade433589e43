/-
  The contract of the document's own number: its bytes.
-/
import Derived.Test.YtinhinghakkfoaaPut
import Derived.Deep.RegionWith
namespace Go.Proofs.Ytinhinghakkfoaa
open Go.RowKit

theorem conv_one (W : World) (B : Nat) (x : Int) (h : W.cell? ⟨B, 0, none⟩ = some (.int .u8 x)) :
    (convert 48 9 (.slice (some ⟨B, 0, none⟩) 1 1)).run Try.prog W = .ok (.string (strOfNums [x])) W :=
  run_convert_bytes_arg (P := Try.prog) W 48 5 Try.underlying48 Try.underlying5 B 0 1 1 [x] rfl (fun i hi => by obtain rfl : i = 0 := (by omega); simpa using h) 9 Try.underlying9

theorem put_small (n : Int) (h : n < 128) : strOfNums [n] = V.put n.toNat := by
  unfold V.put V.bytesOf
  rw [V.puts_small (by omega)]
  rfl
theorem put_big (n : Int) (h : 128 ≤ n) : strOfNums [n % 128 + 128] ++ V.put (n / 128).toNat = V.put n.toNat := by
  have e1 : (n / 128).toNat = n.toNat / 128 := by omega
  have e2 : (n % 128 + 128).toNat = n.toNat % 128 + 128 := by omega
  unfold V.put V.bytesOf
  rw [V.puts_big (by omega : ¬ n.toNat < 128), e1]
  apply ByteArray.ext
  simp [ByteArray.data_append, strOfNums, e2]

theorem ret_str {a b : ByteArray} (h : a = b) : Ending.returned (.string a) = .returned (.string b) := by rw [h]

set_option maxRecDepth 100000 in
set_option maxHeartbeats 1000000 in
theorem refput_small (n : Int) (w : World) (h0 : 0 ≤ n) (h : n < 128) :
    Calls Try.prog 30 #[.int .u64 n] w fun e w' => e = .returned (.string (V.put n.toNat)) ∧ Below w.heap.size w w' := by
  have kc := conv_one
  go_enter Try.func30, Try.ntmps30
  go_wp2_with fail
  go_ret
  exact ⟨ret_str (put_small n h), (Below.refl _ _).alloc (Nat.le_refl _) _⟩

set_option maxRecDepth 100000 in
set_option maxHeartbeats 1000000 in
theorem refput_any (k : Nat) : ∀ (n : Int) (w : World), n ≤ k → 0 ≤ n → n ≤ 18446744073709551615 →
    Calls Try.prog 30 #[.int .u64 n] w fun e w' => e = .returned (.string (V.put n.toNat)) ∧ Below w.heap.size w w' := by
  induction k with
  | zero => intro n w hk h0 h1; exact refput_small n w h0 (by omega)
  | succ k ih =>
    intro n w hk h0 h1
    have kc := conv_one
    by_cases h : n < 128
    · exact refput_small n w h0 h
    · go_enter Try.func30, Try.ntmps30
      go_wp2_with fail
      have e1 : IntKind.u64.wrap (n.tdiv 128) = n / 128 := by rw [IntKind.wrap_u64, Int.tdiv_eq_ediv_of_nonneg h0]; omega
      have e2 : IntKind.u8.wrap (IntKind.u64.wrap (n.tmod 128 + 128)) = n % 128 + 128 := by rw [IntKind.wrap_u64, IntKind.wrap_u8, Int.tmod_eq_emod_of_nonneg h0]; omega
      have hz : (V.put (n / 128).toNat).size ≤ 10 := by rw [V.put_size]; exact V.puts_len _ (by omega)
      have hz1 : (strOfNums [n % 128 + 128]).size = 1 := strOfNums_size _
      have hno : (9223372036854775807 < 1 + (V.put (n / 128).toNat).size) = False := by simp; omega
      go_region_with (go_at_call 30; refine (ih (n / 128) _ (by omega) (by omega) (by omega)).mono ?_; rintro e w' ⟨rfl, hb⟩; first | (have hlt : w.heap.size < w'.heap.size := (by have := hb.size; simp at this; omega); clear hlt; have hcell : w'.cell? ⟨w.heap.size, 0, none⟩ = some (.int .u8 (n % 128 + 128)) := (hb.cell (p := ⟨w.heap.size, 0, none⟩) (by simp)).trans (by simp)) | skip)
      all_goals go_wp2_with fail
      all_goals go_ret
      · exact ⟨ret_str (put_big n h), (((Below.refl _ w).alloc (Nat.le_refl _) _).drew).trans (hb.mono (by simp))⟩
      · exact ⟨ret_str (put_big n h), (((Below.refl _ w).alloc (Nat.le_refl _) _).drew).trans (hb.mono (by simp))⟩
      · exact ⟨ret_str (put_big n h), (((Below.refl _ w).drew).trans hb).alloc (by have := hb.size; simpa using this) _⟩
end Go.Proofs.Ytinhinghakkfoaa
