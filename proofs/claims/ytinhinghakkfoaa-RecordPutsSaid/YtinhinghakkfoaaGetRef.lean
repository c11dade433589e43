/-
  The contract of the document's own reader of numbers.
-/
import Derived.Test.YtinhinghakkfoaaGet
namespace Go.Proofs.Ytinhinghakkfoaa
open Go.RowKit

theorem acc_zero {acc b k : Nat} (h1 : k ≤ 0) (h2 : b ≤ 0) (h : acc < 128 ^ k) : IntKind.u64.wrap (acc : Int) = ((acc + b * 128 ^ k : Nat) : Int) := by
  obtain rfl : k = 0 := by omega
  obtain rfl : b = 0 := by omega
  simp at h
  subst h
  rfl

set_option maxRecDepth 100000 in
set_option maxHeartbeats 2000000 in
theorem refget_in (s : ByteArray) (a : Nat) (w : World) (hs : s.size ≤ maxLen) (ha : a ≤ s.size) (r : Nat × Nat × Nat) (hr : Hid (V.got ((V.nats s).drop a) 0 0 = r)) :
    Calls Try.prog 39 #[.string s, .int .i64 a] w fun e w' => e = .returned (.tuple #[.int .u64 r.1, .int .i64 (V.behind a r), .int .i64 r.2.2]) ∧ w = w' := by
  unfold maxLen at hs
  have ha0 : decide ((a : Int) < 0) = false := by simp
  have ha1 : decide (s.size < a) = false := by simp; omega
  go_enter Try.func39, Try.ntmps39
  go_wp2_with fail
  go_loop [7, 8, 9] (fun n p i => ∃ k acc P : Nat, k ≤ 9 ∧ a + k ≤ s.size ∧ acc < 128 ^ k ∧ i = .int .i64 k ∧ n = .int .u64 acc ∧ p = .int .u64 P ∧ Hid (P = 128 ^ k) ∧ Hid (V.got ((V.nats s).drop (a + k)) k acc = r)) (fun _ _ i => 10 - (intOf i).toNat)
  case atStart => exact ⟨0, 0, 1, by omega, by omega, by simp, rfl, rfl, rfl, by exact (rfl : 1 = 128 ^ 0), by simpa using hr⟩
  case round =>
    obtain ⟨k, acc, P, hk, hak, hacc, rfl, rfl, rfl, hP, hg⟩ := hrel
    by_cases hend : a + k = s.size
    · have hend' : decide ((s.size : Int) ≤ (a : Int) + (k : Int)) = true := by simp; omega
      have HE := Lib.hid hend
      clear hend
      go_wp2_with fail
      go_ret3
      have e := V.got_end hg.out HE.out
      exact ⟨ret_got (by rw [e]; rfl) (by rw [e]; rfl) (by rw [e]; rfl), rfl⟩
    · have hlt : a + k < s.size := by omega
      clear hend
      obtain ⟨b, hbv⟩ : ∃ b, s[a + k].toNat = b := ⟨_, rfl⟩
      have hb2 : b < 256 := by rw [← hbv]; exact s[a + k].toNat_lt
      have HBV := Lib.hid hbv
      have hend' : decide ((s.size : Int) ≤ (a : Int) + (k : Int)) = false := by simp; omega
      by_cases hc : (k = 9 ∧ 1 < b) ∨ (0 < k ∧ b = 0)
      · have HC := Lib.hid hc
        have fin : r = (0, 0, 11) := V.got_long hg.out hlt (by rw [HBV.out]; exact HC.out)
        have FIN := Lib.hid fin
        clear fin
        rcases hc with ⟨h9, h1⟩ | ⟨hk0, hb0⟩
        · have h9' : 9 ≤ k := by omega
          clear h9
          go_wp2_with fail
          go_ret3
          exact ⟨ret_got (by rw [FIN.out]; rfl) (by rw [FIN.out]; rfl) (by rw [FIN.out]; rfl), rfl⟩
        · have hb0' : b ≤ 0 := by omega
          clear hb0
          by_cases h9 : 9 ≤ k
          · go_wp2_with fail
            go_ret3
            exact ⟨ret_got (by rw [FIN.out]; rfl) (by rw [FIN.out]; rfl) (by rw [FIN.out]; rfl), rfl⟩
          · go_wp2_with fail
            go_ret3
            exact ⟨ret_got (by rw [FIN.out]; rfl) (by rw [FIN.out]; rfl) (by rw [FIN.out]; rfl), rfl⟩
      · have HC := Lib.hid hc
        have hs0 := V.sum_spelt acc b k P hk hacc (fun h => by omega) hP.out
        have HS := Lib.hid hs0
        clear hs0
        by_cases hb : b < 128
        · have fin := V.got_last hg.out hlt (by rw [HBV.out]; exact HC.out) (by rw [HBV.out]; exact hb)
          rw [HBV.out] at fin
          have hm : b % 128 = b := Nat.mod_eq_of_lt hb
          have hs1 := HS.out
          rw [hm] at hs1
          have HS1 := Lib.hid hs1
          have FIN := Lib.hid fin
          clear fin hm hs1
          have hways : (9 ≤ k ∧ 1 ≤ b ∧ b ≤ 1) ∨ (k < 9 ∧ 1 ≤ b) ∨ (k ≤ 0 ∧ b ≤ 0) := by omega
          clear hc
          rcases hways with ⟨q1, q2, q3⟩ | ⟨q1, q2⟩ | ⟨q1, q2⟩
          · go_wp2_with fail
            go_ret3
            exact ⟨ret_got (by rw [FIN.out]; exact HS1.out) (by rw [FIN.out]; simp [V.behind]; omega) (by rw [FIN.out]; rfl), rfl⟩
          · go_wp2_with fail
            go_ret3
            exact ⟨ret_got (by rw [FIN.out]; exact HS1.out) (by rw [FIN.out]; simp [V.behind]; omega) (by rw [FIN.out]; rfl), rfl⟩
          · go_wp2_with fail
            go_ret3
            exact ⟨ret_got (by rw [FIN.out]; exact acc_zero q1 q2 hacc) (by rw [FIN.out]; simp [V.behind]; omega) (by rw [FIN.out]; rfl), rfl⟩
        · have nxt := V.got_next hg.out hlt (by rw [HBV.out]; exact HC.out) (by rw [HBV.out]; exact hb)
          rw [HBV.out] at nxt
          have NXT := Lib.hid nxt
          have q1 : k < 9 := by omega
          have q2 : 128 ≤ b := by omega
          have hp := V.pow_next k P q1 hP.out
          have HPN := Lib.hid hp
          clear nxt hc hb hp
          go_wp2_with fail
          go_round
          case rel => exact ⟨k + 1, acc + b % 128 * 128 ^ k, 128 ^ (k + 1), by omega, by omega, V.acc_next _ _ _ hacc, by go_num, by rw [HS.out], by rw [HPN.out], Lib.hid rfl, NXT⟩
          case measure => simp [intOf]; omega
set_option maxRecDepth 100000 in
set_option maxHeartbeats 1000000 in
theorem refget_any (s : ByteArray) (at_ : Int) (w : World) (hs : s.size ≤ maxLen) :
    Calls Try.prog 39 #[.string s, .int .i64 at_] w fun e w' => e = .returned (.tuple #[.int .u64 (V.get s at_).1, .int .i64 (V.get s at_).2.1, .int .i64 (V.get s at_).2.2]) ∧ w = w' := by
  by_cases h0 : at_ < 0
  · have e : V.get s at_ = (0, 0, 1) := if_pos (Or.inl h0)
    rw [e]
    clear e
    go_enter Try.func39, Try.ntmps39
    go_wp2_with fail
    go_ret3
    exact ⟨rfl, rfl⟩
  · by_cases h1 : (s.size : Int) < at_
    · have e : V.get s at_ = (0, 0, 1) := if_pos (Or.inr h1)
      rw [e]
      clear e
      go_enter Try.func39, Try.ntmps39
      go_wp2_with fail
      go_ret3
      exact ⟨rfl, rfl⟩
    · have e : V.get s at_ = ((V.got ((V.nats s).drop at_.toNat) 0 0).1, V.behind at_ (V.got ((V.nats s).drop at_.toNat) 0 0), ((V.got ((V.nats s).drop at_.toNat) 0 0).2.2 : Int)) := if_neg (by omega)
      rw [e]
      have h := refget_in s at_.toNat w hs (by omega) _ (Lib.hid rfl)
      rw [show ((at_.toNat : Nat) : Int) = at_ by omega] at h
      exact h
end Go.Proofs.Ytinhinghakkfoaa
