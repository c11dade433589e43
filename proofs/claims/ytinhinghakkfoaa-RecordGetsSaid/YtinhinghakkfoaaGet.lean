/-
  The contract of the program's own reader of numbers.
-/
import Derived.Test.YtinhinghakkfoaaSmall
import Derived.LoopTactic
import Derived.Lib.Hide
import Derived.Outline
namespace Go.Proofs.Ytinhinghakkfoaa
open Go.RowKit

theorem ret_got {x y z : Int} {a : Int} {r : Nat × Nat × Nat} (h1 : x = r.1) (h2 : y = V.behind a r) (h3 : z = r.2.2) :
    Ending.returned (.tuple #[.int .u64 x, .int .i64 y, .int .i64 z]) = .returned (.tuple #[.int .u64 r.1, .int .i64 (V.behind a r), .int .i64 r.2.2]) := by rw [h1, h2, h3]

set_option maxRecDepth 100000 in
set_option maxHeartbeats 1000000 in
theorem get_in (s : ByteArray) (a : Nat) (w : World) (hs : s.size ≤ maxLen) (ha : a ≤ s.size) (r : Nat × Nat × Nat) (hr : Hid (V.got ((V.nats s).drop a) 0 0 = r)) :
    Calls Try.prog 42 #[.string s, .int .i64 a] w fun e w' => e = .returned (.tuple #[.int .u64 r.1, .int .i64 (V.behind a r), .int .i64 r.2.2]) ∧ w = w' := by
  unfold maxLen at hs
  have ha0 : decide ((a : Int) < 0) = false := by simp
  have ha1 : decide (s.size < a) = false := by simp; omega
  go_enter Try.func42, Try.ntmps42
  go_wp2_with fail
  go_loop [7, 8] (fun n i => ∃ k acc : Nat, k ≤ 9 ∧ a + k ≤ s.size ∧ acc < 128 ^ k ∧ i = .int .i64 k ∧ n = .int .u64 acc ∧ Hid (V.got ((V.nats s).drop (a + k)) k acc = r)) (fun _ i => 10 - (intOf i).toNat)
  case atStart => exact ⟨0, 0, by omega, by omega, by simp, rfl, rfl, by simpa using hr⟩
  case round =>
    obtain ⟨k, acc, hk, hak, hacc, rfl, rfl, hg⟩ := hrel
    by_cases hend : a + k = s.size
    · have hend' : ((a : Int) + (k : Int) == (s.size : Int)) = true := by simp; omega
      have HE := Lib.hid hend
      clear hend
      go_wp2_with fail
      go_ret3
      have e := V.got_end hg.out HE.out
      exact ⟨ret_got (by rw [e]; rfl) (by rw [e]; rfl) (by rw [e]; rfl), rfl⟩
    · have hlt : a + k < s.size := by omega
      have hend' : ((a : Int) + (k : Int) == (s.size : Int)) = false := by simp; omega
      clear hend
      cases hc : tl (k : Int) (s[a + k].toNat : Int) with
      | true =>
        have HC := Lib.hid hc
        clear hc
        go_wp2_with (go_at_call 45; refine (tooLong_is _ _ true _ HC.out).mono ?_; rintro e w' ⟨rfl, rfl⟩)
        go_ret3
        have e := V.got_long hg.out hlt (tl_nat HC.out)
        exact ⟨ret_got (by rw [e]; rfl) (by rw [e]; rfl) (by rw [e]; rfl), rfl⟩
      | false =>
        have HC := Lib.hid hc
        clear hc
        by_cases hb : s[a + k].toNat < 128
        · have hb' : decide ((s[a + k].toNat : Int) < 128) = true := by simp; omega
          have HB := Lib.hid hb
          clear hb
          go_wp2_with (go_at_call 45; refine (tooLong_is _ _ false _ HC.out).mono ?_; rintro e w' ⟨rfl, rfl⟩)
          go_ret3
          have hc' := tl_not HC.out
          have e := V.got_last hg.out hlt hc' HB.out
          have hb2 : s[a + k].toNat < 256 := s[a + k].toNat_lt
          have hj := V.join_spelt acc s[a + k].toNat k hk hacc hb2 (fun h => by omega)
          have hm : s[a + k].toNat % 128 = s[a + k].toNat := Nat.mod_eq_of_lt HB.out
          rw [hm] at hj
          exact ⟨ret_got (by rw [e]; exact hj) (by rw [e]; simp [V.behind]; omega) (by rw [e]; rfl), rfl⟩
        · have hb' : decide ((s[a + k].toNat : Int) < 128) = false := by simp; omega
          have HB := Lib.hid hb
          clear hb
          go_wp2_with (go_at_call 45; refine (tooLong_is _ _ false _ HC.out).mono ?_; rintro e w' ⟨rfl, rfl⟩)
          have hc' := tl_not HC.out
          have hb2 : s[a + k].toNat < 256 := s[a + k].toNat_lt
          have hj := V.join_spelt acc s[a + k].toNat k hk hacc hb2 (fun h => by omega)
          have hk9 : k < 9 := by have := HB.out; omega
          go_round
          case rel => exact ⟨k + 1, acc + s[a + k].toNat % 128 * 128 ^ k, by omega, by omega, V.acc_next _ _ _ hacc, by go_num, by rw [hj], V.got_next hg.out hlt hc' HB.out⟩
          case measure => simp [intOf]; omega
theorem ret3 {x y z x' y' z' : Int} (h1 : x = x') (h2 : y = y') (h3 : z = z') :
    Ending.returned (.tuple #[.int .u64 x, .int .i64 y, .int .i64 z]) = .returned (.tuple #[.int .u64 x', .int .i64 y', .int .i64 z']) := by rw [h1, h2, h3]

set_option maxRecDepth 100000 in
set_option maxHeartbeats 1000000 in
theorem get_any (s : ByteArray) (at_ : Int) (w : World) (hs : s.size ≤ maxLen) :
    Calls Try.prog 42 #[.string s, .int .i64 at_] w fun e w' => e = .returned (.tuple #[.int .u64 (V.get s at_).1, .int .i64 (V.get s at_).2.1, .int .i64 (V.get s at_).2.2]) ∧ w = w' := by
  by_cases h0 : at_ < 0
  · have e : V.get s at_ = (0, 0, 1) := if_pos (Or.inl h0)
    rw [e]
    clear e
    go_enter Try.func42, Try.ntmps42
    go_wp2_with fail
    go_ret3
    exact ⟨rfl, rfl⟩
  · by_cases h1 : (s.size : Int) < at_
    · have e : V.get s at_ = (0, 0, 1) := if_pos (Or.inr h1)
      rw [e]
      clear e
      go_enter Try.func42, Try.ntmps42
      go_wp2_with fail
      go_ret3
      exact ⟨rfl, rfl⟩
    · have e : V.get s at_ = ((V.got ((V.nats s).drop at_.toNat) 0 0).1, V.behind at_ (V.got ((V.nats s).drop at_.toNat) 0 0), ((V.got ((V.nats s).drop at_.toNat) 0 0).2.2 : Int)) := if_neg (by omega)
      rw [e]
      have h := get_in s at_.toNat w hs (by omega) _ (Lib.hid rfl)
      rw [show ((at_.toNat : Nat) : Int) = at_ by omega] at h
      exact h
end Go.Proofs.Ytinhinghakkfoaa
