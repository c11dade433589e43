/-
  The contracts of texts: put, and got.
-/
import Derived.Test.YtinhinghakkfoaaPut
import Derived.Test.YtinhinghakkfoaaGetRef
import Derived.Test.YtinhinghakkfoaaShelf
import Derived.Laws.DeepStrings4
namespace Go.Proofs.Ytinhinghakkfoaa
open Go.RowKit

theorem clone_any (s : ByteArray) (w : World) (hlim : s.size ≤ 281474976710656) :
    Calls Try.prog 43 #[.string s] w fun e w' => e = .returned (.string s) ∧ Below w.heap.size w w' := by
  go_enter Try.func43, Try.ntmps43
  go_wp2_with (go_at_call 46; refine (Try.stringslite_Clone _ _ hlim).mono ?_; rintro e w' ⟨rfl, hb⟩)
  go_ret
  exact ⟨rfl, hb⟩

/-- the bytes of a number -/
theorem put_any (n : Int) (w : World) (h0 : 0 ≤ n) (h1 : n ≤ 18446744073709551615) :
    Calls Try.prog 29 #[.int .u64 n] w fun e w' => e = .returned (.string (V.put n.toNat)) ∧ Below w.heap.size w w' := by
  have h := callsIn_wide.1 (put_in Fence.wide 3 trivial trivial trivial rfl (Nat.le_refl _) n.toNat (by omega) w (by rw [svs_len]; exact V.puts_len _ (by omega)))
  rw [show ((n.toNat : Nat) : Int) = n by omega] at h
  exact h
theorem puttext_any (s : ByteArray) (w : World) (hs : s.size ≤ 281474976710656) :
    Calls Try.prog 27 #[.string s] w fun e w' => e = .returned (.string (V.put s.size ++ s)) ∧ Below w.heap.size w w' := by
  have hz : (V.put s.size).size ≤ 10 := by rw [V.put_size]; exact V.puts_len _ (by omega)
  go_enter Try.func27, Try.ntmps27
  go_wp2_with (go_at_call 29; refine (put_any _ _ (by omega) (by omega)).mono ?_; rintro e w' ⟨rfl, hb⟩)
  go_ret
  exact ⟨rfl, hb⟩

theorem get_is (s : ByteArray) (at_ : Int) (w : World) (hs : s.size ≤ maxLen) (n : Nat) (to e : Int) (h : Hid (V.get s at_ = (n, to, e))) :
    Calls Try.prog 42 #[.string s, .int .i64 at_] w fun e1 w' => e1 = .returned (.tuple #[.int .u64 n, .int .i64 to, .int .i64 e]) ∧ w = w' := by
  have := get_any s at_ w hs
  rw [h.out] at this
  exact this
theorem refget_is (s : ByteArray) (at_ : Int) (w : World) (hs : s.size ≤ maxLen) (n : Nat) (to e : Int) (h : Hid (V.get s at_ = (n, to, e))) :
    Calls Try.prog 39 #[.string s, .int .i64 at_] w fun e1 w' => e1 = .returned (.tuple #[.int .u64 n, .int .i64 to, .int .i64 e]) ∧ w = w' := by
  have := refget_any s at_ w hs
  rw [h.out] at this
  exact this

theorem rett {a b : ByteArray} {x y x' y' : Int} (h1 : a = b) (h2 : x = x') (h3 : y = y') :
    Ending.returned (.tuple #[.string a, .int .i64 x, .int .i64 y]) = .returned (.tuple #[.string b, .int .i64 x', .int .i64 y']) := by rw [h1, h2, h3]

set_option maxRecDepth 100000 in
set_option maxHeartbeats 1000000 in
theorem gettext_any (s : ByteArray) (at_ most : Int) (w : World) (hs : s.size ≤ 281474976710656) (hmost : most ≤ 9223372036854775807) :
    Calls Try.prog 36 #[.string s, .int .i64 at_, .int .i64 most] w fun e w' => e = .returned (.tuple #[.string (V.text s at_ most).1, .int .i64 (V.text s at_ most).2.1, .int .i64 (V.text s at_ most).2.2]) ∧ Below w.heap.size w w' := by
  have hm : s.size ≤ maxLen := by unfold maxLen; omega
  obtain ⟨n, to, e, hg0⟩ : ∃ n to e, V.get s at_ = (n, to, e) := ⟨_, _, _, rfl⟩
  obtain ⟨b1, b2, b3⟩ := V.get_some hg0
  have HG := Lib.hid hg0
  clear hg0
  by_cases he : e = 0
  · subst he
    have HM := Lib.hid hm
    clear hm
    by_cases hb : most < 0 ∨ most < (n : Int)
    · have ht := V.text_big (most := most) HG.out rfl hb
      rw [ht]
      clear ht
      have hb' : most < 0 ∨ (0 ≤ most ∧ most < (n : Int)) := by omega
      clear hb
      rcases hb' with hb | ⟨hb0, hb⟩
      · go_enter Try.func36, Try.ntmps36
        go_wp2_with (go_at_call 42; refine (get_is _ _ _ HM.out _ _ _ HG).mono ?_; rintro e w' ⟨rfl, rfl⟩)
        go_ret3
        exact ⟨rfl, Below.refl _ _⟩
      · go_enter Try.func36, Try.ntmps36
        go_wp2_with (go_at_call 42; refine (get_is _ _ _ HM.out _ _ _ HG).mono ?_; rintro e w' ⟨rfl, rfl⟩)
        go_ret3
        exact ⟨rfl, Below.refl _ _⟩
    · have hb0 : 0 ≤ most := by omega
      have hb1 : (n : Int) ≤ most := by omega
      by_cases hsh : (s.size : Int) - to < n
      · have ht := V.text_short HG.out rfl hb hsh
        rw [ht]
        clear ht hb
        go_enter Try.func36, Try.ntmps36
        go_wp2_with (go_at_call 42; refine (get_is _ _ _ HM.out _ _ _ HG).mono ?_; rintro e w' ⟨rfl, rfl⟩)
        go_ret3
        exact ⟨rfl, Below.refl _ _⟩
      · have ht := V.text_ok HG.out rfl hb hsh
        rw [ht]
        clear ht hb
        have hsh' : (n : Int) ≤ s.size - to := by omega
        clear hsh
        go_enter Try.func36, Try.ntmps36
        go_wp2_with (first | (go_at_call 42; refine (get_is _ _ _ HM.out _ _ _ HG).mono ?_; rintro e w' ⟨rfl, rfl⟩) | (go_at_call 43; refine (clone_any _ _ (by rw [ByteArray.size_extract]; omega)).mono ?_; rintro e w' ⟨rfl, hbel⟩))
        go_ret3
        exact ⟨rfl, hbel⟩
  · have ht := V.text_err (most := most) HG.out he
    rw [ht]
    clear ht
    have he' : (e != 0) = true := by simpa using he
    have HM := Lib.hid hm
    clear he hm
    go_enter Try.func36, Try.ntmps36
    go_wp2_with (go_at_call 42; refine (get_is _ _ _ HM.out _ _ _ HG).mono ?_; rintro e w' ⟨rfl, rfl⟩)
    go_ret3
    exact ⟨rfl, Below.refl _ _⟩
/-- what has been kept so far is kept -/
theorem acc {W w w' : World} (h : Below W.heap.size W w) (k : Below w.heap.size w w') : Below W.heap.size W w' := h.trans (k.mono h.size)

theorem text_is (s : ByteArray) (at_ most : Int) (w : World) (hs : s.size ≤ 281474976710656) (hmost : most ≤ 9223372036854775807) (t : ByteArray) (to e : Int) (h : Hid (V.text s at_ most = (t, to, e))) :
    Calls Try.prog 36 #[.string s, .int .i64 at_, .int .i64 most] w fun e1 w' => e1 = .returned (.tuple #[.string t, .int .i64 to, .int .i64 e]) ∧ Below w.heap.size w w' := by
  have := gettext_any s at_ most w hs hmost
  rw [h.out] at this
  exact this

end Go.Proofs.Ytinhinghakkfoaa
