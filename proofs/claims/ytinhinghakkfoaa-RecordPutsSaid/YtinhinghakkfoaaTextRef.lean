/-
  The contract of the document's own texts.
-/
import Derived.Test.YtinhinghakkfoaaText
namespace Go.Proofs.Ytinhinghakkfoaa
open Go.RowKit

set_option maxRecDepth 100000 in
set_option maxHeartbeats 1000000 in
theorem refgettext_any (s : ByteArray) (at_ most : Int) (w : World) (hs : s.size ≤ 281474976710656) (hmost : most ≤ 9223372036854775807) :
    Calls Try.prog 37 #[.string s, .int .i64 at_, .int .i64 most] w fun e w' => e = .returned (.tuple #[.string (V.text s at_ most).1, .int .i64 (V.text s at_ most).2.1, .int .i64 (V.text s at_ most).2.2]) ∧ Below w.heap.size w w' := by
  have hm : s.size ≤ maxLen := by unfold maxLen; omega
  obtain ⟨n, to, e, hg0⟩ : ∃ n to e, V.get s at_ = (n, to, e) := ⟨_, _, _, rfl⟩
  obtain ⟨b1, b2, b3⟩ := V.get_some hg0
  have HG := Lib.hid hg0
  clear hg0
  by_cases he : e = 0
  · subst he
    have HM := Lib.hid hm
    clear hm
    by_cases hb : most < 0 ∨ most < (n : Int)
    · have ht := V.text_big (most := most) HG.out rfl hb
      rw [ht]
      clear ht
      have hb' : most < 0 ∨ (0 ≤ most ∧ most < (n : Int)) := by omega
      clear hb
      rcases hb' with hb | ⟨hb0, hb⟩
      · go_enter Try.func37, Try.ntmps37
        go_wp2_with (go_at_call 39; refine (refget_is _ _ _ HM.out _ _ _ HG).mono ?_; rintro e w' ⟨rfl, rfl⟩)
        go_ret3
        exact ⟨rfl, Below.refl _ _⟩
      · go_enter Try.func37, Try.ntmps37
        go_wp2_with (go_at_call 39; refine (refget_is _ _ _ HM.out _ _ _ HG).mono ?_; rintro e w' ⟨rfl, rfl⟩)
        go_ret3
        exact ⟨rfl, Below.refl _ _⟩
    · have hb0 : 0 ≤ most := by omega
      have hb1 : (n : Int) ≤ most := by omega
      by_cases hsh : (s.size : Int) - to < n
      · have ht := V.text_short HG.out rfl hb hsh
        rw [ht]
        clear ht hb
        go_enter Try.func37, Try.ntmps37
        go_wp2_with (go_at_call 39; refine (refget_is _ _ _ HM.out _ _ _ HG).mono ?_; rintro e w' ⟨rfl, rfl⟩)
        go_ret3
        exact ⟨rfl, Below.refl _ _⟩
      · have ht := V.text_ok HG.out rfl hb hsh
        rw [ht]
        clear ht hb
        have hsh' : (n : Int) ≤ s.size - to := by omega
        clear hsh
        go_enter Try.func37, Try.ntmps37
        go_wp2_with (go_at_call 39; refine (refget_is _ _ _ HM.out _ _ _ HG).mono ?_; rintro e w' ⟨rfl, rfl⟩)
        go_ret3
        exact ⟨rfl, Below.refl _ _⟩
  · have ht := V.text_err (most := most) HG.out he
    rw [ht]
    clear ht
    have he' : (e != 0) = true := by simpa using he
    have HM := Lib.hid hm
    clear he hm
    go_enter Try.func37, Try.ntmps37
    go_wp2_with (go_at_call 39; refine (refget_is _ _ _ HM.out _ _ _ HG).mono ?_; rintro e w' ⟨rfl, rfl⟩)
    go_ret3
    exact ⟨rfl, Below.refl _ _⟩
end Go.Proofs.Ytinhinghakkfoaa
