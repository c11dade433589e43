/-
  The document's order.
-/
import Derived.Test.YtcmlopflandlgaaDdEq
namespace Go.Proofs.Ytcmlopflandlgaa.L8
open Go.RowKit
open L3 L4

theorem less_cb : ∀ l m : List UInt8, lessL (l.map (·.toNat)) (m.map (·.toNat)) = decide (Lib.compareBytes l m < 0)
  | [], [] => by simp [lessL, Lib.compareBytes]
  | [], _ :: _ => by simp [lessL, Lib.compareBytes]
  | _ :: _, [] => by simp [lessL, Lib.compareBytes]
  | x :: l, y :: m => by
    have ih := less_cb l m
    simp only [List.map_cons, lessL, Lib.compareBytes]
    by_cases h1 : x < y
    · have h1' : x.toNat < y.toNat := h1
      simp [h1, h1', Nat.ne_of_lt h1']
    · by_cases h2 : y < x
      · have h2' : y.toNat < x.toNat := h2
        simp [h1, h2, Nat.ne_of_gt h2', Nat.not_lt_of_lt h2']
      · have e : x = y := UInt8.le_antisymm (UInt8.not_lt.1 h2) (UInt8.not_lt.1 h1)
        subst e
        simp [ih]
theorem lessB_c (a b : ByteArray) : lessB a b = decide (cT a b < 0) := by
  unfold lessB cT
  rw [← less_cb]
  rfl
set_option maxRecDepth 100000 in
set_option maxHeartbeats 2000000 in
theorem rbefore_is (ai ae ap bi be bp : Int) (at_ bt : ByteArray) (al bl : List Did) (A C : Option Addr) (an ac bn bc : Nat) (v : Bool) (w : World) (ha : at_.size ≤ maxLen) (hb : bt.size ≤ maxLen) (HV : Hid (befB ⟨ai, ae, at_, ap, al⟩ ⟨bi, be, bt, bp, bl⟩ = v)) :
    Calls Try.prog 22 #[.agg #[.int .i64 ai, .int .i64 ae, .string at_, .int .i64 ap, .slice A an ac], .agg #[.int .i64 bi, .int .i64 be, .string bt, .int .i64 bp, .slice C bn bc]] w fun e w' => e = .returned (.bool v) ∧ Below w.heap.size w w' := by
  have hv := HV.out
  have hi := bef_iff ⟨ai, ae, at_, ap, al⟩ ⟨bi, be, bt, bp, bl⟩
  rw [hv] at hi
  have hk := two_box (w := w) (.cells #[.int .i64 ai, .int .i64 ae, .string at_, .int .i64 ap, .slice A an ac] 48) (.cells #[.int .i64 bi, .int .i64 be, .string bt, .int .i64 bp, .slice C bn bc] 48)
  have HK := Lib.hid hk
  clear hk hv HV
  by_cases h1 : ai = bi
  · subst h1
    by_cases h2 : at_ = bt
    · subst h2
      have e : decide (ap < bp) = v := by
        rw [Bool.eq_iff_iff, hi, decide_eq_true_iff]
        simp [cT_refl]
      clear hi
      go_enter Try.func22, Try.ntmps22
      go_wp2_with fail
      go_ret
      exact ⟨by first | rw [e] | rfl, HK.out⟩
    · have e : lessB at_ bt = v := by
        rw [lessB_c, Bool.eq_iff_iff, hi, decide_eq_true_iff]
        simp [h2]
      have HE := Lib.hid e
      have e3 : (at_.toList == bt.toList) = false := by
        cases q : at_.toList == bt.toList
        · rfl
        · exact absurd (txt_eq.1 q) h2
      clear hi e
      go_enter Try.func22, Try.ntmps22
      go_wp2_with (go_at_call 44; refine (rless_is at_ bt v _ ha hb HE).mono ?_; rintro e w1 ⟨rfl, hb1⟩)
      go_ret
      exact ⟨rfl, HK.out.trans (hb1.mono HK.out.size)⟩
  · have e : decide (ai < bi) = v := by
      rw [Bool.eq_iff_iff, hi, decide_eq_true_iff]
      simp [h1]
    clear hi
    go_enter Try.func22, Try.ntmps22
    go_wp2_with fail
    go_ret
    exact ⟨by first | rw [e] | rfl, HK.out⟩
end Go.Proofs.Ytcmlopflandlgaa.L8
