/-
  For every reply, every text and every byte: a reply that is put is got as it was; what is got, put, is these bytes; one byte more, or fewer, and it is none.
-/
import Derived.Test.YtlhkhccpeohefaaRows
import Derived.WalkKit
import Derived.ProofKit
import Derived.OpenShut
import Derived.ShutString
import Derived.ChangeOld
import Derived.Below
import Derived.Deep.Cut
import Derived.Test.YtlhkhccpeohefaaMReqLaw
import Derived.Test.YtlhkhccpeohefaaReqLaw3
import Derived.Test.YtlhkhccpeohefaaRepLaw
import Derived.Test.YtlhkhccpeohefaaRepBack
namespace Go.Proofs.Ytlhkhccpeohefaa.requestAnswers
open Go.ChangeShapes Go.WideShapes Go.ChangeAt Go.RowKit
open Go.ChangeMaps (open_string shut_string)
open L3 L4

theorem own : ownKnob Try.prog.godebug = none := by kernel_rfl
theorem laidOut : laidOutB Try.prog = true := by kernel_rfl

structure StR (w : World) (r : Rp) (FA PA : Option Addr) (fc pc : Nat) (wr : World) : Prop where
  a : SitsR r w.heap.size FA PA fc pc wr
  c : Below w.heap.size w wr
theorem StR.below {w wr w' : World} {r : Rp} {FA PA : Option Addr} {fc pc : Nat} (h : StR w r FA PA fc pc wr) (hb : Below wr.heap.size wr w') : StR w r FA PA fc pc w' := ⟨h.a.below hb, acc h.c hb⟩
theorem StR.box {w wr : World} {r : Rp} {FA PA : Option Addr} {fc pc : Nat} (h : StR w r FA PA fc pc wr) (x : Obj) : StR w r FA PA fc pc (wr.alloc x) := h.below (one_box x)
theorem _root_.Go.Proofs.Ytlhkhccpeohefaa.L4.SitsR.lt {r : Rp} {H : Nat} {FA PA : Option Addr} {fc pc : Nat} {w : World} (h : SitsR r H FA PA fc pc w) : H < w.heap.size := (Array.getElem?_eq_some_iff.1 h.row).1

set_option maxRecDepth 100000 in
set_option maxHeartbeats 16000000 in
theorem way_x_ok (w : World) (ye0 yoff0 yn0 ygen0 : Int) (yFA0 : Option Addr) (yfound0 : List L4.Fd) (yfc0 : Nat) (yPA0 : Option Addr) (yparts0 : List L4.Pt) (ypc0 : Nat) (yF0 : IsFound w yFA0 yfound0) (yP0 : IsParts w yPA0 yparts0) (a1 : ByteArray) (a2 : Int) (r : Rp) (HR : Hid (r = cutRp ye0 yoff0 yn0 ygen0 yfound0 yparts0)) (HCR : Hid (CutdR r)) (s : ByteArray) (h1 : a1.extract 0 (min (a1.size : Int) 1500).toNat = s) (z1 : a1.size ≤ maxLen) (HSZ : Hid (s.size ≤ 1500)) (x : Int) (hx : (x == 0) = false) (HA : Hid (RepU r ⟨#[]⟩ x)) (q : Rp) (HQ : Hid (readR s 64 = (q, some (s.size : Int)))) (HQX : Hid (q.chk = 0)) (HCQ : Hid (CutdR q)) (HPQ : Hid (RepU q s 0)) :
    Calls Try.prog 6 #[.agg #[.int .i64 ye0, .int .i64 yoff0, .int .i64 yn0, .int .i64 ygen0, .slice yFA0 yfound0.length yfc0, .slice yPA0 yparts0.length ypc0], .string a1, .int .u8 a2] w fun e w' => e = .returned (.bool true) ∧ Below w.heap.size w w' := by
  unfold maxLen at z1
  go_enter Try.func6, Try.ntmps6
  go_wp2_with fail
  go_at_call 20
  refine (cutr_u ye0 yoff0 yn0 ygen0 yFA0 yPA0 yfound0 yparts0 yfc0 ypc0 w.heap.size _ (Lib.hid (yF0.1.out.below (one_box _))) (Lib.hid (yP0.1.out.below (one_box _))) (by simp) (Lib.hid yF0.2.2) (Lib.hid yP0.2.2) yF0.2.1 yP0.2.1 r HR).mono ?_
  rintro e w1 ⟨FA, PA, fc, pc, rfl, hat, hb1⟩
  have r0 := (hb1.block w.heap.size (by simp)).trans (heap_alloc_new w (.cells #[.int .i64 ye0, .int .i64 yoff0, .int .i64 yn0, .int .i64 ygen0, .slice yFA0 yfound0.length yfc0, .slice yPA0 yparts0.length ypc0] 42 (0, 0)))
  have x0 := row14 (j := 0) r0 rfl; have x1 := row14 (j := 1) r0 rfl; have x2 := row14 (j := 2) r0 rfl; have x3 := row14 (j := 3) r0 rfl; have x4 := row14 (j := 4) r0 rfl; have x5 := row14 (j := 5) r0 rfl; have f0 := frozen_of_row _ _ 0 _ _ r0; have f1 := frozen_of_row _ _ 1 _ _ r0; have f2 := frozen_of_row _ _ 2 _ _ r0; have f3 := frozen_of_row _ _ 3 _ _ r0; have f4 := frozen_of_row _ _ 4 _ _ r0; have f5 := frozen_of_row _ _ 5 _ _ r0;
  have XR : Hid (StR w r FA PA fc pc ((((((w1.setCell ⟨w.heap.size, 0, none⟩ (.int .i64 r.e)).setCell ⟨w.heap.size, 1, none⟩ (.int .i64 r.off)).setCell ⟨w.heap.size, 2, none⟩ (.int .i64 r.n)).setCell ⟨w.heap.size, 3, none⟩ (.int .i64 r.gen)).setCell ⟨w.heap.size, 4, none⟩ (.slice FA r.found.length fc)).setCell ⟨w.heap.size, 5, none⟩ (.slice PA r.parts.length pc))) := Lib.hid ⟨⟨set6 r0, (hat.set (by simp) _ _ _ _ _ _).at⟩, set6_below ((one_box _).trans (hb1.mono (by simp))) (Nat.le_refl _) _ _ _ _ _ _⟩
  clear r0 hat hb1
  go_upto_region 2 with (fail)
  clear x0 x1 x2 x3 x4 x5 f0 f1 f2 f3 f4 f5
  generalize ((((((w1.setCell ⟨w.heap.size, 0, none⟩ (.int .i64 r.e)).setCell ⟨w.heap.size, 1, none⟩ (.int .i64 r.off)).setCell ⟨w.heap.size, 2, none⟩ (.int .i64 r.n)).setCell ⟨w.heap.size, 3, none⟩ (.int .i64 r.gen)).setCell ⟨w.heap.size, 4, none⟩ (.slice FA r.found.length fc)).setCell ⟨w.heap.size, 5, none⟩ (.slice PA r.parts.length pc)) = W1 at XR ⊢
  go_upto_region 3 with (fail)
  clear h1 z1
  have z0 := row14 (j := 0) XR.out.a.row rfl; have z1 := row14 (j := 1) XR.out.a.row rfl; have z2 := row14 (j := 2) XR.out.a.row rfl; have z3 := row14 (j := 3) XR.out.a.row rfl; have z4 := row14 (j := 4) XR.out.a.row rfl; have z5 := row14 (j := 5) XR.out.a.row rfl;
  as_aux_lemma =>
  go_wp2_with (first
    | (have _q := SP; go_at_call 19; refine (fixed4_any _).mono ?_; rintro e wf ⟨rfl, hbf⟩; have SF := Lib.hid (SP.out.below hbf).c)
    | (have _q := SG; go_at_call 21; refine (reply_u q FAs PAs fcs pcs _ HCQ (Lib.hid (AG.out.below (one_box _))) s 0 HPQ).mono ?_; rintro e wp ⟨rfl, hbp⟩; have SP := Lib.hid ((SG.out.box (.cells #[.int .i64 q.e, .int .i64 q.off, .int .i64 q.n, .int .i64 q.gen, .slice FAs q.found.length fcs, .slice PAs q.parts.length pcs] 42 (0, 0))).below hbp); clear hbp)
    | (have _q := S4; go_at_call 23; refine (L4.parse_ok s q _ (by have := HSZ.out; omega) HQ HQX).mono ?_; rintro e wg ⟨FAs, PAs, fcs, pcs, rfl, oF, oP, hbg⟩; have SG := Lib.hid (S4.out.below hbg); have AG := Lib.hid (OwnsR.at (⟨oF, oP⟩ : OwnsR q FAs PAs fcs pcs _ wg)); clear oF oP hbg)
    | (go_at_call 21; refine (reply_u r FA PA fc pc _ HCR (Lib.hid XR.out.a.at_) ⟨#[]⟩ x HA).mono ?_; rintro e w4 ⟨rfl, hb4⟩; have S4 := Lib.hid (XR.out.below hb4); clear z0 z1 z2 z3 z4 z5; clear hb4))
  go_ret
  exact ⟨rfl, SF.out⟩

set_option maxRecDepth 100000 in
set_option maxHeartbeats 16000000 in
theorem way_x_no (w : World) (ye0 yoff0 yn0 ygen0 : Int) (yFA0 : Option Addr) (yfound0 : List L4.Fd) (yfc0 : Nat) (yPA0 : Option Addr) (yparts0 : List L4.Pt) (ypc0 : Nat) (yF0 : IsFound w yFA0 yfound0) (yP0 : IsParts w yPA0 yparts0) (a1 : ByteArray) (a2 : Int) (r : Rp) (HR : Hid (r = cutRp ye0 yoff0 yn0 ygen0 yfound0 yparts0)) (HCR : Hid (CutdR r)) (s : ByteArray) (h1 : a1.extract 0 (min (a1.size : Int) 1500).toNat = s) (z1 : a1.size ≤ maxLen) (HSZ : Hid (s.size ≤ 1500)) (x : Int) (hx : (x == 0) = false) (HA : Hid (RepU r ⟨#[]⟩ x)) (HQ : Hid (NoR s)) :
    Calls Try.prog 6 #[.agg #[.int .i64 ye0, .int .i64 yoff0, .int .i64 yn0, .int .i64 ygen0, .slice yFA0 yfound0.length yfc0, .slice yPA0 yparts0.length ypc0], .string a1, .int .u8 a2] w fun e w' => e = .returned (.bool true) ∧ Below w.heap.size w w' := by
  unfold maxLen at z1
  go_enter Try.func6, Try.ntmps6
  go_wp2_with fail
  go_at_call 20
  refine (cutr_u ye0 yoff0 yn0 ygen0 yFA0 yPA0 yfound0 yparts0 yfc0 ypc0 w.heap.size _ (Lib.hid (yF0.1.out.below (one_box _))) (Lib.hid (yP0.1.out.below (one_box _))) (by simp) (Lib.hid yF0.2.2) (Lib.hid yP0.2.2) yF0.2.1 yP0.2.1 r HR).mono ?_
  rintro e w1 ⟨FA, PA, fc, pc, rfl, hat, hb1⟩
  have r0 := (hb1.block w.heap.size (by simp)).trans (heap_alloc_new w (.cells #[.int .i64 ye0, .int .i64 yoff0, .int .i64 yn0, .int .i64 ygen0, .slice yFA0 yfound0.length yfc0, .slice yPA0 yparts0.length ypc0] 42 (0, 0)))
  have x0 := row14 (j := 0) r0 rfl; have x1 := row14 (j := 1) r0 rfl; have x2 := row14 (j := 2) r0 rfl; have x3 := row14 (j := 3) r0 rfl; have x4 := row14 (j := 4) r0 rfl; have x5 := row14 (j := 5) r0 rfl; have f0 := frozen_of_row _ _ 0 _ _ r0; have f1 := frozen_of_row _ _ 1 _ _ r0; have f2 := frozen_of_row _ _ 2 _ _ r0; have f3 := frozen_of_row _ _ 3 _ _ r0; have f4 := frozen_of_row _ _ 4 _ _ r0; have f5 := frozen_of_row _ _ 5 _ _ r0;
  have XR : Hid (StR w r FA PA fc pc ((((((w1.setCell ⟨w.heap.size, 0, none⟩ (.int .i64 r.e)).setCell ⟨w.heap.size, 1, none⟩ (.int .i64 r.off)).setCell ⟨w.heap.size, 2, none⟩ (.int .i64 r.n)).setCell ⟨w.heap.size, 3, none⟩ (.int .i64 r.gen)).setCell ⟨w.heap.size, 4, none⟩ (.slice FA r.found.length fc)).setCell ⟨w.heap.size, 5, none⟩ (.slice PA r.parts.length pc))) := Lib.hid ⟨⟨set6 r0, (hat.set (by simp) _ _ _ _ _ _).at⟩, set6_below ((one_box _).trans (hb1.mono (by simp))) (Nat.le_refl _) _ _ _ _ _ _⟩
  clear r0 hat hb1
  go_upto_region 2 with (fail)
  clear x0 x1 x2 x3 x4 x5 f0 f1 f2 f3 f4 f5
  generalize ((((((w1.setCell ⟨w.heap.size, 0, none⟩ (.int .i64 r.e)).setCell ⟨w.heap.size, 1, none⟩ (.int .i64 r.off)).setCell ⟨w.heap.size, 2, none⟩ (.int .i64 r.n)).setCell ⟨w.heap.size, 3, none⟩ (.int .i64 r.gen)).setCell ⟨w.heap.size, 4, none⟩ (.slice FA r.found.length fc)).setCell ⟨w.heap.size, 5, none⟩ (.slice PA r.parts.length pc)) = W1 at XR ⊢
  go_upto_region 3 with (fail)
  clear h1 z1
  have z0 := row14 (j := 0) XR.out.a.row rfl; have z1 := row14 (j := 1) XR.out.a.row rfl; have z2 := row14 (j := 2) XR.out.a.row rfl; have z3 := row14 (j := 3) XR.out.a.row rfl; have z4 := row14 (j := 4) XR.out.a.row rfl; have z5 := row14 (j := 5) XR.out.a.row rfl;
  as_aux_lemma =>
  go_wp2_with (first
    | (have _q := SC; go_at_call 19; refine (fixed4_any _).mono ?_; rintro e wf ⟨rfl, hbf⟩; have SF := Lib.hid (SC.out.below hbf).c)
    | (have _q := SG; go_at_call 25; refine (ralike_zero FAz PAz fcz pcz _).mono ?_; rintro e wc ⟨rfl, hbc⟩; have SC := Lib.hid ((SG.out.box (.cells #[.int .i64 0, .int .i64 0, .int .i64 0, .int .i64 0, .slice FAz 0 fcz, .slice PAz 0 pcz] 42 (0, 0))).below hbc))
    | (have _q := S4; go_at_call 23; refine (L4.parse_none s _ (by have := HSZ.out; omega) HQ).mono ?_; rintro e wg ⟨FAz, PAz, fcz, pcz, rfl, hbg⟩; have SG := Lib.hid (S4.out.below hbg); clear hbg)
    | (go_at_call 21; refine (reply_u r FA PA fc pc _ HCR (Lib.hid XR.out.a.at_) ⟨#[]⟩ x HA).mono ?_; rintro e w4 ⟨rfl, hb4⟩; have S4 := Lib.hid (XR.out.below hb4); clear z0 z1 z2 z3 z4 z5; clear hb4))
  go_ret
  exact ⟨rfl, SF.out⟩

set_option maxRecDepth 100000 in
set_option maxHeartbeats 16000000 in
theorem way_y_ok (w : World) (ye0 yoff0 yn0 ygen0 : Int) (yFA0 : Option Addr) (yfound0 : List L4.Fd) (yfc0 : Nat) (yPA0 : Option Addr) (yparts0 : List L4.Pt) (ypc0 : Nat) (yF0 : IsFound w yFA0 yfound0) (yP0 : IsParts w yPA0 yparts0) (a1 : ByteArray) (a2 : Int) (r : Rp) (HR : Hid (r = cutRp ye0 yoff0 yn0 ygen0 yfound0 yparts0)) (HCR : Hid (CutdR r)) (s : ByteArray) (h1 : a1.extract 0 (min (a1.size : Int) 1500).toNat = s) (z1 : a1.size ≤ maxLen) (HSZ : Hid (s.size ≤ 1500)) (a : ByteArray) (HA : Hid (RepU r a 0)) (HAQ : Hid (readR a 64 = (r, some (a.size : Int)))) (HAX : Hid (r.chk = 0)) (za : a.size ≤ 100000) (zp : 0 < a.size) (SZ1 : Hid ((a ++ strOfNums [a2]).size ≤ 140737488355328)) (no1 : (9223372036854775807 < a.size + (strOfNums [a2]).size) = False) (HM : Hid (NoR (a ++ strOfNums [a2]))) (t : ByteArray) (hl : a.extract 0 (a.size - 1) = t) (zt : Hid (t.size ≤ 140737488355328)) (HL : Hid (NoR t)) (q : Rp) (HQ : Hid (readR s 64 = (q, some (s.size : Int)))) (HQX : Hid (q.chk = 0)) (HCQ : Hid (CutdR q)) (HPQ : Hid (RepU q s 0)) :
    Calls Try.prog 6 #[.agg #[.int .i64 ye0, .int .i64 yoff0, .int .i64 yn0, .int .i64 ygen0, .slice yFA0 yfound0.length yfc0, .slice yPA0 yparts0.length ypc0], .string a1, .int .u8 a2] w fun e w' => e = .returned (.bool true) ∧ Below w.heap.size w w' := by
  unfold maxLen at z1
  go_enter Try.func6, Try.ntmps6
  go_wp2_with fail
  go_at_call 20
  refine (cutr_u ye0 yoff0 yn0 ygen0 yFA0 yPA0 yfound0 yparts0 yfc0 ypc0 w.heap.size _ (Lib.hid (yF0.1.out.below (one_box _))) (Lib.hid (yP0.1.out.below (one_box _))) (by simp) (Lib.hid yF0.2.2) (Lib.hid yP0.2.2) yF0.2.1 yP0.2.1 r HR).mono ?_
  rintro e w1 ⟨FA, PA, fc, pc, rfl, hat, hb1⟩
  have r0 := (hb1.block w.heap.size (by simp)).trans (heap_alloc_new w (.cells #[.int .i64 ye0, .int .i64 yoff0, .int .i64 yn0, .int .i64 ygen0, .slice yFA0 yfound0.length yfc0, .slice yPA0 yparts0.length ypc0] 42 (0, 0)))
  have x0 := row14 (j := 0) r0 rfl; have x1 := row14 (j := 1) r0 rfl; have x2 := row14 (j := 2) r0 rfl; have x3 := row14 (j := 3) r0 rfl; have x4 := row14 (j := 4) r0 rfl; have x5 := row14 (j := 5) r0 rfl; have f0 := frozen_of_row _ _ 0 _ _ r0; have f1 := frozen_of_row _ _ 1 _ _ r0; have f2 := frozen_of_row _ _ 2 _ _ r0; have f3 := frozen_of_row _ _ 3 _ _ r0; have f4 := frozen_of_row _ _ 4 _ _ r0; have f5 := frozen_of_row _ _ 5 _ _ r0;
  have XR : Hid (StR w r FA PA fc pc ((((((w1.setCell ⟨w.heap.size, 0, none⟩ (.int .i64 r.e)).setCell ⟨w.heap.size, 1, none⟩ (.int .i64 r.off)).setCell ⟨w.heap.size, 2, none⟩ (.int .i64 r.n)).setCell ⟨w.heap.size, 3, none⟩ (.int .i64 r.gen)).setCell ⟨w.heap.size, 4, none⟩ (.slice FA r.found.length fc)).setCell ⟨w.heap.size, 5, none⟩ (.slice PA r.parts.length pc))) := Lib.hid ⟨⟨set6 r0, (hat.set (by simp) _ _ _ _ _ _).at⟩, set6_below ((one_box _).trans (hb1.mono (by simp))) (Nat.le_refl _) _ _ _ _ _ _⟩
  clear r0 hat hb1
  go_upto_region 2 with (fail)
  clear x0 x1 x2 x3 x4 x5 f0 f1 f2 f3 f4 f5
  generalize ((((((w1.setCell ⟨w.heap.size, 0, none⟩ (.int .i64 r.e)).setCell ⟨w.heap.size, 1, none⟩ (.int .i64 r.off)).setCell ⟨w.heap.size, 2, none⟩ (.int .i64 r.n)).setCell ⟨w.heap.size, 3, none⟩ (.int .i64 r.gen)).setCell ⟨w.heap.size, 4, none⟩ (.slice FA r.found.length fc)).setCell ⟨w.heap.size, 5, none⟩ (.slice PA r.parts.length pc)) = W1 at XR ⊢
  go_upto_region 3 with (fail)
  clear h1 z1
  have z0 := row14 (j := 0) XR.out.a.row rfl; have z1 := row14 (j := 1) XR.out.a.row rfl; have z2 := row14 (j := 2) XR.out.a.row rfl; have z3 := row14 (j := 3) XR.out.a.row rfl; have z4 := row14 (j := 4) XR.out.a.row rfl; have z5 := row14 (j := 5) XR.out.a.row rfl;
  have HA1 := Lib.hid (AlikeR.refl r)
  have kc := conv_one
  as_aux_lemma =>
  go_wp2_with (first
    | (have _q := SP; go_at_call 19; refine (fixed4_any _).mono ?_; rintro e wf ⟨rfl, hbf⟩; have SF := Lib.hid (SP.out.below hbf).c)
    | (have _q := SG; go_at_call 21; refine (reply_u q FAs PAs fcs pcs _ HCQ (Lib.hid (AG.out.below (one_box _))) s 0 HPQ).mono ?_; rintro e wp ⟨rfl, hbp⟩; have SP := Lib.hid ((SG.out.box (.cells #[.int .i64 q.e, .int .i64 q.off, .int .i64 q.n, .int .i64 q.gen, .slice FAs q.found.length fcs, .slice PAs q.parts.length pcs] 42 (0, 0))).below hbp); clear hbp)
    | (have _q := S8; go_at_call 23; refine (L4.parse_ok s q _ (by have := HSZ.out; omega) HQ HQX).mono ?_; rintro e wg ⟨FAs, PAs, fcs, pcs, rfl, oF, oP, hbg⟩; have SG := Lib.hid (S8.out.below hbg); have AG := Lib.hid (OwnsR.at (⟨oF, oP⟩ : OwnsR q FAs PAs fcs pcs _ wg)); clear oF oP hbg)
    | (have _q := S7; go_at_call 25; (with_reducible refine (ralike_o r FAo PAo fco pco r FA PA fc pc true (Lib.hid (SQ7.out.at_.below (one_box _))) (Lib.hid (S7.out.a.at_.below (one_box _))) HCR HA1).mono ?_); rintro e w8 ⟨rfl, hb8⟩; have S8 := Lib.hid ((S7.out.box (.cells #[.int .i64 0, .int .i64 0, .int .i64 0, .int .i64 0, .slice FA7 0 fc7, .slice PA7 0 pc7] 42 (0, 0))).below hb8); clear z0 z1 z2 z3 z4 z5 y0 y1 y2 y3 y4 y5; clear hb8 l0 l1)
    | (have _q := S6; go_at_call 23; refine (L4.parse_none t _ zt.out HL).mono ?_; rintro e w7 ⟨FA7, PA7, fc7, pc7, rfl, hb7⟩; have S7 := Lib.hid ((S6.out.box (.cells #[.int .i64 0, .int .i64 0, .int .i64 0, .int .i64 0, .slice FA6 0 fc6, .slice PA6 0 pc6] 42 (0, 0))).below hb7); have SQ7 := Lib.hid ((SQ6.out.box (.cells #[.int .i64 0, .int .i64 0, .int .i64 0, .int .i64 0, .slice FA6 0 fc6, .slice PA6 0 pc6] 42 (0, 0))).below hb7); have z0 := row14 (j := 0) S7.out.a.row rfl; have z1 := row14 (j := 1) S7.out.a.row rfl; have z2 := row14 (j := 2) S7.out.a.row rfl; have z3 := row14 (j := 3) S7.out.a.row rfl; have z4 := row14 (j := 4) S7.out.a.row rfl; have z5 := row14 (j := 5) S7.out.a.row rfl; have y0 := row14 (j := 0) SQ7.out.row rfl; have y1 := row14 (j := 1) SQ7.out.row rfl; have y2 := row14 (j := 2) SQ7.out.row rfl; have y3 := row14 (j := 3) SQ7.out.row rfl; have y4 := row14 (j := 4) SQ7.out.row rfl; have y5 := row14 (j := 5) SQ7.out.row rfl; have l0 := S7.out.a.lt; have l1 := SQ7.out.lt; clear hb7)
    | (have _q := S5; go_at_call 23; refine (L4.parse_none (a ++ strOfNums [a2]) _ SZ1.out HM).mono ?_; rintro e w6 ⟨FA6, PA6, fc6, pc6, rfl, hb6⟩; have S6 := Lib.hid ((S5.out.box (.cells #[.int .u8 a2] 5 (0, 0))).below hb6); have SQ6 := Lib.hid ((SQ5.out.box (.cells #[.int .u8 a2] 5 (0, 0))).below hb6); clear hb6)
    | (have _q := S4; go_at_call 23; refine (L4.parse_ok a r _ (by omega) HAQ HAX).mono ?_; rintro e w5 ⟨FAo, PAo, fco, pco, rfl, oF, oP, hb5⟩; have S5 := Lib.hid ((S4.out.below hb5).box (.cells #[.int .i64 r.e, .int .i64 r.off, .int .i64 r.n, .int .i64 r.gen, .slice FAo r.found.length fco, .slice PAo r.parts.length pco] 42 (0, 0))); have SQ5 : Hid (SitsR r w5.heap.size FAo PAo fco pco (w5.alloc (.cells #[.int .i64 r.e, .int .i64 r.off, .int .i64 r.n, .int .i64 r.gen, .slice FAo r.found.length fco, .slice PAo r.parts.length pco] 42 (0, 0)))) := Lib.hid ⟨heap_alloc_new w5 _, (OwnsR.at (⟨oF, oP⟩ : OwnsR r FAo PAo fco pco _ w5)).below (one_box _)⟩; clear oF oP hb5)
    | (go_at_call 21; refine (reply_u r FA PA fc pc _ HCR (Lib.hid XR.out.a.at_) a 0 HA).mono ?_; rintro e w4 ⟨rfl, hb4⟩; have S4 := Lib.hid (XR.out.below hb4); clear z0 z1 z2 z3 z4 z5; clear hb4))
  go_ret
  exact ⟨rfl, SF.out⟩

set_option maxRecDepth 100000 in
set_option maxHeartbeats 16000000 in
theorem way_y_no (w : World) (ye0 yoff0 yn0 ygen0 : Int) (yFA0 : Option Addr) (yfound0 : List L4.Fd) (yfc0 : Nat) (yPA0 : Option Addr) (yparts0 : List L4.Pt) (ypc0 : Nat) (yF0 : IsFound w yFA0 yfound0) (yP0 : IsParts w yPA0 yparts0) (a1 : ByteArray) (a2 : Int) (r : Rp) (HR : Hid (r = cutRp ye0 yoff0 yn0 ygen0 yfound0 yparts0)) (HCR : Hid (CutdR r)) (s : ByteArray) (h1 : a1.extract 0 (min (a1.size : Int) 1500).toNat = s) (z1 : a1.size ≤ maxLen) (HSZ : Hid (s.size ≤ 1500)) (a : ByteArray) (HA : Hid (RepU r a 0)) (HAQ : Hid (readR a 64 = (r, some (a.size : Int)))) (HAX : Hid (r.chk = 0)) (za : a.size ≤ 100000) (zp : 0 < a.size) (SZ1 : Hid ((a ++ strOfNums [a2]).size ≤ 140737488355328)) (no1 : (9223372036854775807 < a.size + (strOfNums [a2]).size) = False) (HM : Hid (NoR (a ++ strOfNums [a2]))) (t : ByteArray) (hl : a.extract 0 (a.size - 1) = t) (zt : Hid (t.size ≤ 140737488355328)) (HL : Hid (NoR t)) (HQ : Hid (NoR s)) :
    Calls Try.prog 6 #[.agg #[.int .i64 ye0, .int .i64 yoff0, .int .i64 yn0, .int .i64 ygen0, .slice yFA0 yfound0.length yfc0, .slice yPA0 yparts0.length ypc0], .string a1, .int .u8 a2] w fun e w' => e = .returned (.bool true) ∧ Below w.heap.size w w' := by
  unfold maxLen at z1
  go_enter Try.func6, Try.ntmps6
  go_wp2_with fail
  go_at_call 20
  refine (cutr_u ye0 yoff0 yn0 ygen0 yFA0 yPA0 yfound0 yparts0 yfc0 ypc0 w.heap.size _ (Lib.hid (yF0.1.out.below (one_box _))) (Lib.hid (yP0.1.out.below (one_box _))) (by simp) (Lib.hid yF0.2.2) (Lib.hid yP0.2.2) yF0.2.1 yP0.2.1 r HR).mono ?_
  rintro e w1 ⟨FA, PA, fc, pc, rfl, hat, hb1⟩
  have r0 := (hb1.block w.heap.size (by simp)).trans (heap_alloc_new w (.cells #[.int .i64 ye0, .int .i64 yoff0, .int .i64 yn0, .int .i64 ygen0, .slice yFA0 yfound0.length yfc0, .slice yPA0 yparts0.length ypc0] 42 (0, 0)))
  have x0 := row14 (j := 0) r0 rfl; have x1 := row14 (j := 1) r0 rfl; have x2 := row14 (j := 2) r0 rfl; have x3 := row14 (j := 3) r0 rfl; have x4 := row14 (j := 4) r0 rfl; have x5 := row14 (j := 5) r0 rfl; have f0 := frozen_of_row _ _ 0 _ _ r0; have f1 := frozen_of_row _ _ 1 _ _ r0; have f2 := frozen_of_row _ _ 2 _ _ r0; have f3 := frozen_of_row _ _ 3 _ _ r0; have f4 := frozen_of_row _ _ 4 _ _ r0; have f5 := frozen_of_row _ _ 5 _ _ r0;
  have XR : Hid (StR w r FA PA fc pc ((((((w1.setCell ⟨w.heap.size, 0, none⟩ (.int .i64 r.e)).setCell ⟨w.heap.size, 1, none⟩ (.int .i64 r.off)).setCell ⟨w.heap.size, 2, none⟩ (.int .i64 r.n)).setCell ⟨w.heap.size, 3, none⟩ (.int .i64 r.gen)).setCell ⟨w.heap.size, 4, none⟩ (.slice FA r.found.length fc)).setCell ⟨w.heap.size, 5, none⟩ (.slice PA r.parts.length pc))) := Lib.hid ⟨⟨set6 r0, (hat.set (by simp) _ _ _ _ _ _).at⟩, set6_below ((one_box _).trans (hb1.mono (by simp))) (Nat.le_refl _) _ _ _ _ _ _⟩
  clear r0 hat hb1
  go_upto_region 2 with (fail)
  clear x0 x1 x2 x3 x4 x5 f0 f1 f2 f3 f4 f5
  generalize ((((((w1.setCell ⟨w.heap.size, 0, none⟩ (.int .i64 r.e)).setCell ⟨w.heap.size, 1, none⟩ (.int .i64 r.off)).setCell ⟨w.heap.size, 2, none⟩ (.int .i64 r.n)).setCell ⟨w.heap.size, 3, none⟩ (.int .i64 r.gen)).setCell ⟨w.heap.size, 4, none⟩ (.slice FA r.found.length fc)).setCell ⟨w.heap.size, 5, none⟩ (.slice PA r.parts.length pc)) = W1 at XR ⊢
  go_upto_region 3 with (fail)
  clear h1 z1
  have z0 := row14 (j := 0) XR.out.a.row rfl; have z1 := row14 (j := 1) XR.out.a.row rfl; have z2 := row14 (j := 2) XR.out.a.row rfl; have z3 := row14 (j := 3) XR.out.a.row rfl; have z4 := row14 (j := 4) XR.out.a.row rfl; have z5 := row14 (j := 5) XR.out.a.row rfl;
  have HA1 := Lib.hid (AlikeR.refl r)
  have kc := conv_one
  as_aux_lemma =>
  go_wp2_with (first
    | (have _q := SC; go_at_call 19; refine (fixed4_any _).mono ?_; rintro e wf ⟨rfl, hbf⟩; have SF := Lib.hid (SC.out.below hbf).c)
    | (have _q := SG; go_at_call 25; refine (ralike_zero FAz PAz fcz pcz _).mono ?_; rintro e wc ⟨rfl, hbc⟩; have SC := Lib.hid ((SG.out.box (.cells #[.int .i64 0, .int .i64 0, .int .i64 0, .int .i64 0, .slice FAz 0 fcz, .slice PAz 0 pcz] 42 (0, 0))).below hbc))
    | (have _q := S8; go_at_call 23; refine (L4.parse_none s _ (by have := HSZ.out; omega) HQ).mono ?_; rintro e wg ⟨FAz, PAz, fcz, pcz, rfl, hbg⟩; have SG := Lib.hid (S8.out.below hbg); clear hbg)
    | (have _q := S7; go_at_call 25; (with_reducible refine (ralike_o r FAo PAo fco pco r FA PA fc pc true (Lib.hid (SQ7.out.at_.below (one_box _))) (Lib.hid (S7.out.a.at_.below (one_box _))) HCR HA1).mono ?_); rintro e w8 ⟨rfl, hb8⟩; have S8 := Lib.hid ((S7.out.box (.cells #[.int .i64 0, .int .i64 0, .int .i64 0, .int .i64 0, .slice FA7 0 fc7, .slice PA7 0 pc7] 42 (0, 0))).below hb8); clear z0 z1 z2 z3 z4 z5 y0 y1 y2 y3 y4 y5; clear hb8 l0 l1)
    | (have _q := S6; go_at_call 23; refine (L4.parse_none t _ zt.out HL).mono ?_; rintro e w7 ⟨FA7, PA7, fc7, pc7, rfl, hb7⟩; have S7 := Lib.hid ((S6.out.box (.cells #[.int .i64 0, .int .i64 0, .int .i64 0, .int .i64 0, .slice FA6 0 fc6, .slice PA6 0 pc6] 42 (0, 0))).below hb7); have SQ7 := Lib.hid ((SQ6.out.box (.cells #[.int .i64 0, .int .i64 0, .int .i64 0, .int .i64 0, .slice FA6 0 fc6, .slice PA6 0 pc6] 42 (0, 0))).below hb7); have z0 := row14 (j := 0) S7.out.a.row rfl; have z1 := row14 (j := 1) S7.out.a.row rfl; have z2 := row14 (j := 2) S7.out.a.row rfl; have z3 := row14 (j := 3) S7.out.a.row rfl; have z4 := row14 (j := 4) S7.out.a.row rfl; have z5 := row14 (j := 5) S7.out.a.row rfl; have y0 := row14 (j := 0) SQ7.out.row rfl; have y1 := row14 (j := 1) SQ7.out.row rfl; have y2 := row14 (j := 2) SQ7.out.row rfl; have y3 := row14 (j := 3) SQ7.out.row rfl; have y4 := row14 (j := 4) SQ7.out.row rfl; have y5 := row14 (j := 5) SQ7.out.row rfl; have l0 := S7.out.a.lt; have l1 := SQ7.out.lt; clear hb7)
    | (have _q := S5; go_at_call 23; refine (L4.parse_none (a ++ strOfNums [a2]) _ SZ1.out HM).mono ?_; rintro e w6 ⟨FA6, PA6, fc6, pc6, rfl, hb6⟩; have S6 := Lib.hid ((S5.out.box (.cells #[.int .u8 a2] 5 (0, 0))).below hb6); have SQ6 := Lib.hid ((SQ5.out.box (.cells #[.int .u8 a2] 5 (0, 0))).below hb6); clear hb6)
    | (have _q := S4; go_at_call 23; refine (L4.parse_ok a r _ (by omega) HAQ HAX).mono ?_; rintro e w5 ⟨FAo, PAo, fco, pco, rfl, oF, oP, hb5⟩; have S5 := Lib.hid ((S4.out.below hb5).box (.cells #[.int .i64 r.e, .int .i64 r.off, .int .i64 r.n, .int .i64 r.gen, .slice FAo r.found.length fco, .slice PAo r.parts.length pco] 42 (0, 0))); have SQ5 : Hid (SitsR r w5.heap.size FAo PAo fco pco (w5.alloc (.cells #[.int .i64 r.e, .int .i64 r.off, .int .i64 r.n, .int .i64 r.gen, .slice FAo r.found.length fco, .slice PAo r.parts.length pco] 42 (0, 0)))) := Lib.hid ⟨heap_alloc_new w5 _, (OwnsR.at (⟨oF, oP⟩ : OwnsR r FAo PAo fco pco _ w5)).below (one_box _)⟩; clear oF oP hb5)
    | (go_at_call 21; refine (reply_u r FA PA fc pc _ HCR (Lib.hid XR.out.a.at_) a 0 HA).mono ?_; rintro e w4 ⟨rfl, hb4⟩; have S4 := Lib.hid (XR.out.below hb4); clear z0 z1 z2 z3 z4 z5; clear hb4))
  go_ret
  exact ⟨rfl, SF.out⟩

theorem walk (w : World) (ye0 yoff0 yn0 ygen0 : Int) (yFA0 : Option Addr) (yfound0 : List L4.Fd) (yfc0 : Nat) (yPA0 : Option Addr) (yparts0 : List L4.Pt) (ypc0 : Nat) (yF0 : IsFound w yFA0 yfound0) (yP0 : IsParts w yPA0 yparts0) (a1 : ByteArray) (z1 : a1.size ≤ maxLen) (a2 : Int) (_ : (Lit.int .u8 a2).wf = true) :
    Calls Try.prog 6 #[.agg #[.int .i64 ye0, .int .i64 yoff0, .int .i64 yn0, .int .i64 ygen0, .slice yFA0 yfound0.length yfc0, .slice yPA0 yparts0.length ypc0], .string a1, .int .u8 a2] w fun e w' => e = .returned (.bool true) ∧ Below w.heap.size w w' := by
  obtain ⟨r, hr⟩ : ∃ r, r = cutRp ye0 yoff0 yn0 ygen0 yfound0 yparts0 := ⟨_, rfl⟩
  have HCR : Hid (CutdR r) := Lib.hid (by rw [hr]; exact cutRp_cut _ _ _ _ _ _)
  obtain ⟨s, hs⟩ : ∃ s, a1.extract 0 (min (a1.size : Int) 1500).toNat = s := ⟨_, rfl⟩
  have HSZ : Hid (s.size ≤ 1500) := Lib.hid (by rw [← hs]; exact cutS_size a1 1500)
  obtain ⟨a, x, HA⟩ := RepU.ex r
  have HR := Lib.hid hr
  have zn : (strOfNums [a2]).size = 1 := strOfNums_size _
  obtain ⟨q, u, hq⟩ : ∃ q u, readR s 64 = (q, u) := ⟨_, _, rfl⟩
  by_cases hok : u = some (s.size : Int) ∧ q.chk = 0
  · obtain ⟨rfl, hqx⟩ := hok
    have HCQ : Hid (CutdR q) := Lib.hid (by have := readR_small s 64; rw [hq] at this; exact this.cutd)
    have HPQ := Lib.hid (RepU.back hq hqx)
    by_cases hx : x = 0
    · subst hx
      have hz := HA.size
      have hp := rep_pos HA
      exact way_y_ok w ye0 yoff0 yn0 ygen0 yFA0 yfound0 yfc0 yPA0 yparts0 ypc0 yF0 yP0 a1 a2 r HR HCR s hs z1 HSZ a (Lib.hid HA) (Lib.hid HA.got) (Lib.hid HA.ok.1) hz hp (Lib.hid (by rw [ByteArray.size_append]; omega)) (by simp; omega) (Lib.hid (HA.more _ zn)) _ rfl (Lib.hid (by rw [ByteArray.size_extract]; omega)) (Lib.hid (HA.less hp)) q (Lib.hid hq) (Lib.hid hqx) HCQ HPQ
    · have ha : a = ⟨#[]⟩ := by have := HA.2; rwa [if_neg hx] at this
      subst ha
      exact way_x_ok w ye0 yoff0 yn0 ygen0 yFA0 yfound0 yfc0 yPA0 yparts0 ypc0 yF0 yP0 a1 a2 r HR HCR s hs z1 HSZ x (by simpa using hx) (Lib.hid HA) q (Lib.hid hq) (Lib.hid hqx) HCQ HPQ
  · have HQ : Hid (NoR s) := Lib.hid (fun o' q' e => by rw [hq] at e; obtain ⟨rfl, rfl⟩ := Prod.mk.inj e; exact hok)
    by_cases hx : x = 0
    · subst hx
      have hz := HA.size
      have hp := rep_pos HA
      exact way_y_no w ye0 yoff0 yn0 ygen0 yFA0 yfound0 yfc0 yPA0 yparts0 ypc0 yF0 yP0 a1 a2 r HR HCR s hs z1 HSZ a (Lib.hid HA) (Lib.hid HA.got) (Lib.hid HA.ok.1) hz hp (Lib.hid (by rw [ByteArray.size_append]; omega)) (by simp; omega) (Lib.hid (HA.more _ zn)) _ rfl (Lib.hid (by rw [ByteArray.size_extract]; omega)) (Lib.hid (HA.less hp)) HQ
    · have ha : a = ⟨#[]⟩ := by have := HA.2; rwa [if_neg hx] at this
      subst ha
      exact way_x_no w ye0 yoff0 yn0 ygen0 yFA0 yfound0 yfc0 yPA0 yparts0 ypc0 yF0 yP0 a1 a2 r HR HCR s hs z1 HSZ x (by simpa using hx) (Lib.hid HA) HQ

set_option maxRecDepth 100000 in
theorem lifted (os : Os) (started : os.Started) (H : Type) (enc : TypeId × Value → H) :
    ReturnsInHanded {} Try.checked os 6 .any (Rows.requestAnswersSpec.pre6 enc Try.prog Try.f6 Rows.requestAnswersRow.domain false) (Rows.requestAnswersSpec.post enc Try.prog Try.f6 false true false false) := by
  refine returnsInHanded_of_change (C := Try.checked) own started (by kernel_rfl) Try.func6
    (ChangeSpec.witness6 (enc := enc) (C := Try.checked) false ⟨#[], #[.agg #[.int .i64 0, .int .i64 0, .int .i64 0, .int .i64 0, .slice none 0 0, .slice none 0 0], .string ByteArray.empty, .int .u8 0], []⟩ 8 (by kernel_rfl) (by kernel_rfl) (by kernel_rfl) (by kernel_rfl)) ?_
  intro W base args ds gs before hval0 hW _ _
  have hval : ∀ (j : Nat) t v, Try.f6.params[j]? = some t → args[j]? = some v → Value.okWide Try.prog W .any base t v := hval0
  have hW' := hW
  obtain ⟨p, q, hA0, hV, rfl, hfz, hnd⟩ := hW
  have hA : DataW.TrodAll enc Try.prog W 0 (fun _ => true) true Try.f6.params.toList args.toList ds p := hA0
  rw [Try.params6] at hA hval
  obtain ⟨v0, vs0, d0, ds0, p0, q0, hargs, rfl, rfl, h0, r0⟩ := trodAll_cons hA
  obtain ⟨v1, vs1, d1, ds1, p1, q1, rfl, rfl, rfl, h1, r1⟩ := trodAll_cons r0
  obtain ⟨v2, vs2, d2, ds2, p2, q2, rfl, rfl, rfl, h2, r2⟩ := trodAll_cons r1
  obtain ⟨rfl, rfl, rfl⟩ := trodAll_nil r2
  obtain rfl : args = #[v0, v1, v2] := by cases args; simp_all
  obtain ⟨rfl, rfl⟩ := trodVars_none hV
  have k0 := h0
  have lt0 : ∀ x ∈ p0, x.block < W.heap.size := by obtain ⟨m, hm⟩ := k0; exact DataW.trod_lt m _ _ _ hm
  have k1 := h1
  have lt1 : ∀ x ∈ p1, x.block < W.heap.size := by obtain ⟨m, hm⟩ := k1; exact DataW.trod_lt m _ _ _ hm
  have k2 := h2
  have lt2 : ∀ x ∈ p2, x.block < W.heap.size := by obtain ⟨m, hm⟩ := k2; exact DataW.trod_lt m _ _ _ hm
  obtain ⟨ye0, yoff0, yn0, ygen0, yFA0, yfound0, yfc0, yPA0, yparts0, ypc0, e0, yF0, yP0⟩ := L4.open_reply (hval 0 42 v0 rfl rfl) h0
  subst e0
  obtain ⟨a1, e1, _, _, w1⟩ := open_string Try.underlying9 (hval 1 9 v1 rfl rfl) h1
  subst e1
  obtain ⟨a2, e2, _, _, w2⟩ := open_int Try.underlying5 (hval 2 5 v2 rfl rfl) h2
  subst e2
  clear hA0 hval0
  refine (walk W ye0 yoff0 yn0 ygen0 yFA0 yfound0 yfc0 yPA0 yparts0 ypc0 yF0 yP0 a1 w1 a2 w2).mono fun e W' ⟨he, bel⟩ => ?_
  subst he
  exact ⟨_, rfl, _, _, _, [], _, [], hW', trodAll_mk1 (shut_bool Try.underlying4 _), (trodAll_cons_mk (Below.trod laidOut (by kernel_rfl) (of_decide_eq_true (by kernel_rfl)) k0 bel lt0) (trodAll_cons_mk (Below.trod laidOut (by kernel_rfl) (of_decide_eq_true (by kernel_rfl)) k1 bel lt1) (trodAll_cons_mk (Below.trod laidOut (by kernel_rfl) (of_decide_eq_true (by kernel_rfl)) k2 bel lt2) trodAll_mk0))), rfl, bel.frame _, fun h => by cases h⟩

theorem over : Rows.requestAnswersRow.holds Try.pinned (OpenSpec.ofChange Rows.requestAnswersSpec) :=
  OpenClaim.holds_of_wide 6 Try.f6 rfl rfl rfl rfl rfl rfl rfl ⟨rfl, rfl, rfl, rfl, rfl⟩ rfl rfl rfl rfl rfl (by kernel_rfl) Try.func6 (by kernel_rfl)
    (of_decide_eq_true (by kernel_rfl)) (by unfold Func.isWrapper; first | (rw [if_pos (by decide +kernel)]; kernel_rfl) | (rw [if_neg (by decide +kernel)]; exact ⟨rfl, rfl⟩))
    (fun os started H enc _ => lifted os started H enc)

/-- the statement -/
theorem proved : Rows.RequestAnswersSaid :=
  over
#print axioms proved
end Go.Proofs.Ytlhkhccpeohefaa.requestAnswers

