/-
  For every two replies and every text: the bytes of a reply, and the reply of bytes, or what is wrong, are as the document says.
-/
import Derived.Test.YtlhkhccpeohefaaRows
import Derived.WalkKit
import Derived.ProofKit
import Derived.OpenShut
import Derived.ShutString
import Derived.ChangeOld
import Derived.Below
import Derived.Deep.Cut
import Derived.Deep.RegionHeld3
import Derived.Test.YtlhkhccpeohefaaMReqLaw
import Derived.Test.YtlhkhccpeohefaaRepLaw
import Derived.Test.YtlhkhccpeohefaaRepBack2
namespace Go.Proofs.Ytlhkhccpeohefaa.requestReplies
open Go.ChangeShapes Go.WideShapes Go.ChangeAt Go.RowKit
open Go.ChangeMaps (open_string shut_string)
open L3 L4

theorem own : ownKnob Try.prog.godebug = none := by kernel_rfl
theorem laidOut : laidOutB Try.prog = true := by kernel_rfl

structure St2 (w : World) (r q : Rp) (FA PA : Option Addr) (fc pc : Nat) (FAq PAq : Option Addr) (fcq pcq : Nat) (wr : World) : Prop where
  a : SitsR r w.heap.size FA PA fc pc wr
  b : SitsR q (w.heap.size + 1) FAq PAq fcq pcq wr
  c : Below w.heap.size w wr
theorem St2.below {w wr w' : World} {r q : Rp} {FA PA : Option Addr} {fc pc : Nat} {FAq PAq : Option Addr} {fcq pcq : Nat} (h : St2 w r q FA PA fc pc FAq PAq fcq pcq wr) (hb : Below wr.heap.size wr w') : St2 w r q FA PA fc pc FAq PAq fcq pcq w' := ⟨h.a.below hb, h.b.below hb, acc h.c hb⟩
theorem lt_of {r : Rp} {H : Nat} {FA PA : Option Addr} {fc pc : Nat} {w : World} (h : SitsR r H FA PA fc pc w) : H < w.heap.size := (Array.getElem?_eq_some_iff.1 h.row).1
set_option maxRecDepth 100000 in
set_option maxHeartbeats 32000000 in
theorem walked (w : World) (ye0 yoff0 yn0 ygen0 : Int) (yFA0 : Option Addr) (yfound0 : List L4.Fd) (yfc0 : Nat) (yPA0 : Option Addr) (yparts0 : List L4.Pt) (ypc0 : Nat) (yF0 : IsFound w yFA0 yfound0) (yP0 : IsParts w yPA0 yparts0) (ye1 yoff1 yn1 ygen1 : Int) (yFA1 : Option Addr) (yfound1 : List L4.Fd) (yfc1 : Nat) (yPA1 : Option Addr) (yparts1 : List L4.Pt) (ypc1 : Nat) (yF1 : IsFound w yFA1 yfound1) (yP1 : IsParts w yPA1 yparts1) (a2 : ByteArray) (r q : Rp) (HR : Hid (r = cutRp ye0 yoff0 yn0 ygen0 yfound0 yparts0)) (HQ : Hid (q = cutRp ye1 yoff1 yn1 ygen1 yfound1 yparts1)) (HCR : Hid (CutdR r))
    (s : ByteArray) (h1 : a2.extract 0 (min (a2.size : Int) 1500).toNat = s) (z1 : a2.size ≤ maxLen) (HSZ : Hid (s.size ≤ 1500)) (a : ByteArray) (x : Int) (HA : Hid (RepU r a x)) (X : Rp) (E : Int) (HX : Hid (ParU s X E)) (HCX : Hid (CutdR X)) (v : Bool) (HV : Hid (AlikeR v r q)) :
    Calls Try.prog 4 #[.agg #[.int .i64 ye0, .int .i64 yoff0, .int .i64 yn0, .int .i64 ygen0, .slice yFA0 yfound0.length yfc0, .slice yPA0 yparts0.length ypc0], .agg #[.int .i64 ye1, .int .i64 yoff1, .int .i64 yn1, .int .i64 ygen1, .slice yFA1 yfound1.length yfc1, .slice yPA1 yparts1.length ypc1], .string a2] w fun e w' => e = .returned (.bool true) ∧ Below w.heap.size w w' := by
  unfold maxLen at z1
  have HV1 := Lib.hid (AlikeR.refl X)
  go_enter Try.func4, Try.ntmps4
  go_wp2_with fail
  go_at_call 20
  refine (cutr_u ye0 yoff0 yn0 ygen0 yFA0 yPA0 yfound0 yparts0 yfc0 ypc0 w.heap.size _ (Lib.hid (yF0.1.out.below (two_box _ _))) (Lib.hid (yP0.1.out.below (two_box _ _))) (by simp; omega) (Lib.hid yF0.2.2) (Lib.hid yP0.2.2) yF0.2.1 yP0.2.1 r HR).mono ?_
  rintro e w1 ⟨FA, PA, fc, pc, rfl, hat, hb1⟩
  have r0 := (hb1.block w.heap.size (by simp; omega)).trans (heap_alloc2_old w (.cells #[.int .i64 ye0, .int .i64 yoff0, .int .i64 yn0, .int .i64 ygen0, .slice yFA0 yfound0.length yfc0, .slice yPA0 yparts0.length ypc0] 42 (0, 0)) (.cells #[.int .i64 ye1, .int .i64 yoff1, .int .i64 yn1, .int .i64 ygen1, .slice yFA1 yfound1.length yfc1, .slice yPA1 yparts1.length ypc1] 42 (0, 0)))
  have r1 := (hb1.block (w.heap.size + 1) (by simp)).trans (heap_alloc2_new w (.cells #[.int .i64 ye0, .int .i64 yoff0, .int .i64 yn0, .int .i64 ygen0, .slice yFA0 yfound0.length yfc0, .slice yPA0 yparts0.length ypc0] 42 (0, 0)) (.cells #[.int .i64 ye1, .int .i64 yoff1, .int .i64 yn1, .int .i64 ygen1, .slice yFA1 yfound1.length yfc1, .slice yPA1 yparts1.length ypc1] 42 (0, 0)))
  have x0 := row14 (j := 0) r0 rfl; have x1 := row14 (j := 1) r0 rfl; have x2 := row14 (j := 2) r0 rfl; have x3 := row14 (j := 3) r0 rfl; have x4 := row14 (j := 4) r0 rfl; have x5 := row14 (j := 5) r0 rfl; have f0 := frozen_of_row _ _ 0 _ _ r0; have f1 := frozen_of_row _ _ 1 _ _ r0; have f2 := frozen_of_row _ _ 2 _ _ r0; have f3 := frozen_of_row _ _ 3 _ _ r0; have f4 := frozen_of_row _ _ 4 _ _ r0; have f5 := frozen_of_row _ _ 5 _ _ r0;
  have XO : Hid (OwnsR r FA PA fc pc (w.heap.size + 1 + 1) ((((((w1.setCell ⟨w.heap.size, 0, none⟩ (.int .i64 r.e)).setCell ⟨w.heap.size, 1, none⟩ (.int .i64 r.off)).setCell ⟨w.heap.size, 2, none⟩ (.int .i64 r.n)).setCell ⟨w.heap.size, 3, none⟩ (.int .i64 r.gen)).setCell ⟨w.heap.size, 4, none⟩ (.slice FA r.found.length fc)).setCell ⟨w.heap.size, 5, none⟩ (.slice PA r.parts.length pc))) := Lib.hid (by have h := hat.set (G := w.heap.size) (by simp; omega) (.int .i64 r.e) (.int .i64 r.off) (.int .i64 r.n) (.int .i64 r.gen) (.slice FA r.found.length fc) (.slice PA r.parts.length pc); simpa using h)
  have XR := Lib.hid (set6 (v0 := .int .i64 r.e) (v1 := .int .i64 r.off) (v2 := .int .i64 r.n) (v3 := .int .i64 r.gen) (v4 := .slice FA r.found.length fc) (v5 := .slice PA r.parts.length pc) r0)
  have XQ := Lib.hid ((set6_other (v0 := .int .i64 r.e) (v1 := .int .i64 r.off) (v2 := .int .i64 r.n) (v3 := .int .i64 r.gen) (v4 := .slice FA r.found.length fc) (v5 := .slice PA r.parts.length pc) (by omega : w.heap.size + 1 ≠ w.heap.size)).trans r1)
  have XB : Hid (Below w.heap.size w ((((((w1.setCell ⟨w.heap.size, 0, none⟩ (.int .i64 r.e)).setCell ⟨w.heap.size, 1, none⟩ (.int .i64 r.off)).setCell ⟨w.heap.size, 2, none⟩ (.int .i64 r.n)).setCell ⟨w.heap.size, 3, none⟩ (.int .i64 r.gen)).setCell ⟨w.heap.size, 4, none⟩ (.slice FA r.found.length fc)).setCell ⟨w.heap.size, 5, none⟩ (.slice PA r.parts.length pc))) := Lib.hid (set6_below ((two_box _ _).trans (hb1.mono (by simp; omega))) (Nat.le_refl _) _ _ _ _ _ _)
  clear r0 r1 hat hb1
  go_upto_region 2 with (fail)
  clear x0 x1 x2 x3 x4 x5 f0 f1 f2 f3 f4 f5
  generalize ((((((w1.setCell ⟨w.heap.size, 0, none⟩ (.int .i64 r.e)).setCell ⟨w.heap.size, 1, none⟩ (.int .i64 r.off)).setCell ⟨w.heap.size, 2, none⟩ (.int .i64 r.n)).setCell ⟨w.heap.size, 3, none⟩ (.int .i64 r.gen)).setCell ⟨w.heap.size, 4, none⟩ (.slice FA r.found.length fc)).setCell ⟨w.heap.size, 5, none⟩ (.slice PA r.parts.length pc)) = W1 at XO XR XQ XB ⊢
  have hw1 : w.heap.size + 1 < W1.heap.size := (Array.getElem?_eq_some_iff.1 XQ.out).1
  have y0 := row14 (j := 0) XQ.out rfl; have y1 := row14 (j := 1) XQ.out rfl; have y2 := row14 (j := 2) XQ.out rfl; have y3 := row14 (j := 3) XQ.out rfl; have y4 := row14 (j := 4) XQ.out rfl; have y5 := row14 (j := 5) XQ.out rfl;
  go_wp2_with fail
  clear y0 y1 y2 y3 y4 y5
  go_at_call 20
  refine (cutr_u ye1 yoff1 yn1 ygen1 yFA1 yPA1 yfound1 yparts1 yfc1 ypc1 w.heap.size _ (Lib.hid (yF1.1.out.below XB.out)) (Lib.hid (yP1.1.out.below XB.out)) XB.out.size (Lib.hid yF1.2.2) (Lib.hid yP1.2.2) yF1.2.1 yP1.2.1 q HQ).mono ?_
  rintro e w2 ⟨FAq, PAq, fcq, pcq, rfl, hat, hb2⟩
  have r0 := (hb2.block w.heap.size (by omega)).trans XR.out
  have r1 := (hb2.block (w.heap.size + 1) hw1).trans XQ.out
  have y0 := row14 (j := 0) r1 rfl; have y1 := row14 (j := 1) r1 rfl; have y2 := row14 (j := 2) r1 rfl; have y3 := row14 (j := 3) r1 rfl; have y4 := row14 (j := 4) r1 rfl; have y5 := row14 (j := 5) r1 rfl; have f0 := frozen_of_row _ _ 0 _ _ r1; have f1 := frozen_of_row _ _ 1 _ _ r1; have f2 := frozen_of_row _ _ 2 _ _ r1; have f3 := frozen_of_row _ _ 3 _ _ r1; have f4 := frozen_of_row _ _ 4 _ _ r1; have f5 := frozen_of_row _ _ 5 _ _ r1;
  have S2 : Hid (St2 w r q FA PA fc pc FAq PAq fcq pcq ((((((w2.setCell ⟨w.heap.size + 1, 0, none⟩ (.int .i64 q.e)).setCell ⟨w.heap.size + 1, 1, none⟩ (.int .i64 q.off)).setCell ⟨w.heap.size + 1, 2, none⟩ (.int .i64 q.n)).setCell ⟨w.heap.size + 1, 3, none⟩ (.int .i64 q.gen)).setCell ⟨w.heap.size + 1, 4, none⟩ (.slice FAq q.found.length fcq)).setCell ⟨w.heap.size + 1, 5, none⟩ (.slice PAq q.parts.length pcq))) := Lib.hid
    ⟨⟨(set6_other (by omega)).trans r0, ((XO.out.below hb2).set (Nat.lt_succ_self _) _ _ _ _ _ _).at⟩, ⟨set6 r1, (hat.set hw1 _ _ _ _ _ _).at⟩, set6_below (acc XB.out hb2) (Nat.le_succ _) _ _ _ _ _ _⟩
  clear r0 r1 hat hb2 hw1 XO XR XQ XB
  go_upto_region 3 with (fail)
  clear y0 y1 y2 y3 y4 y5 f0 f1 f2 f3 f4 f5
  generalize ((((((w2.setCell ⟨w.heap.size + 1, 0, none⟩ (.int .i64 q.e)).setCell ⟨w.heap.size + 1, 1, none⟩ (.int .i64 q.off)).setCell ⟨w.heap.size + 1, 2, none⟩ (.int .i64 q.n)).setCell ⟨w.heap.size + 1, 3, none⟩ (.int .i64 q.gen)).setCell ⟨w.heap.size + 1, 4, none⟩ (.slice FAq q.found.length fcq)).setCell ⟨w.heap.size + 1, 5, none⟩ (.slice PAq q.parts.length pcq)) = W2 at S2 ⊢
  go_upto_region 4 with (fail)
  clear h1 z1
  as_aux_lemma =>
  have x0 := row14 (j := 0) S2.out.a.row rfl; have x1 := row14 (j := 1) S2.out.a.row rfl; have x2 := row14 (j := 2) S2.out.a.row rfl; have x3 := row14 (j := 3) S2.out.a.row rfl; have x4 := row14 (j := 4) S2.out.a.row rfl; have x5 := row14 (j := 5) S2.out.a.row rfl;
  go_upto_region 8 with (first
    | (have _q := S5; go_at_call 24; refine (rparse_u s X E _ (by have := HSZ.out; omega) HX).mono ?_; rintro e w7 ⟨FAz, PAz, fcz, pcz, rfl, oF, oP, hb7⟩; have S7 := Lib.hid (S6.out.below hb7); have SX7 := Lib.hid (SX.out.below hb7); have AZ := Lib.hid (OwnsR.at (⟨oF, oP⟩ : OwnsR X FAz PAz fcz pcz _ w7)); clear oF oP hb7)
    | (have _q := S5; go_at_call 23; refine (parse_u s X E _ (by have := HSZ.out; omega) HX).mono ?_; rintro e w6 ⟨FAx, PAx, fcx, pcx, rfl, oF, oP, hb6⟩; have S6 := Lib.hid ((S5.out.below hb6).below (one_box (.cells #[.int .i64 X.e, .int .i64 X.off, .int .i64 X.n, .int .i64 X.gen, .slice FAx X.found.length fcx, .slice PAx X.parts.length pcx] 42 (0, 0)))); have SX : Hid (SitsR X w6.heap.size FAx PAx fcx pcx (w6.alloc (.cells #[.int .i64 X.e, .int .i64 X.off, .int .i64 X.n, .int .i64 X.gen, .slice FAx X.found.length fcx, .slice PAx X.parts.length pcx] 42 (0, 0)))) := Lib.hid ⟨heap_alloc_new w6 _, (OwnsR.at (⟨oF, oP⟩ : OwnsR X FAx PAx fcx pcx _ w6)).below (one_box _)⟩; clear oF oP hb6)
    | (have _q := S4; go_at_call 22; refine (rreply_u r FA PA fc pc _ HCR (Lib.hid S4.out.a.at_) a x HA).mono ?_; rintro e w5 ⟨rfl, hb5⟩; have S5 := Lib.hid (S4.out.below hb5); clear x0 x1 x2 x3 x4 x5; clear hb5)
    | (go_at_call 21; refine (reply_u r FA PA fc pc _ HCR (Lib.hid S2.out.a.at_) a x HA).mono ?_; rintro e w4 ⟨rfl, hb4⟩; have S4 := Lib.hid (S2.out.below hb4); clear x0 x1 x2 x3 x4 x5; have x0 := row14 (j := 0) S4.out.a.row rfl; have x1 := row14 (j := 1) S4.out.a.row rfl; have x2 := row14 (j := 2) S4.out.a.row rfl; have x3 := row14 (j := 3) S4.out.a.row rfl; have x4 := row14 (j := 4) S4.out.a.row rfl; have x5 := row14 (j := 5) S4.out.a.row rfl; clear hb4))
  have T := Lib.hid (S7.out.below (one_box (.cells #[.int .i64 X.e, .int .i64 X.off, .int .i64 X.n, .int .i64 X.gen, .slice FAz X.found.length fcz, .slice PAz X.parts.length pcz] 42 (0, 0))))
  have TX := Lib.hid (SX7.out.below (one_box (.cells #[.int .i64 X.e, .int .i64 X.off, .int .i64 X.n, .int .i64 X.gen, .slice FAz X.found.length fcz, .slice PAz X.parts.length pcz] 42 (0, 0))))
  have TY : Hid (SitsR X w7.heap.size FAz PAz fcz pcz (w7.alloc (.cells #[.int .i64 X.e, .int .i64 X.off, .int .i64 X.n, .int .i64 X.gen, .slice FAz X.found.length fcz, .slice PAz X.parts.length pcz] 42 (0, 0)))) := Lib.hid ⟨heap_alloc_new w7 _, AZ.out.below (one_box _)⟩
  clear S2 S4 S5 S6 S7 SX SX7 AZ
  generalize w7.alloc (.cells #[.int .i64 X.e, .int .i64 X.off, .int .i64 X.n, .int .i64 X.gen, .slice FAz X.found.length fcz, .slice PAz X.parts.length pcz] 42 (0, 0)) = W7 at T TX TY ⊢
  generalize w6.heap.size = HX at TX ⊢
  generalize w7.heap.size = HY at TY ⊢
  have KC : Hid (∀ wa, Below W7.heap.size W7 wa → (((wa.cell? ⟨w.heap.size, 0, none⟩ = some (.int .i64 r.e) ∧ wa.cell? ⟨w.heap.size, 1, none⟩ = some (.int .i64 r.off) ∧ wa.cell? ⟨w.heap.size, 2, none⟩ = some (.int .i64 r.n) ∧ wa.cell? ⟨w.heap.size, 3, none⟩ = some (.int .i64 r.gen) ∧ wa.cell? ⟨w.heap.size, 4, none⟩ = some (.slice FA r.found.length fc) ∧ wa.cell? ⟨w.heap.size, 5, none⟩ = some (.slice PA r.parts.length pc)) ∧ (wa.cell? ⟨w.heap.size + 1, 0, none⟩ = some (.int .i64 q.e) ∧ wa.cell? ⟨w.heap.size + 1, 1, none⟩ = some (.int .i64 q.off) ∧ wa.cell? ⟨w.heap.size + 1, 2, none⟩ = some (.int .i64 q.n) ∧ wa.cell? ⟨w.heap.size + 1, 3, none⟩ = some (.int .i64 q.gen) ∧ wa.cell? ⟨w.heap.size + 1, 4, none⟩ = some (.slice FAq q.found.length fcq) ∧ wa.cell? ⟨w.heap.size + 1, 5, none⟩ = some (.slice PAq q.parts.length pcq)) ∧ (wa.cell? ⟨HX, 0, none⟩ = some (.int .i64 X.e) ∧ wa.cell? ⟨HX, 1, none⟩ = some (.int .i64 X.off) ∧ wa.cell? ⟨HX, 2, none⟩ = some (.int .i64 X.n) ∧ wa.cell? ⟨HX, 3, none⟩ = some (.int .i64 X.gen) ∧ wa.cell? ⟨HX, 4, none⟩ = some (.slice FAx X.found.length fcx) ∧ wa.cell? ⟨HX, 5, none⟩ = some (.slice PAx X.parts.length pcx)) ∧ (wa.cell? ⟨HY, 0, none⟩ = some (.int .i64 X.e) ∧ wa.cell? ⟨HY, 1, none⟩ = some (.int .i64 X.off) ∧ wa.cell? ⟨HY, 2, none⟩ = some (.int .i64 X.n) ∧ wa.cell? ⟨HY, 3, none⟩ = some (.int .i64 X.gen) ∧ wa.cell? ⟨HY, 4, none⟩ = some (.slice FAz X.found.length fcz) ∧ wa.cell? ⟨HY, 5, none⟩ = some (.slice PAz X.parts.length pcz))) ∧ Below W7.heap.size W7 wa)) := Lib.hid (fun wa hb => by
    have q0 := (hb.block w.heap.size (lt_of T.out.a)).trans T.out.a.row
    have q1 := (hb.block (w.heap.size + 1) (lt_of T.out.b)).trans T.out.b.row
    have q2 := (hb.block HX (lt_of TX.out)).trans TX.out.row
    have q3 := (hb.block HY (lt_of TY.out)).trans TY.out.row
    exact ⟨⟨⟨row14 (j := 0) q0 rfl, row14 (j := 1) q0 rfl, row14 (j := 2) q0 rfl, row14 (j := 3) q0 rfl, row14 (j := 4) q0 rfl, row14 (j := 5) q0 rfl⟩, ⟨row14 (j := 0) q1 rfl, row14 (j := 1) q1 rfl, row14 (j := 2) q1 rfl, row14 (j := 3) q1 rfl, row14 (j := 4) q1 rfl, row14 (j := 5) q1 rfl⟩, ⟨row14 (j := 0) q2 rfl, row14 (j := 1) q2 rfl, row14 (j := 2) q2 rfl, row14 (j := 3) q2 rfl, row14 (j := 4) q2 rfl, row14 (j := 5) q2 rfl⟩, ⟨row14 (j := 0) q3 rfl, row14 (j := 1) q3 rfl, row14 (j := 2) q3 rfl, row14 (j := 3) q3 rfl, row14 (j := 4) q3 rfl, row14 (j := 5) q3 rfl⟩⟩, hb⟩)
  have KT : Hid (∀ wa wb, (((wa.cell? ⟨w.heap.size, 0, none⟩ = some (.int .i64 r.e) ∧ wa.cell? ⟨w.heap.size, 1, none⟩ = some (.int .i64 r.off) ∧ wa.cell? ⟨w.heap.size, 2, none⟩ = some (.int .i64 r.n) ∧ wa.cell? ⟨w.heap.size, 3, none⟩ = some (.int .i64 r.gen) ∧ wa.cell? ⟨w.heap.size, 4, none⟩ = some (.slice FA r.found.length fc) ∧ wa.cell? ⟨w.heap.size, 5, none⟩ = some (.slice PA r.parts.length pc)) ∧ (wa.cell? ⟨w.heap.size + 1, 0, none⟩ = some (.int .i64 q.e) ∧ wa.cell? ⟨w.heap.size + 1, 1, none⟩ = some (.int .i64 q.off) ∧ wa.cell? ⟨w.heap.size + 1, 2, none⟩ = some (.int .i64 q.n) ∧ wa.cell? ⟨w.heap.size + 1, 3, none⟩ = some (.int .i64 q.gen) ∧ wa.cell? ⟨w.heap.size + 1, 4, none⟩ = some (.slice FAq q.found.length fcq) ∧ wa.cell? ⟨w.heap.size + 1, 5, none⟩ = some (.slice PAq q.parts.length pcq)) ∧ (wa.cell? ⟨HX, 0, none⟩ = some (.int .i64 X.e) ∧ wa.cell? ⟨HX, 1, none⟩ = some (.int .i64 X.off) ∧ wa.cell? ⟨HX, 2, none⟩ = some (.int .i64 X.n) ∧ wa.cell? ⟨HX, 3, none⟩ = some (.int .i64 X.gen) ∧ wa.cell? ⟨HX, 4, none⟩ = some (.slice FAx X.found.length fcx) ∧ wa.cell? ⟨HX, 5, none⟩ = some (.slice PAx X.parts.length pcx)) ∧ (wa.cell? ⟨HY, 0, none⟩ = some (.int .i64 X.e) ∧ wa.cell? ⟨HY, 1, none⟩ = some (.int .i64 X.off) ∧ wa.cell? ⟨HY, 2, none⟩ = some (.int .i64 X.n) ∧ wa.cell? ⟨HY, 3, none⟩ = some (.int .i64 X.gen) ∧ wa.cell? ⟨HY, 4, none⟩ = some (.slice FAz X.found.length fcz) ∧ wa.cell? ⟨HY, 5, none⟩ = some (.slice PAz X.parts.length pcz))) ∧ Below W7.heap.size W7 wa) → Below wa.heap.size wa wb → (((wb.cell? ⟨w.heap.size, 0, none⟩ = some (.int .i64 r.e) ∧ wb.cell? ⟨w.heap.size, 1, none⟩ = some (.int .i64 r.off) ∧ wb.cell? ⟨w.heap.size, 2, none⟩ = some (.int .i64 r.n) ∧ wb.cell? ⟨w.heap.size, 3, none⟩ = some (.int .i64 r.gen) ∧ wb.cell? ⟨w.heap.size, 4, none⟩ = some (.slice FA r.found.length fc) ∧ wb.cell? ⟨w.heap.size, 5, none⟩ = some (.slice PA r.parts.length pc)) ∧ (wb.cell? ⟨w.heap.size + 1, 0, none⟩ = some (.int .i64 q.e) ∧ wb.cell? ⟨w.heap.size + 1, 1, none⟩ = some (.int .i64 q.off) ∧ wb.cell? ⟨w.heap.size + 1, 2, none⟩ = some (.int .i64 q.n) ∧ wb.cell? ⟨w.heap.size + 1, 3, none⟩ = some (.int .i64 q.gen) ∧ wb.cell? ⟨w.heap.size + 1, 4, none⟩ = some (.slice FAq q.found.length fcq) ∧ wb.cell? ⟨w.heap.size + 1, 5, none⟩ = some (.slice PAq q.parts.length pcq)) ∧ (wb.cell? ⟨HX, 0, none⟩ = some (.int .i64 X.e) ∧ wb.cell? ⟨HX, 1, none⟩ = some (.int .i64 X.off) ∧ wb.cell? ⟨HX, 2, none⟩ = some (.int .i64 X.n) ∧ wb.cell? ⟨HX, 3, none⟩ = some (.int .i64 X.gen) ∧ wb.cell? ⟨HX, 4, none⟩ = some (.slice FAx X.found.length fcx) ∧ wb.cell? ⟨HX, 5, none⟩ = some (.slice PAx X.parts.length pcx)) ∧ (wb.cell? ⟨HY, 0, none⟩ = some (.int .i64 X.e) ∧ wb.cell? ⟨HY, 1, none⟩ = some (.int .i64 X.off) ∧ wb.cell? ⟨HY, 2, none⟩ = some (.int .i64 X.n) ∧ wb.cell? ⟨HY, 3, none⟩ = some (.int .i64 X.gen) ∧ wb.cell? ⟨HY, 4, none⟩ = some (.slice FAz X.found.length fcz) ∧ wb.cell? ⟨HY, 5, none⟩ = some (.slice PAz X.parts.length pcz))) ∧ Below W7.heap.size W7 wb)) := Lib.hid (fun wa wb h hb => KC.out wb (acc h.2 hb))
  have KA : Hid (∀ wa, (((wa.cell? ⟨w.heap.size, 0, none⟩ = some (.int .i64 r.e) ∧ wa.cell? ⟨w.heap.size, 1, none⟩ = some (.int .i64 r.off) ∧ wa.cell? ⟨w.heap.size, 2, none⟩ = some (.int .i64 r.n) ∧ wa.cell? ⟨w.heap.size, 3, none⟩ = some (.int .i64 r.gen) ∧ wa.cell? ⟨w.heap.size, 4, none⟩ = some (.slice FA r.found.length fc) ∧ wa.cell? ⟨w.heap.size, 5, none⟩ = some (.slice PA r.parts.length pc)) ∧ (wa.cell? ⟨w.heap.size + 1, 0, none⟩ = some (.int .i64 q.e) ∧ wa.cell? ⟨w.heap.size + 1, 1, none⟩ = some (.int .i64 q.off) ∧ wa.cell? ⟨w.heap.size + 1, 2, none⟩ = some (.int .i64 q.n) ∧ wa.cell? ⟨w.heap.size + 1, 3, none⟩ = some (.int .i64 q.gen) ∧ wa.cell? ⟨w.heap.size + 1, 4, none⟩ = some (.slice FAq q.found.length fcq) ∧ wa.cell? ⟨w.heap.size + 1, 5, none⟩ = some (.slice PAq q.parts.length pcq)) ∧ (wa.cell? ⟨HX, 0, none⟩ = some (.int .i64 X.e) ∧ wa.cell? ⟨HX, 1, none⟩ = some (.int .i64 X.off) ∧ wa.cell? ⟨HX, 2, none⟩ = some (.int .i64 X.n) ∧ wa.cell? ⟨HX, 3, none⟩ = some (.int .i64 X.gen) ∧ wa.cell? ⟨HX, 4, none⟩ = some (.slice FAx X.found.length fcx) ∧ wa.cell? ⟨HX, 5, none⟩ = some (.slice PAx X.parts.length pcx)) ∧ (wa.cell? ⟨HY, 0, none⟩ = some (.int .i64 X.e) ∧ wa.cell? ⟨HY, 1, none⟩ = some (.int .i64 X.off) ∧ wa.cell? ⟨HY, 2, none⟩ = some (.int .i64 X.n) ∧ wa.cell? ⟨HY, 3, none⟩ = some (.int .i64 X.gen) ∧ wa.cell? ⟨HY, 4, none⟩ = some (.slice FAz X.found.length fcz) ∧ wa.cell? ⟨HY, 5, none⟩ = some (.slice PAz X.parts.length pcz))) ∧ Below W7.heap.size W7 wa) → AtR r FA PA wa ∧ AtR q FAq PAq wa ∧ AtR X FAx PAx wa ∧ AtR X FAz PAz wa) := Lib.hid (fun wa h => ⟨T.out.a.at_.below h.2, T.out.b.at_.below h.2, TX.out.at_.below h.2, TY.out.at_.below h.2⟩)
  as_aux_lemma =>
  go_region_held3 (fun w' => ((w'.cell? ⟨w.heap.size, 0, none⟩ = some (.int .i64 r.e) ∧ w'.cell? ⟨w.heap.size, 1, none⟩ = some (.int .i64 r.off) ∧ w'.cell? ⟨w.heap.size, 2, none⟩ = some (.int .i64 r.n) ∧ w'.cell? ⟨w.heap.size, 3, none⟩ = some (.int .i64 r.gen) ∧ w'.cell? ⟨w.heap.size, 4, none⟩ = some (.slice FA r.found.length fc) ∧ w'.cell? ⟨w.heap.size, 5, none⟩ = some (.slice PA r.parts.length pc)) ∧ (w'.cell? ⟨w.heap.size + 1, 0, none⟩ = some (.int .i64 q.e) ∧ w'.cell? ⟨w.heap.size + 1, 1, none⟩ = some (.int .i64 q.off) ∧ w'.cell? ⟨w.heap.size + 1, 2, none⟩ = some (.int .i64 q.n) ∧ w'.cell? ⟨w.heap.size + 1, 3, none⟩ = some (.int .i64 q.gen) ∧ w'.cell? ⟨w.heap.size + 1, 4, none⟩ = some (.slice FAq q.found.length fcq) ∧ w'.cell? ⟨w.heap.size + 1, 5, none⟩ = some (.slice PAq q.parts.length pcq)) ∧ (w'.cell? ⟨HX, 0, none⟩ = some (.int .i64 X.e) ∧ w'.cell? ⟨HX, 1, none⟩ = some (.int .i64 X.off) ∧ w'.cell? ⟨HX, 2, none⟩ = some (.int .i64 X.n) ∧ w'.cell? ⟨HX, 3, none⟩ = some (.int .i64 X.gen) ∧ w'.cell? ⟨HX, 4, none⟩ = some (.slice FAx X.found.length fcx) ∧ w'.cell? ⟨HX, 5, none⟩ = some (.slice PAx X.parts.length pcx)) ∧ (w'.cell? ⟨HY, 0, none⟩ = some (.int .i64 X.e) ∧ w'.cell? ⟨HY, 1, none⟩ = some (.int .i64 X.off) ∧ w'.cell? ⟨HY, 2, none⟩ = some (.int .i64 X.n) ∧ w'.cell? ⟨HY, 3, none⟩ = some (.int .i64 X.gen) ∧ w'.cell? ⟨HY, 4, none⟩ = some (.slice FAz X.found.length fcz) ∧ w'.cell? ⟨HY, 5, none⟩ = some (.slice PAz X.parts.length pcz))) ∧ Below W7.heap.size W7 w')
    (first | with_reducible assumption | exact KC.out _ (Below.refl _ _).drew | exact KT.out _ _ (by assumption) (by assumption))
    (first
      | (go_at_call 25; (with_reducible refine (ralike_o X FAx PAx fcx pcx X FAz PAz fcz pcz true (Lib.hid (KA.out _ (by assumption)).2.2.1) (Lib.hid (KA.out _ (by assumption)).2.2.2) HCX HV1).mono ?_); rintro e wa ⟨rfl, hba⟩)
      | (go_at_call 25; (with_reducible refine (ralike_o r FA PA fc pc q FAq PAq fcq pcq v (Lib.hid (KA.out _ (by assumption)).1) (Lib.hid (KA.out _ (by assumption)).2.1) HCR HV).mono ?_); rintro e wb ⟨rfl, hbb⟩)
      | (go_at_call 26; (with_reducible refine (alike_o r FA PA fc pc q FAq PAq fcq pcq v (Lib.hid (KA.out _ (by assumption)).1) (Lib.hid (KA.out _ (by assumption)).2.1) HCR HV).mono ?_); rintro e wd ⟨rfl, hbd⟩)
      | (go_at_call 19; refine (fixed4_any _).mono ?_; rintro e wx ⟨rfl, hbx⟩))
  all_goals
    rename_i hh
    go_wp2_with fail
    go_ret
    exact ⟨rfl, acc T.out.c hh.2⟩
theorem walk (w : World) (ye0 yoff0 yn0 ygen0 : Int) (yFA0 : Option Addr) (yfound0 : List L4.Fd) (yfc0 : Nat) (yPA0 : Option Addr) (yparts0 : List L4.Pt) (ypc0 : Nat) (yF0 : IsFound w yFA0 yfound0) (yP0 : IsParts w yPA0 yparts0) (ye1 yoff1 yn1 ygen1 : Int) (yFA1 : Option Addr) (yfound1 : List L4.Fd) (yfc1 : Nat) (yPA1 : Option Addr) (yparts1 : List L4.Pt) (ypc1 : Nat) (yF1 : IsFound w yFA1 yfound1) (yP1 : IsParts w yPA1 yparts1) (a2 : ByteArray) (z1 : a2.size ≤ maxLen) :
    Calls Try.prog 4 #[.agg #[.int .i64 ye0, .int .i64 yoff0, .int .i64 yn0, .int .i64 ygen0, .slice yFA0 yfound0.length yfc0, .slice yPA0 yparts0.length ypc0], .agg #[.int .i64 ye1, .int .i64 yoff1, .int .i64 yn1, .int .i64 ygen1, .slice yFA1 yfound1.length yfc1, .slice yPA1 yparts1.length ypc1], .string a2] w fun e w' => e = .returned (.bool true) ∧ Below w.heap.size w w' := by
  obtain ⟨r, hr⟩ : ∃ r, r = cutRp ye0 yoff0 yn0 ygen0 yfound0 yparts0 := ⟨_, rfl⟩
  obtain ⟨q, hq⟩ : ∃ q, q = cutRp ye1 yoff1 yn1 ygen1 yfound1 yparts1 := ⟨_, rfl⟩
  have HCR : Hid (CutdR r) := Lib.hid (by rw [hr]; exact cutRp_cut _ _ _ _ _ _)
  obtain ⟨s, hs⟩ : ∃ s, a2.extract 0 (min (a2.size : Int) 1500).toNat = s := ⟨_, rfl⟩
  have HSZ : Hid (s.size ≤ 1500) := Lib.hid (by rw [← hs]; exact cutS_size a2 1500)
  obtain ⟨a, x, HA⟩ := RepU.ex r
  obtain ⟨X, E, HX⟩ := ParU.ex s
  obtain ⟨v, HV⟩ := AlikeR.ex r q
  exact walked w ye0 yoff0 yn0 ygen0 yFA0 yfound0 yfc0 yPA0 yparts0 ypc0 yF0 yP0 ye1 yoff1 yn1 ygen1 yFA1 yfound1 yfc1 yPA1 yparts1 ypc1 yF1 yP1 a2 r q (Lib.hid hr) (Lib.hid hq) HCR s hs z1 HSZ a x (Lib.hid HA) X E (Lib.hid HX) (Lib.hid HX.cutd) v (Lib.hid HV)

set_option maxRecDepth 100000 in
theorem lifted (os : Os) (started : os.Started) (H : Type) (enc : TypeId × Value → H) :
    ReturnsInHanded {} Try.checked os 4 .any (Rows.requestRepliesSpec.pre6 enc Try.prog Try.f4 Rows.requestRepliesRow.domain false) (Rows.requestRepliesSpec.post enc Try.prog Try.f4 false true false false) := by
  refine returnsInHanded_of_change (C := Try.checked) own started (by kernel_rfl) Try.func4
    (ChangeSpec.witness6 (enc := enc) (C := Try.checked) false ⟨#[], #[.agg #[.int .i64 0, .int .i64 0, .int .i64 0, .int .i64 0, .slice none 0 0, .slice none 0 0], .agg #[.int .i64 0, .int .i64 0, .int .i64 0, .int .i64 0, .slice none 0 0, .slice none 0 0], .string ByteArray.empty], []⟩ 8 (by kernel_rfl) (by kernel_rfl) (by kernel_rfl) (by kernel_rfl)) ?_
  intro W base args ds gs before hval0 hW _ _
  have hval : ∀ (j : Nat) t v, Try.f4.params[j]? = some t → args[j]? = some v → Value.okWide Try.prog W .any base t v := hval0
  have hW' := hW
  obtain ⟨p, q, hA0, hV, rfl, hfz, hnd⟩ := hW
  have hA : DataW.TrodAll enc Try.prog W 0 (fun _ => true) true Try.f4.params.toList args.toList ds p := hA0
  rw [Try.params4] at hA hval
  obtain ⟨v0, vs0, d0, ds0, p0, q0, hargs, rfl, rfl, h0, r0⟩ := trodAll_cons hA
  obtain ⟨v1, vs1, d1, ds1, p1, q1, rfl, rfl, rfl, h1, r1⟩ := trodAll_cons r0
  obtain ⟨v2, vs2, d2, ds2, p2, q2, rfl, rfl, rfl, h2, r2⟩ := trodAll_cons r1
  obtain ⟨rfl, rfl, rfl⟩ := trodAll_nil r2
  obtain rfl : args = #[v0, v1, v2] := by cases args; simp_all
  obtain ⟨rfl, rfl⟩ := trodVars_none hV
  have k0 := h0
  have lt0 : ∀ x ∈ p0, x.block < W.heap.size := by obtain ⟨m, hm⟩ := k0; exact DataW.trod_lt m _ _ _ hm
  have k1 := h1
  have lt1 : ∀ x ∈ p1, x.block < W.heap.size := by obtain ⟨m, hm⟩ := k1; exact DataW.trod_lt m _ _ _ hm
  have k2 := h2
  have lt2 : ∀ x ∈ p2, x.block < W.heap.size := by obtain ⟨m, hm⟩ := k2; exact DataW.trod_lt m _ _ _ hm
  obtain ⟨ye0, yoff0, yn0, ygen0, yFA0, yfound0, yfc0, yPA0, yparts0, ypc0, e0, yF0, yP0⟩ := L4.open_reply (hval 0 42 v0 rfl rfl) h0
  subst e0
  obtain ⟨ye1, yoff1, yn1, ygen1, yFA1, yfound1, yfc1, yPA1, yparts1, ypc1, e1, yF1, yP1⟩ := L4.open_reply (hval 1 42 v1 rfl rfl) h1
  subst e1
  obtain ⟨a2, e2, _, _, w2⟩ := open_string Try.underlying9 (hval 2 9 v2 rfl rfl) h2
  subst e2
  clear hA0 hval0
  refine (walk W ye0 yoff0 yn0 ygen0 yFA0 yfound0 yfc0 yPA0 yparts0 ypc0 yF0 yP0 ye1 yoff1 yn1 ygen1 yFA1 yfound1 yfc1 yPA1 yparts1 ypc1 yF1 yP1 a2 w2).mono fun e W' ⟨he, bel⟩ => ?_
  subst he
  exact ⟨_, rfl, _, _, _, [], _, [], hW', trodAll_mk1 (shut_bool Try.underlying4 _), (trodAll_cons_mk (Below.trod laidOut (by kernel_rfl) (of_decide_eq_true (by kernel_rfl)) k0 bel lt0) (trodAll_cons_mk (Below.trod laidOut (by kernel_rfl) (of_decide_eq_true (by kernel_rfl)) k1 bel lt1) (trodAll_cons_mk (Below.trod laidOut (by kernel_rfl) (of_decide_eq_true (by kernel_rfl)) k2 bel lt2) trodAll_mk0))), rfl, bel.frame _, fun h => by cases h⟩

theorem over : Rows.requestRepliesRow.holds Try.pinned (OpenSpec.ofChange Rows.requestRepliesSpec) :=
  OpenClaim.holds_of_wide 4 Try.f4 rfl rfl rfl rfl rfl rfl rfl ⟨rfl, rfl, rfl, rfl, rfl⟩ rfl rfl rfl rfl rfl (by kernel_rfl) Try.func4 (by kernel_rfl)
    (of_decide_eq_true (by kernel_rfl)) (by unfold Func.isWrapper; first | (rw [if_pos (by decide +kernel)]; kernel_rfl) | (rw [if_neg (by decide +kernel)]; exact ⟨rfl, rfl⟩))
    (fun os started H enc _ => lifted os started H enc)

/-- the statement -/
theorem proved : Rows.RequestRepliesSaid :=
  over
#print axioms proved
end Go.Proofs.Ytlhkhccpeohefaa.requestReplies

