/-
  For every command: one that may be, with one thing more than its kind has, may not.
-/
import Derived.Test.YtlhkhccpeohefaaRows
import Derived.WalkKit
import Derived.ProofKit
import Derived.OpenShut
import Derived.ShutString
import Derived.ChangeOld
import Derived.Below
import Derived.Deep.DeepCutAuto
import Derived.Deep.RegionHeld3
import Derived.Test.YtlhkhccpeohefaaMReqLaw
import Derived.Test.YtlhkhccpeohefaaReqLaw3
import Derived.Test.YtlhkhccpeohefaaReqLaw4
namespace Go.Proofs.Ytlhkhccpeohefaa.requestOnly
open Go.ChangeShapes Go.WideShapes Go.ChangeAt Go.RowKit
open Go.ChangeMaps (open_string shut_string)
open L3 L4

theorem own : ownKnob Try.prog.godebug = none := by kernel_rfl
theorem laidOut : laidOutB Try.prog = true := by kernel_rfl

set_option maxRecDepth 100000 in
set_option maxHeartbeats 16000000 in
theorem way_bad (w : World) (kind0 : Int) (topic0 : ByteArray) (pn0 n0 off0 bp0 be0 bq0 : Int) (RA0 : Option Addr) (recs0 : List R) (rc0 : Nat) (group0 member0 : ByteArray) (gen0 : Int) (robin0 : Bool) (TA0 : Option Addr) (tops0 : List ByteArray) (tc0 : Nat) (R0 : IsRecs w RA0 recs0) (T0 : IsTops w TA0 tops0) (zt0 : Hid (topic0.size ≤ maxLen)) (zg0 : Hid (group0.size ≤ maxLen)) (zm0 : Hid (member0.size ≤ maxLen)) (o : O) (HO : Hid (o = cutO kind0.toNat topic0 pn0 n0 off0 bp0 be0 bq0 recs0 group0 member0 gen0 robin0 tops0)) (HCO : Hid (Cutd o)) (x : Int) (hx : (x != 0) = true) (HX : Hid (ChkU kind0 o x)) :
    Calls Try.prog 7 #[.agg #[.int .i64 kind0, .string topic0, .int .i64 pn0, .int .i64 n0, .int .i64 off0, .int .i64 bp0, .int .i64 be0, .int .i64 bq0, .slice RA0 recs0.length rc0, .string group0, .string member0, .int .i64 gen0, .bool robin0, .slice TA0 tops0.length tc0]] w fun e w' => e = .returned (.bool true) ∧ Below w.heap.size w w' := by
  go_enter Try.func7, Try.ntmps7
  go_wp2_with fail
  go_at_call 10
  refine (cut_u kind0 topic0 pn0 n0 off0 bp0 be0 bq0 RA0 recs0 rc0 group0 member0 gen0 robin0 TA0 tops0 tc0 o w.heap.size _ HO (Lib.hid (R0.1.out.below (one_box _))) R0.2.1 R0.2.2 (Lib.hid (T0.1.out.below (one_box _))) T0.2.1 T0.2.2 (by simp) zt0 zg0 zm0).mono ?_
  rintro e w1 ⟨RA, TA, rc, tc, rfl, hat, hb1⟩
  have r0 := (hb1.block w.heap.size (by simp)).trans (heap_alloc_new w (.cells #[.int .i64 kind0, .string topic0, .int .i64 pn0, .int .i64 n0, .int .i64 off0, .int .i64 bp0, .int .i64 be0, .int .i64 bq0, .slice RA0 recs0.length rc0, .string group0, .string member0, .int .i64 gen0, .bool robin0, .slice TA0 tops0.length tc0] 29 (0, 0)))
  have x0 := row14 (j := 0) r0 rfl; have x1 := row14 (j := 1) r0 rfl; have x2 := row14 (j := 2) r0 rfl; have x3 := row14 (j := 3) r0 rfl; have x4 := row14 (j := 4) r0 rfl; have x5 := row14 (j := 5) r0 rfl; have x6 := row14 (j := 6) r0 rfl; have x7 := row14 (j := 7) r0 rfl; have x8 := row14 (j := 8) r0 rfl; have x9 := row14 (j := 9) r0 rfl; have x10 := row14 (j := 10) r0 rfl; have x11 := row14 (j := 11) r0 rfl; have x12 := row14 (j := 12) r0 rfl; have x13 := row14 (j := 13) r0 rfl; have f0 := frozen_of_row _ _ 0 _ _ r0; have f1 := frozen_of_row _ _ 1 _ _ r0; have f2 := frozen_of_row _ _ 2 _ _ r0; have f3 := frozen_of_row _ _ 3 _ _ r0; have f4 := frozen_of_row _ _ 4 _ _ r0; have f5 := frozen_of_row _ _ 5 _ _ r0; have f6 := frozen_of_row _ _ 6 _ _ r0; have f7 := frozen_of_row _ _ 7 _ _ r0; have f8 := frozen_of_row _ _ 8 _ _ r0; have f9 := frozen_of_row _ _ 9 _ _ r0; have f10 := frozen_of_row _ _ 10 _ _ r0; have f11 := frozen_of_row _ _ 11 _ _ r0; have f12 := frozen_of_row _ _ 12 _ _ r0; have f13 := frozen_of_row _ _ 13 _ _ r0;
  have XO : Hid (Sits kind0 o w.heap.size RA TA rc tc _ ((((((((((((((w1.setCell ⟨w.heap.size, 0, none⟩ (.int .i64 kind0)).setCell ⟨w.heap.size, 1, none⟩ (.string o.topic)).setCell ⟨w.heap.size, 2, none⟩ (.int .i64 o.pn)).setCell ⟨w.heap.size, 3, none⟩ (.int .i64 o.n)).setCell ⟨w.heap.size, 4, none⟩ (.int .i64 o.off)).setCell ⟨w.heap.size, 5, none⟩ (.int .i64 o.bp)).setCell ⟨w.heap.size, 6, none⟩ (.int .i64 o.be)).setCell ⟨w.heap.size, 7, none⟩ (.int .i64 o.bq)).setCell ⟨w.heap.size, 8, none⟩ (.slice RA o.recs.length rc)).setCell ⟨w.heap.size, 9, none⟩ (.string o.group)).setCell ⟨w.heap.size, 10, none⟩ (.string o.member)).setCell ⟨w.heap.size, 11, none⟩ (.int .i64 o.gen)).setCell ⟨w.heap.size, 12, none⟩ (.bool o.robin)).setCell ⟨w.heap.size, 13, none⟩ (.slice TA o.tops.length tc))) := Lib.hid ⟨set14 r0, hat.set (by simp) _ _ _ _ _ _ _ _ _ _ _ _ _ _⟩
  have XB : Hid (Below w.heap.size w ((((((((((((((w1.setCell ⟨w.heap.size, 0, none⟩ (.int .i64 kind0)).setCell ⟨w.heap.size, 1, none⟩ (.string o.topic)).setCell ⟨w.heap.size, 2, none⟩ (.int .i64 o.pn)).setCell ⟨w.heap.size, 3, none⟩ (.int .i64 o.n)).setCell ⟨w.heap.size, 4, none⟩ (.int .i64 o.off)).setCell ⟨w.heap.size, 5, none⟩ (.int .i64 o.bp)).setCell ⟨w.heap.size, 6, none⟩ (.int .i64 o.be)).setCell ⟨w.heap.size, 7, none⟩ (.int .i64 o.bq)).setCell ⟨w.heap.size, 8, none⟩ (.slice RA o.recs.length rc)).setCell ⟨w.heap.size, 9, none⟩ (.string o.group)).setCell ⟨w.heap.size, 10, none⟩ (.string o.member)).setCell ⟨w.heap.size, 11, none⟩ (.int .i64 o.gen)).setCell ⟨w.heap.size, 12, none⟩ (.bool o.robin)).setCell ⟨w.heap.size, 13, none⟩ (.slice TA o.tops.length tc))) := Lib.hid (set14_below ((one_box _).trans (hb1.mono (by simp))) (Nat.le_refl _) _ _ _ _ _ _ _ _ _ _ _ _ _ _)
  clear r0 hat hb1
  go_upto_region 2 with (fail)
  clear x0 x1 x2 x3 x4 x5 x6 x7 x8 x9 x10 x11 x12 x13 f0 f1 f2 f3 f4 f5 f6 f7 f8 f9 f10 f11 f12 f13
  generalize ((((((((((((((w1.setCell ⟨w.heap.size, 0, none⟩ (.int .i64 kind0)).setCell ⟨w.heap.size, 1, none⟩ (.string o.topic)).setCell ⟨w.heap.size, 2, none⟩ (.int .i64 o.pn)).setCell ⟨w.heap.size, 3, none⟩ (.int .i64 o.n)).setCell ⟨w.heap.size, 4, none⟩ (.int .i64 o.off)).setCell ⟨w.heap.size, 5, none⟩ (.int .i64 o.bp)).setCell ⟨w.heap.size, 6, none⟩ (.int .i64 o.be)).setCell ⟨w.heap.size, 7, none⟩ (.int .i64 o.bq)).setCell ⟨w.heap.size, 8, none⟩ (.slice RA o.recs.length rc)).setCell ⟨w.heap.size, 9, none⟩ (.string o.group)).setCell ⟨w.heap.size, 10, none⟩ (.string o.member)).setCell ⟨w.heap.size, 11, none⟩ (.int .i64 o.gen)).setCell ⟨w.heap.size, 12, none⟩ (.bool o.robin)).setCell ⟨w.heap.size, 13, none⟩ (.slice TA o.tops.length tc)) = W1 at XO XB ⊢
  have x0 := row14 (j := 0) XO.out.row rfl; have x1 := row14 (j := 1) XO.out.row rfl; have x2 := row14 (j := 2) XO.out.row rfl; have x3 := row14 (j := 3) XO.out.row rfl; have x4 := row14 (j := 4) XO.out.row rfl; have x5 := row14 (j := 5) XO.out.row rfl; have x6 := row14 (j := 6) XO.out.row rfl; have x7 := row14 (j := 7) XO.out.row rfl; have x8 := row14 (j := 8) XO.out.row rfl; have x9 := row14 (j := 9) XO.out.row rfl; have x10 := row14 (j := 10) XO.out.row rfl; have x11 := row14 (j := 11) XO.out.row rfl; have x12 := row14 (j := 12) XO.out.row rfl; have x13 := row14 (j := 13) XO.out.row rfl;
  go_wp2_with (first
    | (go_at_call 13; refine (check_u kind0 rc tc HCO (Lib.hid XO.out.at) x HX).mono ?_; rintro e w2 ⟨rfl, hb2⟩; have S2 := Lib.hid (XO.out.below hb2); have B2 := Lib.hid (acc XB.out hb2); clear x0 x1 x2 x3 x4 x5 x6 x7 x8 x9 x10 x11 x12 x13; clear hb2)
    | (go_at_call 19; have _q := B2; refine (fixed4_any _).mono ?_; rintro e wf ⟨rfl, hbf⟩; have HBF := Lib.hid (acc B2.out hbf)))
  go_ret
  exact ⟨rfl, HBF.out⟩

theorem up {o : O} {RA TA : Option Addr} {W wa wb : World} (h : Below W.heap.size W wa ∧ At o RA TA wa) (hb : Below wa.heap.size wa wb) : Below W.heap.size W wb ∧ At o RA TA wb := ⟨acc h.1 hb, h.2.below hb⟩
set_option maxRecDepth 100000 in
set_option maxHeartbeats 32000000 in
theorem way_ok (w : World) (kind0 : Int) (topic0 : ByteArray) (pn0 n0 off0 bp0 be0 bq0 : Int) (RA0 : Option Addr) (recs0 : List R) (rc0 : Nat) (group0 member0 : ByteArray) (gen0 : Int) (robin0 : Bool) (TA0 : Option Addr) (tops0 : List ByteArray) (tc0 : Nat) (R0 : IsRecs w RA0 recs0) (T0 : IsTops w TA0 tops0) (zt0 : Hid (topic0.size ≤ maxLen)) (zg0 : Hid (group0.size ≤ maxLen)) (zm0 : Hid (member0.size ≤ maxLen)) (o : O) (HO : Hid (o = cutO kind0.toNat topic0 pn0 n0 off0 bp0 be0 bq0 recs0 group0 member0 gen0 robin0 tops0)) (HCO : Hid (Cutd o)) (HX : Hid (ChkU kind0 o 0)) (g0 : 0 ≤ o.gen) (g1 : o.gen ≤ 1099511627776)
    (HCB : Hid (Cutd ({ o with gen := o.gen + 1 } : O))) (HCC : Hid (Cutd ({ o with robin := true } : O)))
    (hways : (kind0 = 6 ∧ Hid (ChkU kind0 { o with gen := o.gen + 1 } 40) ∧ Hid (ChkU kind0 { o with robin := true } 0)) ∨ ((7 ≤ kind0 ∧ kind0 ≤ 10) ∧ Hid (ChkU kind0 { o with robin := true } 40)) ∨
      (kind0 < 6 ∧ Hid (ChkU kind0 { o with gen := o.gen + 1 } 40) ∧ Hid (ChkU kind0 { o with robin := true } 40)) ∨ (10 < kind0 ∧ Hid (ChkU kind0 { o with gen := o.gen + 1 } 40) ∧ Hid (ChkU kind0 { o with robin := true } 40))) :
    Calls Try.prog 7 #[.agg #[.int .i64 kind0, .string topic0, .int .i64 pn0, .int .i64 n0, .int .i64 off0, .int .i64 bp0, .int .i64 be0, .int .i64 bq0, .slice RA0 recs0.length rc0, .string group0, .string member0, .int .i64 gen0, .bool robin0, .slice TA0 tops0.length tc0]] w fun e w' => e = .returned (.bool true) ∧ Below w.heap.size w w' := by
  have HW := Lib.hid hways
  clear hways
  go_enter Try.func7, Try.ntmps7
  go_wp2_with fail
  go_at_call 10
  refine (cut_u kind0 topic0 pn0 n0 off0 bp0 be0 bq0 RA0 recs0 rc0 group0 member0 gen0 robin0 TA0 tops0 tc0 o w.heap.size _ HO (Lib.hid (R0.1.out.below (one_box _))) R0.2.1 R0.2.2 (Lib.hid (T0.1.out.below (one_box _))) T0.2.1 T0.2.2 (by simp) zt0 zg0 zm0).mono ?_
  rintro e w1 ⟨RA, TA, rc, tc, rfl, hat, hb1⟩
  have r0 := (hb1.block w.heap.size (by simp)).trans (heap_alloc_new w (.cells #[.int .i64 kind0, .string topic0, .int .i64 pn0, .int .i64 n0, .int .i64 off0, .int .i64 bp0, .int .i64 be0, .int .i64 bq0, .slice RA0 recs0.length rc0, .string group0, .string member0, .int .i64 gen0, .bool robin0, .slice TA0 tops0.length tc0] 29 (0, 0)))
  have x0 := row14 (j := 0) r0 rfl; have x1 := row14 (j := 1) r0 rfl; have x2 := row14 (j := 2) r0 rfl; have x3 := row14 (j := 3) r0 rfl; have x4 := row14 (j := 4) r0 rfl; have x5 := row14 (j := 5) r0 rfl; have x6 := row14 (j := 6) r0 rfl; have x7 := row14 (j := 7) r0 rfl; have x8 := row14 (j := 8) r0 rfl; have x9 := row14 (j := 9) r0 rfl; have x10 := row14 (j := 10) r0 rfl; have x11 := row14 (j := 11) r0 rfl; have x12 := row14 (j := 12) r0 rfl; have x13 := row14 (j := 13) r0 rfl; have f0 := frozen_of_row _ _ 0 _ _ r0; have f1 := frozen_of_row _ _ 1 _ _ r0; have f2 := frozen_of_row _ _ 2 _ _ r0; have f3 := frozen_of_row _ _ 3 _ _ r0; have f4 := frozen_of_row _ _ 4 _ _ r0; have f5 := frozen_of_row _ _ 5 _ _ r0; have f6 := frozen_of_row _ _ 6 _ _ r0; have f7 := frozen_of_row _ _ 7 _ _ r0; have f8 := frozen_of_row _ _ 8 _ _ r0; have f9 := frozen_of_row _ _ 9 _ _ r0; have f10 := frozen_of_row _ _ 10 _ _ r0; have f11 := frozen_of_row _ _ 11 _ _ r0; have f12 := frozen_of_row _ _ 12 _ _ r0; have f13 := frozen_of_row _ _ 13 _ _ r0;
  have XO : Hid (Sits kind0 o w.heap.size RA TA rc tc _ ((((((((((((((w1.setCell ⟨w.heap.size, 0, none⟩ (.int .i64 kind0)).setCell ⟨w.heap.size, 1, none⟩ (.string o.topic)).setCell ⟨w.heap.size, 2, none⟩ (.int .i64 o.pn)).setCell ⟨w.heap.size, 3, none⟩ (.int .i64 o.n)).setCell ⟨w.heap.size, 4, none⟩ (.int .i64 o.off)).setCell ⟨w.heap.size, 5, none⟩ (.int .i64 o.bp)).setCell ⟨w.heap.size, 6, none⟩ (.int .i64 o.be)).setCell ⟨w.heap.size, 7, none⟩ (.int .i64 o.bq)).setCell ⟨w.heap.size, 8, none⟩ (.slice RA o.recs.length rc)).setCell ⟨w.heap.size, 9, none⟩ (.string o.group)).setCell ⟨w.heap.size, 10, none⟩ (.string o.member)).setCell ⟨w.heap.size, 11, none⟩ (.int .i64 o.gen)).setCell ⟨w.heap.size, 12, none⟩ (.bool o.robin)).setCell ⟨w.heap.size, 13, none⟩ (.slice TA o.tops.length tc))) := Lib.hid ⟨set14 r0, hat.set (by simp) _ _ _ _ _ _ _ _ _ _ _ _ _ _⟩
  have XB : Hid (Below w.heap.size w ((((((((((((((w1.setCell ⟨w.heap.size, 0, none⟩ (.int .i64 kind0)).setCell ⟨w.heap.size, 1, none⟩ (.string o.topic)).setCell ⟨w.heap.size, 2, none⟩ (.int .i64 o.pn)).setCell ⟨w.heap.size, 3, none⟩ (.int .i64 o.n)).setCell ⟨w.heap.size, 4, none⟩ (.int .i64 o.off)).setCell ⟨w.heap.size, 5, none⟩ (.int .i64 o.bp)).setCell ⟨w.heap.size, 6, none⟩ (.int .i64 o.be)).setCell ⟨w.heap.size, 7, none⟩ (.int .i64 o.bq)).setCell ⟨w.heap.size, 8, none⟩ (.slice RA o.recs.length rc)).setCell ⟨w.heap.size, 9, none⟩ (.string o.group)).setCell ⟨w.heap.size, 10, none⟩ (.string o.member)).setCell ⟨w.heap.size, 11, none⟩ (.int .i64 o.gen)).setCell ⟨w.heap.size, 12, none⟩ (.bool o.robin)).setCell ⟨w.heap.size, 13, none⟩ (.slice TA o.tops.length tc))) := Lib.hid (set14_below ((one_box _).trans (hb1.mono (by simp))) (Nat.le_refl _) _ _ _ _ _ _ _ _ _ _ _ _ _ _)
  clear r0 hat hb1
  go_upto_region 2 with (fail)
  clear x0 x1 x2 x3 x4 x5 x6 x7 x8 x9 x10 x11 x12 x13 f0 f1 f2 f3 f4 f5 f6 f7 f8 f9 f10 f11 f12 f13
  generalize ((((((((((((((w1.setCell ⟨w.heap.size, 0, none⟩ (.int .i64 kind0)).setCell ⟨w.heap.size, 1, none⟩ (.string o.topic)).setCell ⟨w.heap.size, 2, none⟩ (.int .i64 o.pn)).setCell ⟨w.heap.size, 3, none⟩ (.int .i64 o.n)).setCell ⟨w.heap.size, 4, none⟩ (.int .i64 o.off)).setCell ⟨w.heap.size, 5, none⟩ (.int .i64 o.bp)).setCell ⟨w.heap.size, 6, none⟩ (.int .i64 o.be)).setCell ⟨w.heap.size, 7, none⟩ (.int .i64 o.bq)).setCell ⟨w.heap.size, 8, none⟩ (.slice RA o.recs.length rc)).setCell ⟨w.heap.size, 9, none⟩ (.string o.group)).setCell ⟨w.heap.size, 10, none⟩ (.string o.member)).setCell ⟨w.heap.size, 11, none⟩ (.int .i64 o.gen)).setCell ⟨w.heap.size, 12, none⟩ (.bool o.robin)).setCell ⟨w.heap.size, 13, none⟩ (.slice TA o.tops.length tc)) = W1 at XO XB ⊢
  have x0 := row14 (j := 0) XO.out.row rfl; have x1 := row14 (j := 1) XO.out.row rfl; have x2 := row14 (j := 2) XO.out.row rfl; have x3 := row14 (j := 3) XO.out.row rfl; have x4 := row14 (j := 4) XO.out.row rfl; have x5 := row14 (j := 5) XO.out.row rfl; have x6 := row14 (j := 6) XO.out.row rfl; have x7 := row14 (j := 7) XO.out.row rfl; have x8 := row14 (j := 8) XO.out.row rfl; have x9 := row14 (j := 9) XO.out.row rfl; have x10 := row14 (j := 10) XO.out.row rfl; have x11 := row14 (j := 11) XO.out.row rfl; have x12 := row14 (j := 12) XO.out.row rfl; have x13 := row14 (j := 13) XO.out.row rfl;
  go_upto_region 4 with (go_at_call 13; refine (check_u kind0 rc tc HCO (Lib.hid XO.out.at) 0 HX).mono ?_; rintro e w2 ⟨rfl, hb2⟩; have S2 := Lib.hid (XO.out.below hb2); have B2 := Lib.hid (acc XB.out hb2); clear x0 x1 x2 x3 x4 x5 x6 x7 x8 x9 x10 x11 x12 x13; clear hb2)
  have x0 := row14 (j := 0) S2.out.row rfl; have x1 := row14 (j := 1) S2.out.row rfl; have x2 := row14 (j := 2) S2.out.row rfl; have x3 := row14 (j := 3) S2.out.row rfl; have x4 := row14 (j := 4) S2.out.row rfl; have x5 := row14 (j := 5) S2.out.row rfl; have x6 := row14 (j := 6) S2.out.row rfl; have x7 := row14 (j := 7) S2.out.row rfl; have x8 := row14 (j := 8) S2.out.row rfl; have x9 := row14 (j := 9) S2.out.row rfl; have x10 := row14 (j := 10) S2.out.row rfl; have x11 := row14 (j := 11) S2.out.row rfl; have x12 := row14 (j := 12) S2.out.row rfl; have x13 := row14 (j := 13) S2.out.row rfl;
  as_aux_lemma =>
  go_cut [3, 4, 5] (fun s3 s4 s5 wx => ∃ ga gb gc : Nat, s3 = .pointer (some ⟨ga, 0, none⟩) ∧ s4 = .pointer (some ⟨gb, 0, none⟩) ∧ s5 = .pointer (some ⟨gc, 0, none⟩) ∧ Hid ((ga ≠ gb ∧ ga ≠ gc ∧ gb ≠ gc) ∧ w2.heap.size ≤ ga ∧ w2.heap.size ≤ gb ∧ w2.heap.size ≤ gc) ∧ Hid (wx.heap[ga]? = some (.cells #[.int .i64 kind0, .string o.topic, .int .i64 o.pn, .int .i64 o.n, .int .i64 o.off, .int .i64 o.bp, .int .i64 o.be, .int .i64 o.bq, .slice RA o.recs.length rc, .string o.group, .string o.member, .int .i64 o.gen, .bool o.robin, .slice TA o.tops.length tc] 29 (0, 0))) ∧ Hid (wx.heap[gb]? = some (.cells #[.int .i64 kind0, .string o.topic, .int .i64 o.pn, .int .i64 o.n, .int .i64 o.off, .int .i64 o.bp, .int .i64 o.be, .int .i64 o.bq, .slice RA o.recs.length rc, .string o.group, .string o.member, .int .i64 o.gen, .bool o.robin, .slice TA o.tops.length tc] 29 (0, 0))) ∧ Hid (wx.heap[gc]? = some (.cells #[.int .i64 kind0, .string o.topic, .int .i64 o.pn, .int .i64 o.n, .int .i64 o.off, .int .i64 o.bp, .int .i64 o.be, .int .i64 o.bq, .slice RA o.recs.length rc, .string o.group, .string o.member, .int .i64 o.gen, .bool o.robin, .slice TA o.tops.length tc] 29 (0, 0))) ∧ Hid (Below w2.heap.size w2 wx))
  case first =>
    have HTT : Hid (∀ w', Below w2.heap.size w2 w' → (w'.cell? ⟨w.heap.size, 0, none⟩ = some (.int .i64 kind0) ∧ w'.cell? ⟨w.heap.size, 1, none⟩ = some (.string o.topic) ∧ w'.cell? ⟨w.heap.size, 2, none⟩ = some (.int .i64 o.pn) ∧ w'.cell? ⟨w.heap.size, 3, none⟩ = some (.int .i64 o.n) ∧ w'.cell? ⟨w.heap.size, 4, none⟩ = some (.int .i64 o.off) ∧ w'.cell? ⟨w.heap.size, 5, none⟩ = some (.int .i64 o.bp) ∧ w'.cell? ⟨w.heap.size, 6, none⟩ = some (.int .i64 o.be) ∧ w'.cell? ⟨w.heap.size, 7, none⟩ = some (.int .i64 o.bq) ∧ w'.cell? ⟨w.heap.size, 8, none⟩ = some (.slice RA o.recs.length rc) ∧ w'.cell? ⟨w.heap.size, 9, none⟩ = some (.string o.group) ∧ w'.cell? ⟨w.heap.size, 10, none⟩ = some (.string o.member) ∧ w'.cell? ⟨w.heap.size, 11, none⟩ = some (.int .i64 o.gen) ∧ w'.cell? ⟨w.heap.size, 12, none⟩ = some (.bool o.robin) ∧ w'.cell? ⟨w.heap.size, 13, none⟩ = some (.slice TA o.tops.length tc)) ∧ Below w2.heap.size w2 w') := Lib.hid (fun w' hb => by
      have q := (hb.block w.heap.size S2.out.lt).trans S2.out.row
      exact ⟨⟨row14 (j := 0) q rfl, row14 (j := 1) q rfl, row14 (j := 2) q rfl, row14 (j := 3) q rfl, row14 (j := 4) q rfl, row14 (j := 5) q rfl, row14 (j := 6) q rfl, row14 (j := 7) q rfl, row14 (j := 8) q rfl, row14 (j := 9) q rfl, row14 (j := 10) q rfl, row14 (j := 11) q rfl, row14 (j := 12) q rfl, row14 (j := 13) q rfl⟩, hb⟩)
    go_region_held3 (fun w' => (w'.cell? ⟨w.heap.size, 0, none⟩ = some (.int .i64 kind0) ∧ w'.cell? ⟨w.heap.size, 1, none⟩ = some (.string o.topic) ∧ w'.cell? ⟨w.heap.size, 2, none⟩ = some (.int .i64 o.pn) ∧ w'.cell? ⟨w.heap.size, 3, none⟩ = some (.int .i64 o.n) ∧ w'.cell? ⟨w.heap.size, 4, none⟩ = some (.int .i64 o.off) ∧ w'.cell? ⟨w.heap.size, 5, none⟩ = some (.int .i64 o.bp) ∧ w'.cell? ⟨w.heap.size, 6, none⟩ = some (.int .i64 o.be) ∧ w'.cell? ⟨w.heap.size, 7, none⟩ = some (.int .i64 o.bq) ∧ w'.cell? ⟨w.heap.size, 8, none⟩ = some (.slice RA o.recs.length rc) ∧ w'.cell? ⟨w.heap.size, 9, none⟩ = some (.string o.group) ∧ w'.cell? ⟨w.heap.size, 10, none⟩ = some (.string o.member) ∧ w'.cell? ⟨w.heap.size, 11, none⟩ = some (.int .i64 o.gen) ∧ w'.cell? ⟨w.heap.size, 12, none⟩ = some (.bool o.robin) ∧ w'.cell? ⟨w.heap.size, 13, none⟩ = some (.slice TA o.tops.length tc)) ∧ Below w2.heap.size w2 w')
      (first | with_reducible assumption | exact HTT.out _ (Below.refl _ _).drew | exact HTT.out _ (one_box _).drew | exact HTT.out _ (two_box _ _).drew | exact HTT.out _ below3.drew)
      (fail)
    all_goals
      go_wp2_with fail
      go_meet
      refine ⟨_, _, _, rfl, rfl, rfl, Lib.hid (by omega), Lib.hid ?_, Lib.hid ?_, Lib.hid ?_, Lib.hid below3.drew⟩ <;> first | exact heap_alloc3_0 w2 _ _ _ | exact heap_alloc3_1 w2 _ _ _ | exact heap_alloc3_2 w2 _ _ _
  case rest =>
    obtain ⟨ga, gb, gc, rfl, rfl, rfl, HD, QA, QB, QC, BC⟩ := hcut
    clear x0 x1 x2 x3 x4 x5 x6 x7 x8 x9 x10 x11 x12 x13
    have QO := Lib.hid ((BC.out.block w.heap.size S2.out.lt).trans S2.out.row)
    have x0 := row14 (j := 0) QO.out rfl; have x1 := row14 (j := 1) QO.out rfl; have x2 := row14 (j := 2) QO.out rfl; have x3 := row14 (j := 3) QO.out rfl; have x4 := row14 (j := 4) QO.out rfl; have x5 := row14 (j := 5) QO.out rfl; have x6 := row14 (j := 6) QO.out rfl; have x7 := row14 (j := 7) QO.out rfl; have x8 := row14 (j := 8) QO.out rfl; have x9 := row14 (j := 9) QO.out rfl; have x10 := row14 (j := 10) QO.out rfl; have x11 := row14 (j := 11) QO.out rfl; have x12 := row14 (j := 12) QO.out rfl; have x13 := row14 (j := 13) QO.out rfl;
    have ca := row14 (j := 0) QA.out rfl
    have cb := row14 (j := 11) QB.out rfl
    have cc := row14 (j := 12) QC.out rfl
    have fa := frozen_of_row _ _ 0 _ _ QA.out
    have fb := frozen_of_row _ _ 11 _ _ QB.out
    have fc := frozen_of_row _ _ 12 _ _ QC.out
    have n1 := HD.out.1.1
    have n2 := HD.out.1.2.1
    have n3 := HD.out.1.2.2
    have n4 : w.heap.size ≠ ga := by have := HD.out.2.1; have := S2.out.lt; omega
    have n5 : w.heap.size ≠ gb := by have := HD.out.2.2.1; have := S2.out.lt; omega
    have n6 : w.heap.size ≠ gc := by have := HD.out.2.2.2; have := S2.out.lt; omega
    have RO := Lib.hid (((heap_setCell_other (((wc.setCell ⟨ga, 0, none⟩ (.int .i64 13)).setCell ⟨gb, 11, none⟩ (.int .i64 (o.gen + 1)))) ⟨gc, 12, none⟩ _ (.bool true) n6).trans ((heap_setCell_other (wc.setCell ⟨ga, 0, none⟩ (.int .i64 13)) ⟨gb, 11, none⟩ _ (.int .i64 (o.gen + 1)) n5).trans (heap_setCell_other wc ⟨ga, 0, none⟩ _ (.int .i64 13) n4))).trans QO.out)
    have RA_ := Lib.hid ((heap_setCell_other (((wc.setCell ⟨ga, 0, none⟩ (.int .i64 13)).setCell ⟨gb, 11, none⟩ (.int .i64 (o.gen + 1)))) ⟨gc, 12, none⟩ _ (.bool true) n2).trans ((heap_setCell_other (wc.setCell ⟨ga, 0, none⟩ (.int .i64 13)) ⟨gb, 11, none⟩ _ (.int .i64 (o.gen + 1)) n1).trans (heap_setCell_same wc ga 0 _ _ (.int .i64 13) QA.out)))
    have RB := Lib.hid ((heap_setCell_other (((wc.setCell ⟨ga, 0, none⟩ (.int .i64 13)).setCell ⟨gb, 11, none⟩ (.int .i64 (o.gen + 1)))) ⟨gc, 12, none⟩ _ (.bool true) n3).trans (heap_setCell_same (wc.setCell ⟨ga, 0, none⟩ (.int .i64 13)) gb 11 _ _ (.int .i64 (o.gen + 1)) ((heap_setCell_other wc ⟨ga, 0, none⟩ _ (.int .i64 13) n1.symm).trans QB.out)))
    have RC := Lib.hid (heap_setCell_same ((wc.setCell ⟨ga, 0, none⟩ (.int .i64 13)).setCell ⟨gb, 11, none⟩ (.int .i64 (o.gen + 1))) gc 12 _ _ (.bool true) ((heap_setCell_other (wc.setCell ⟨ga, 0, none⟩ (.int .i64 13)) ⟨gb, 11, none⟩ _ (.int .i64 (o.gen + 1)) n3.symm).trans ((heap_setCell_other wc ⟨ga, 0, none⟩ _ (.int .i64 13) n2.symm).trans QC.out)))
    have BY := Lib.hid (((BC.out.setCell (p := ⟨ga, 0, none⟩) HD.out.2.1 (.int .i64 13)).setCell (p := ⟨gb, 11, none⟩) HD.out.2.2.1 (.int .i64 (o.gen + 1))).setCell (p := ⟨gc, 12, none⟩) HD.out.2.2.2 (.bool true))
    go_upto_region 8 with (fail)
    clear ca cb cc fa fb fc n1 n2 n3 n4 n5 n6 x0 x1 x2 x3 x4 x5 x6 x7 x8 x9 x10 x11 x12 x13 QO QA QB QC HD
    generalize ((wc.setCell ⟨ga, 0, none⟩ (.int .i64 13)).setCell ⟨gb, 11, none⟩ (.int .i64 (o.gen + 1))).setCell ⟨gc, 12, none⟩ (.bool true) = W5 at RO RA_ RB RC BY ⊢
    have AO := Lib.hid (S2.out.at.below BY.out)
    have B5 := Lib.hid (acc B2.out BY.out)
    have BX := Lib.hid (Below.refl W5.heap.size W5)
    have y0 := row14 (j := 0) RA_.out rfl; have y1 := row14 (j := 1) RA_.out rfl; have y2 := row14 (j := 2) RA_.out rfl; have y3 := row14 (j := 3) RA_.out rfl; have y4 := row14 (j := 4) RA_.out rfl; have y5 := row14 (j := 5) RA_.out rfl; have y6 := row14 (j := 6) RA_.out rfl; have y7 := row14 (j := 7) RA_.out rfl; have y8 := row14 (j := 8) RA_.out rfl; have y9 := row14 (j := 9) RA_.out rfl; have y10 := row14 (j := 10) RA_.out rfl; have y11 := row14 (j := 11) RA_.out rfl; have y12 := row14 (j := 12) RA_.out rfl; have y13 := row14 (j := 13) RA_.out rfl;
    have x0 := row14 (j := 0) RO.out rfl
    clear S2 B2 BC BY
    rcases HW.out with ⟨hk, HXB, HXC⟩ | ⟨⟨hk1, hk2⟩, HXC⟩ | ⟨hk, HXB, HXC⟩ | ⟨hk, HXB, HXC⟩
    · have k6 : (kind0 == 6) = true := by simp; omega
      have k7 : ¬ (7 ≤ kind0) := by omega
      clear HW hk
      as_aux_lemma =>
      go_wp2_with (first
        | (have _q := S6; go_at_call 13; refine (check_u (o := { o with gen := o.gen + 1 }) kind0 rc tc HCB (Lib.hid (⟨S6.out.2.r, S6.out.2.t⟩ : At { o with gen := o.gen + 1 } RA TA _)) 40 HXB).mono ?_; rintro e w7 ⟨rfl, hb7⟩; have S7 := Lib.hid (up S6.out hb7); clear hb7 y0 y1 y2 y3 y4 y5 y6 y7 y8 y9 y10 y11 y12 y13)
        | (go_at_call 13; refine (check_bad 13 _ _ _ _ _ _ _ _ _ _ _ _ _ _ (.inr (by decide))).mono ?_; rintro e w6 ⟨rfl, hb6⟩; have S6 := Lib.hid (up ⟨BX.out, AO.out⟩ hb6); clear y0 y1 y2 y3 y4 y5 y6 y7 y8 y9 y10 y11 y12 y13; have qb := (S6.out.1.block gb (Array.getElem?_eq_some_iff.1 RB.out).1).trans RB.out; have y0 := row14 (j := 0) qb rfl; have y1 := row14 (j := 1) qb rfl; have y2 := row14 (j := 2) qb rfl; have y3 := row14 (j := 3) qb rfl; have y4 := row14 (j := 4) qb rfl; have y5 := row14 (j := 5) qb rfl; have y6 := row14 (j := 6) qb rfl; have y7 := row14 (j := 7) qb rfl; have y8 := row14 (j := 8) qb rfl; have y9 := row14 (j := 9) qb rfl; have y10 := row14 (j := 10) qb rfl; have y11 := row14 (j := 11) qb rfl; have y12 := row14 (j := 12) qb rfl; have y13 := row14 (j := 13) qb rfl; clear qb hb6))
      skip
      obtain ⟨W7, hW⟩ : ∃ W7 : World, W7 = w7 := ⟨_, rfl⟩
      subst hW
      have T7 := S7
      have HTT : Hid (∀ w', Below W7.heap.size W7 w' → (w'.cell? ⟨w.heap.size, 0, none⟩ = some (.int .i64 kind0) ∧ w'.cell? ⟨gc, 0, none⟩ = some (.int .i64 kind0) ∧ w'.cell? ⟨gc, 1, none⟩ = some (.string o.topic) ∧ w'.cell? ⟨gc, 2, none⟩ = some (.int .i64 o.pn) ∧ w'.cell? ⟨gc, 3, none⟩ = some (.int .i64 o.n) ∧ w'.cell? ⟨gc, 4, none⟩ = some (.int .i64 o.off) ∧ w'.cell? ⟨gc, 5, none⟩ = some (.int .i64 o.bp) ∧ w'.cell? ⟨gc, 6, none⟩ = some (.int .i64 o.be) ∧ w'.cell? ⟨gc, 7, none⟩ = some (.int .i64 o.bq) ∧ w'.cell? ⟨gc, 8, none⟩ = some (.slice RA o.recs.length rc) ∧ w'.cell? ⟨gc, 9, none⟩ = some (.string o.group) ∧ w'.cell? ⟨gc, 10, none⟩ = some (.string o.member) ∧ w'.cell? ⟨gc, 11, none⟩ = some (.int .i64 o.gen) ∧ w'.cell? ⟨gc, 12, none⟩ = some (.bool true) ∧ w'.cell? ⟨gc, 13, none⟩ = some (.slice TA o.tops.length tc)) ∧ Below W7.heap.size W7 w') := Lib.hid (fun w' hb => by
        have hbb := (up T7.out hb).1
        have q := (hbb.block w.heap.size (Array.getElem?_eq_some_iff.1 RO.out).1).trans RO.out
        have qc := (hbb.block gc (Array.getElem?_eq_some_iff.1 RC.out).1).trans RC.out
        exact ⟨⟨row14 (j := 0) q rfl, row14 (j := 0) qc rfl, row14 (j := 1) qc rfl, row14 (j := 2) qc rfl, row14 (j := 3) qc rfl, row14 (j := 4) qc rfl, row14 (j := 5) qc rfl, row14 (j := 6) qc rfl, row14 (j := 7) qc rfl, row14 (j := 8) qc rfl, row14 (j := 9) qc rfl, row14 (j := 10) qc rfl, row14 (j := 11) qc rfl, row14 (j := 12) qc rfl, row14 (j := 13) qc rfl⟩, hb⟩)
      have HAT : Hid (∀ w', (w'.cell? ⟨w.heap.size, 0, none⟩ = some (.int .i64 kind0) ∧ w'.cell? ⟨gc, 0, none⟩ = some (.int .i64 kind0) ∧ w'.cell? ⟨gc, 1, none⟩ = some (.string o.topic) ∧ w'.cell? ⟨gc, 2, none⟩ = some (.int .i64 o.pn) ∧ w'.cell? ⟨gc, 3, none⟩ = some (.int .i64 o.n) ∧ w'.cell? ⟨gc, 4, none⟩ = some (.int .i64 o.off) ∧ w'.cell? ⟨gc, 5, none⟩ = some (.int .i64 o.bp) ∧ w'.cell? ⟨gc, 6, none⟩ = some (.int .i64 o.be) ∧ w'.cell? ⟨gc, 7, none⟩ = some (.int .i64 o.bq) ∧ w'.cell? ⟨gc, 8, none⟩ = some (.slice RA o.recs.length rc) ∧ w'.cell? ⟨gc, 9, none⟩ = some (.string o.group) ∧ w'.cell? ⟨gc, 10, none⟩ = some (.string o.member) ∧ w'.cell? ⟨gc, 11, none⟩ = some (.int .i64 o.gen) ∧ w'.cell? ⟨gc, 12, none⟩ = some (.bool true) ∧ w'.cell? ⟨gc, 13, none⟩ = some (.slice TA o.tops.length tc)) ∧ Below W7.heap.size W7 w' → At ({ o with robin := true } : O) RA TA w') := Lib.hid (fun w' hb => ⟨(T7.out.2.below hb.2).r, (T7.out.2.below hb.2).t⟩)
      go_region_held3 (fun w' => (w'.cell? ⟨w.heap.size, 0, none⟩ = some (.int .i64 kind0) ∧ w'.cell? ⟨gc, 0, none⟩ = some (.int .i64 kind0) ∧ w'.cell? ⟨gc, 1, none⟩ = some (.string o.topic) ∧ w'.cell? ⟨gc, 2, none⟩ = some (.int .i64 o.pn) ∧ w'.cell? ⟨gc, 3, none⟩ = some (.int .i64 o.n) ∧ w'.cell? ⟨gc, 4, none⟩ = some (.int .i64 o.off) ∧ w'.cell? ⟨gc, 5, none⟩ = some (.int .i64 o.bp) ∧ w'.cell? ⟨gc, 6, none⟩ = some (.int .i64 o.be) ∧ w'.cell? ⟨gc, 7, none⟩ = some (.int .i64 o.bq) ∧ w'.cell? ⟨gc, 8, none⟩ = some (.slice RA o.recs.length rc) ∧ w'.cell? ⟨gc, 9, none⟩ = some (.string o.group) ∧ w'.cell? ⟨gc, 10, none⟩ = some (.string o.member) ∧ w'.cell? ⟨gc, 11, none⟩ = some (.int .i64 o.gen) ∧ w'.cell? ⟨gc, 12, none⟩ = some (.bool true) ∧ w'.cell? ⟨gc, 13, none⟩ = some (.slice TA o.tops.length tc)) ∧ Below W7.heap.size W7 w')
        (first | with_reducible assumption | exact HTT.out _ (Below.refl _ _).drew | exact HTT.out _ (acc (by exact (‹_ ∧ Below W7.heap.size W7 _›).2) (by assumption)))
        (first
          | (go_at_call 13; refine (check_u (o := { o with robin := true }) kind0 rc tc HCC (Lib.hid (HAT.out _ (by assumption))) 0 HXC).mono ?_; rintro e wa ⟨rfl, hba⟩)
          | (go_at_call 19; refine (fixed4_any _).mono ?_; rintro e wb ⟨rfl, hbb⟩))
      all_goals
        rename_i hh
        go_wp2_with fail
        go_ret
        exact ⟨rfl, acc B5.out (up T7.out hh.2).1⟩
    · have k6 : (kind0 == 6) = false := by simp; omega
      clear HW
      as_aux_lemma =>
      go_wp2_with (first
        | fail
        | (go_at_call 13; refine (check_bad 13 _ _ _ _ _ _ _ _ _ _ _ _ _ _ (.inr (by decide))).mono ?_; rintro e w6 ⟨rfl, hb6⟩; have S6 := Lib.hid (up ⟨BX.out, AO.out⟩ hb6); clear y0 y1 y2 y3 y4 y5 y6 y7 y8 y9 y10 y11 y12 y13; have qb := (S6.out.1.block gb (Array.getElem?_eq_some_iff.1 RB.out).1).trans RB.out; have y0 := row14 (j := 0) qb rfl; have y1 := row14 (j := 1) qb rfl; have y2 := row14 (j := 2) qb rfl; have y3 := row14 (j := 3) qb rfl; have y4 := row14 (j := 4) qb rfl; have y5 := row14 (j := 5) qb rfl; have y6 := row14 (j := 6) qb rfl; have y7 := row14 (j := 7) qb rfl; have y8 := row14 (j := 8) qb rfl; have y9 := row14 (j := 9) qb rfl; have y10 := row14 (j := 10) qb rfl; have y11 := row14 (j := 11) qb rfl; have y12 := row14 (j := 12) qb rfl; have y13 := row14 (j := 13) qb rfl; clear qb hb6))
      clear y0 y1 y2 y3 y4 y5 y6 y7 y8 y9 y10 y11 y12 y13
      obtain ⟨W7, hW⟩ : ∃ W7 : World, W7 = w6 := ⟨_, rfl⟩
      subst hW
      have T7 := S6
      have HTT : Hid (∀ w', Below W7.heap.size W7 w' → (w'.cell? ⟨w.heap.size, 0, none⟩ = some (.int .i64 kind0) ∧ w'.cell? ⟨gc, 0, none⟩ = some (.int .i64 kind0) ∧ w'.cell? ⟨gc, 1, none⟩ = some (.string o.topic) ∧ w'.cell? ⟨gc, 2, none⟩ = some (.int .i64 o.pn) ∧ w'.cell? ⟨gc, 3, none⟩ = some (.int .i64 o.n) ∧ w'.cell? ⟨gc, 4, none⟩ = some (.int .i64 o.off) ∧ w'.cell? ⟨gc, 5, none⟩ = some (.int .i64 o.bp) ∧ w'.cell? ⟨gc, 6, none⟩ = some (.int .i64 o.be) ∧ w'.cell? ⟨gc, 7, none⟩ = some (.int .i64 o.bq) ∧ w'.cell? ⟨gc, 8, none⟩ = some (.slice RA o.recs.length rc) ∧ w'.cell? ⟨gc, 9, none⟩ = some (.string o.group) ∧ w'.cell? ⟨gc, 10, none⟩ = some (.string o.member) ∧ w'.cell? ⟨gc, 11, none⟩ = some (.int .i64 o.gen) ∧ w'.cell? ⟨gc, 12, none⟩ = some (.bool true) ∧ w'.cell? ⟨gc, 13, none⟩ = some (.slice TA o.tops.length tc)) ∧ Below W7.heap.size W7 w') := Lib.hid (fun w' hb => by
        have hbb := (up T7.out hb).1
        have q := (hbb.block w.heap.size (Array.getElem?_eq_some_iff.1 RO.out).1).trans RO.out
        have qc := (hbb.block gc (Array.getElem?_eq_some_iff.1 RC.out).1).trans RC.out
        exact ⟨⟨row14 (j := 0) q rfl, row14 (j := 0) qc rfl, row14 (j := 1) qc rfl, row14 (j := 2) qc rfl, row14 (j := 3) qc rfl, row14 (j := 4) qc rfl, row14 (j := 5) qc rfl, row14 (j := 6) qc rfl, row14 (j := 7) qc rfl, row14 (j := 8) qc rfl, row14 (j := 9) qc rfl, row14 (j := 10) qc rfl, row14 (j := 11) qc rfl, row14 (j := 12) qc rfl, row14 (j := 13) qc rfl⟩, hb⟩)
      have HAT : Hid (∀ w', (w'.cell? ⟨w.heap.size, 0, none⟩ = some (.int .i64 kind0) ∧ w'.cell? ⟨gc, 0, none⟩ = some (.int .i64 kind0) ∧ w'.cell? ⟨gc, 1, none⟩ = some (.string o.topic) ∧ w'.cell? ⟨gc, 2, none⟩ = some (.int .i64 o.pn) ∧ w'.cell? ⟨gc, 3, none⟩ = some (.int .i64 o.n) ∧ w'.cell? ⟨gc, 4, none⟩ = some (.int .i64 o.off) ∧ w'.cell? ⟨gc, 5, none⟩ = some (.int .i64 o.bp) ∧ w'.cell? ⟨gc, 6, none⟩ = some (.int .i64 o.be) ∧ w'.cell? ⟨gc, 7, none⟩ = some (.int .i64 o.bq) ∧ w'.cell? ⟨gc, 8, none⟩ = some (.slice RA o.recs.length rc) ∧ w'.cell? ⟨gc, 9, none⟩ = some (.string o.group) ∧ w'.cell? ⟨gc, 10, none⟩ = some (.string o.member) ∧ w'.cell? ⟨gc, 11, none⟩ = some (.int .i64 o.gen) ∧ w'.cell? ⟨gc, 12, none⟩ = some (.bool true) ∧ w'.cell? ⟨gc, 13, none⟩ = some (.slice TA o.tops.length tc)) ∧ Below W7.heap.size W7 w' → At ({ o with robin := true } : O) RA TA w') := Lib.hid (fun w' hb => ⟨(T7.out.2.below hb.2).r, (T7.out.2.below hb.2).t⟩)
      go_region_held3 (fun w' => (w'.cell? ⟨w.heap.size, 0, none⟩ = some (.int .i64 kind0) ∧ w'.cell? ⟨gc, 0, none⟩ = some (.int .i64 kind0) ∧ w'.cell? ⟨gc, 1, none⟩ = some (.string o.topic) ∧ w'.cell? ⟨gc, 2, none⟩ = some (.int .i64 o.pn) ∧ w'.cell? ⟨gc, 3, none⟩ = some (.int .i64 o.n) ∧ w'.cell? ⟨gc, 4, none⟩ = some (.int .i64 o.off) ∧ w'.cell? ⟨gc, 5, none⟩ = some (.int .i64 o.bp) ∧ w'.cell? ⟨gc, 6, none⟩ = some (.int .i64 o.be) ∧ w'.cell? ⟨gc, 7, none⟩ = some (.int .i64 o.bq) ∧ w'.cell? ⟨gc, 8, none⟩ = some (.slice RA o.recs.length rc) ∧ w'.cell? ⟨gc, 9, none⟩ = some (.string o.group) ∧ w'.cell? ⟨gc, 10, none⟩ = some (.string o.member) ∧ w'.cell? ⟨gc, 11, none⟩ = some (.int .i64 o.gen) ∧ w'.cell? ⟨gc, 12, none⟩ = some (.bool true) ∧ w'.cell? ⟨gc, 13, none⟩ = some (.slice TA o.tops.length tc)) ∧ Below W7.heap.size W7 w')
        (first | with_reducible assumption | exact HTT.out _ (Below.refl _ _).drew | exact HTT.out _ (acc (by exact (‹_ ∧ Below W7.heap.size W7 _›).2) (by assumption)))
        (first
          | (go_at_call 13; refine (check_u (o := { o with robin := true }) kind0 rc tc HCC (Lib.hid (HAT.out _ (by assumption))) 40 HXC).mono ?_; rintro e wa ⟨rfl, hba⟩)
          | (go_at_call 19; refine (fixed4_any _).mono ?_; rintro e wb ⟨rfl, hbb⟩))
      all_goals
        rename_i hh
        go_wp2_with fail
        go_ret
        exact ⟨rfl, acc B5.out (up T7.out hh.2).1⟩
    · have k6 : (kind0 == 6) = false := by simp; omega
      have k7 : ¬ (7 ≤ kind0) := by omega
      clear HW
      as_aux_lemma =>
      go_wp2_with (first
        | (have _q := S6; go_at_call 13; refine (check_u (o := { o with gen := o.gen + 1 }) kind0 rc tc HCB (Lib.hid (⟨S6.out.2.r, S6.out.2.t⟩ : At { o with gen := o.gen + 1 } RA TA _)) 40 HXB).mono ?_; rintro e w7 ⟨rfl, hb7⟩; have S7 := Lib.hid (up S6.out hb7); clear hb7 y0 y1 y2 y3 y4 y5 y6 y7 y8 y9 y10 y11 y12 y13)
        | (go_at_call 13; refine (check_bad 13 _ _ _ _ _ _ _ _ _ _ _ _ _ _ (.inr (by decide))).mono ?_; rintro e w6 ⟨rfl, hb6⟩; have S6 := Lib.hid (up ⟨BX.out, AO.out⟩ hb6); clear y0 y1 y2 y3 y4 y5 y6 y7 y8 y9 y10 y11 y12 y13; have qb := (S6.out.1.block gb (Array.getElem?_eq_some_iff.1 RB.out).1).trans RB.out; have y0 := row14 (j := 0) qb rfl; have y1 := row14 (j := 1) qb rfl; have y2 := row14 (j := 2) qb rfl; have y3 := row14 (j := 3) qb rfl; have y4 := row14 (j := 4) qb rfl; have y5 := row14 (j := 5) qb rfl; have y6 := row14 (j := 6) qb rfl; have y7 := row14 (j := 7) qb rfl; have y8 := row14 (j := 8) qb rfl; have y9 := row14 (j := 9) qb rfl; have y10 := row14 (j := 10) qb rfl; have y11 := row14 (j := 11) qb rfl; have y12 := row14 (j := 12) qb rfl; have y13 := row14 (j := 13) qb rfl; clear qb hb6))
      skip
      obtain ⟨W7, hW⟩ : ∃ W7 : World, W7 = w7 := ⟨_, rfl⟩
      subst hW
      have T7 := S7
      have HTT : Hid (∀ w', Below W7.heap.size W7 w' → (w'.cell? ⟨w.heap.size, 0, none⟩ = some (.int .i64 kind0) ∧ w'.cell? ⟨gc, 0, none⟩ = some (.int .i64 kind0) ∧ w'.cell? ⟨gc, 1, none⟩ = some (.string o.topic) ∧ w'.cell? ⟨gc, 2, none⟩ = some (.int .i64 o.pn) ∧ w'.cell? ⟨gc, 3, none⟩ = some (.int .i64 o.n) ∧ w'.cell? ⟨gc, 4, none⟩ = some (.int .i64 o.off) ∧ w'.cell? ⟨gc, 5, none⟩ = some (.int .i64 o.bp) ∧ w'.cell? ⟨gc, 6, none⟩ = some (.int .i64 o.be) ∧ w'.cell? ⟨gc, 7, none⟩ = some (.int .i64 o.bq) ∧ w'.cell? ⟨gc, 8, none⟩ = some (.slice RA o.recs.length rc) ∧ w'.cell? ⟨gc, 9, none⟩ = some (.string o.group) ∧ w'.cell? ⟨gc, 10, none⟩ = some (.string o.member) ∧ w'.cell? ⟨gc, 11, none⟩ = some (.int .i64 o.gen) ∧ w'.cell? ⟨gc, 12, none⟩ = some (.bool true) ∧ w'.cell? ⟨gc, 13, none⟩ = some (.slice TA o.tops.length tc)) ∧ Below W7.heap.size W7 w') := Lib.hid (fun w' hb => by
        have hbb := (up T7.out hb).1
        have q := (hbb.block w.heap.size (Array.getElem?_eq_some_iff.1 RO.out).1).trans RO.out
        have qc := (hbb.block gc (Array.getElem?_eq_some_iff.1 RC.out).1).trans RC.out
        exact ⟨⟨row14 (j := 0) q rfl, row14 (j := 0) qc rfl, row14 (j := 1) qc rfl, row14 (j := 2) qc rfl, row14 (j := 3) qc rfl, row14 (j := 4) qc rfl, row14 (j := 5) qc rfl, row14 (j := 6) qc rfl, row14 (j := 7) qc rfl, row14 (j := 8) qc rfl, row14 (j := 9) qc rfl, row14 (j := 10) qc rfl, row14 (j := 11) qc rfl, row14 (j := 12) qc rfl, row14 (j := 13) qc rfl⟩, hb⟩)
      have HAT : Hid (∀ w', (w'.cell? ⟨w.heap.size, 0, none⟩ = some (.int .i64 kind0) ∧ w'.cell? ⟨gc, 0, none⟩ = some (.int .i64 kind0) ∧ w'.cell? ⟨gc, 1, none⟩ = some (.string o.topic) ∧ w'.cell? ⟨gc, 2, none⟩ = some (.int .i64 o.pn) ∧ w'.cell? ⟨gc, 3, none⟩ = some (.int .i64 o.n) ∧ w'.cell? ⟨gc, 4, none⟩ = some (.int .i64 o.off) ∧ w'.cell? ⟨gc, 5, none⟩ = some (.int .i64 o.bp) ∧ w'.cell? ⟨gc, 6, none⟩ = some (.int .i64 o.be) ∧ w'.cell? ⟨gc, 7, none⟩ = some (.int .i64 o.bq) ∧ w'.cell? ⟨gc, 8, none⟩ = some (.slice RA o.recs.length rc) ∧ w'.cell? ⟨gc, 9, none⟩ = some (.string o.group) ∧ w'.cell? ⟨gc, 10, none⟩ = some (.string o.member) ∧ w'.cell? ⟨gc, 11, none⟩ = some (.int .i64 o.gen) ∧ w'.cell? ⟨gc, 12, none⟩ = some (.bool true) ∧ w'.cell? ⟨gc, 13, none⟩ = some (.slice TA o.tops.length tc)) ∧ Below W7.heap.size W7 w' → At ({ o with robin := true } : O) RA TA w') := Lib.hid (fun w' hb => ⟨(T7.out.2.below hb.2).r, (T7.out.2.below hb.2).t⟩)
      go_region_held3 (fun w' => (w'.cell? ⟨w.heap.size, 0, none⟩ = some (.int .i64 kind0) ∧ w'.cell? ⟨gc, 0, none⟩ = some (.int .i64 kind0) ∧ w'.cell? ⟨gc, 1, none⟩ = some (.string o.topic) ∧ w'.cell? ⟨gc, 2, none⟩ = some (.int .i64 o.pn) ∧ w'.cell? ⟨gc, 3, none⟩ = some (.int .i64 o.n) ∧ w'.cell? ⟨gc, 4, none⟩ = some (.int .i64 o.off) ∧ w'.cell? ⟨gc, 5, none⟩ = some (.int .i64 o.bp) ∧ w'.cell? ⟨gc, 6, none⟩ = some (.int .i64 o.be) ∧ w'.cell? ⟨gc, 7, none⟩ = some (.int .i64 o.bq) ∧ w'.cell? ⟨gc, 8, none⟩ = some (.slice RA o.recs.length rc) ∧ w'.cell? ⟨gc, 9, none⟩ = some (.string o.group) ∧ w'.cell? ⟨gc, 10, none⟩ = some (.string o.member) ∧ w'.cell? ⟨gc, 11, none⟩ = some (.int .i64 o.gen) ∧ w'.cell? ⟨gc, 12, none⟩ = some (.bool true) ∧ w'.cell? ⟨gc, 13, none⟩ = some (.slice TA o.tops.length tc)) ∧ Below W7.heap.size W7 w')
        (first | with_reducible assumption | exact HTT.out _ (Below.refl _ _).drew | exact HTT.out _ (acc (by exact (‹_ ∧ Below W7.heap.size W7 _›).2) (by assumption)))
        (first
          | (go_at_call 13; refine (check_u (o := { o with robin := true }) kind0 rc tc HCC (Lib.hid (HAT.out _ (by assumption))) 40 HXC).mono ?_; rintro e wa ⟨rfl, hba⟩)
          | (go_at_call 19; refine (fixed4_any _).mono ?_; rintro e wb ⟨rfl, hbb⟩))
      all_goals
        rename_i hh
        go_wp2_with fail
        go_ret
        exact ⟨rfl, acc B5.out (up T7.out hh.2).1⟩
    · have k6 : (kind0 == 6) = false := by simp; omega
      have k7 : 7 ≤ kind0 := by omega
      have k8 : ¬ (kind0 ≤ 10) := by omega
      clear HW
      as_aux_lemma =>
      go_wp2_with (first
        | (have _q := S6; go_at_call 13; refine (check_u (o := { o with gen := o.gen + 1 }) kind0 rc tc HCB (Lib.hid (⟨S6.out.2.r, S6.out.2.t⟩ : At { o with gen := o.gen + 1 } RA TA _)) 40 HXB).mono ?_; rintro e w7 ⟨rfl, hb7⟩; have S7 := Lib.hid (up S6.out hb7); clear hb7 y0 y1 y2 y3 y4 y5 y6 y7 y8 y9 y10 y11 y12 y13)
        | (go_at_call 13; refine (check_bad 13 _ _ _ _ _ _ _ _ _ _ _ _ _ _ (.inr (by decide))).mono ?_; rintro e w6 ⟨rfl, hb6⟩; have S6 := Lib.hid (up ⟨BX.out, AO.out⟩ hb6); clear y0 y1 y2 y3 y4 y5 y6 y7 y8 y9 y10 y11 y12 y13; have qb := (S6.out.1.block gb (Array.getElem?_eq_some_iff.1 RB.out).1).trans RB.out; have y0 := row14 (j := 0) qb rfl; have y1 := row14 (j := 1) qb rfl; have y2 := row14 (j := 2) qb rfl; have y3 := row14 (j := 3) qb rfl; have y4 := row14 (j := 4) qb rfl; have y5 := row14 (j := 5) qb rfl; have y6 := row14 (j := 6) qb rfl; have y7 := row14 (j := 7) qb rfl; have y8 := row14 (j := 8) qb rfl; have y9 := row14 (j := 9) qb rfl; have y10 := row14 (j := 10) qb rfl; have y11 := row14 (j := 11) qb rfl; have y12 := row14 (j := 12) qb rfl; have y13 := row14 (j := 13) qb rfl; clear qb hb6))
      skip
      obtain ⟨W7, hW⟩ : ∃ W7 : World, W7 = w7 := ⟨_, rfl⟩
      subst hW
      have T7 := S7
      have HTT : Hid (∀ w', Below W7.heap.size W7 w' → (w'.cell? ⟨w.heap.size, 0, none⟩ = some (.int .i64 kind0) ∧ w'.cell? ⟨gc, 0, none⟩ = some (.int .i64 kind0) ∧ w'.cell? ⟨gc, 1, none⟩ = some (.string o.topic) ∧ w'.cell? ⟨gc, 2, none⟩ = some (.int .i64 o.pn) ∧ w'.cell? ⟨gc, 3, none⟩ = some (.int .i64 o.n) ∧ w'.cell? ⟨gc, 4, none⟩ = some (.int .i64 o.off) ∧ w'.cell? ⟨gc, 5, none⟩ = some (.int .i64 o.bp) ∧ w'.cell? ⟨gc, 6, none⟩ = some (.int .i64 o.be) ∧ w'.cell? ⟨gc, 7, none⟩ = some (.int .i64 o.bq) ∧ w'.cell? ⟨gc, 8, none⟩ = some (.slice RA o.recs.length rc) ∧ w'.cell? ⟨gc, 9, none⟩ = some (.string o.group) ∧ w'.cell? ⟨gc, 10, none⟩ = some (.string o.member) ∧ w'.cell? ⟨gc, 11, none⟩ = some (.int .i64 o.gen) ∧ w'.cell? ⟨gc, 12, none⟩ = some (.bool true) ∧ w'.cell? ⟨gc, 13, none⟩ = some (.slice TA o.tops.length tc)) ∧ Below W7.heap.size W7 w') := Lib.hid (fun w' hb => by
        have hbb := (up T7.out hb).1
        have q := (hbb.block w.heap.size (Array.getElem?_eq_some_iff.1 RO.out).1).trans RO.out
        have qc := (hbb.block gc (Array.getElem?_eq_some_iff.1 RC.out).1).trans RC.out
        exact ⟨⟨row14 (j := 0) q rfl, row14 (j := 0) qc rfl, row14 (j := 1) qc rfl, row14 (j := 2) qc rfl, row14 (j := 3) qc rfl, row14 (j := 4) qc rfl, row14 (j := 5) qc rfl, row14 (j := 6) qc rfl, row14 (j := 7) qc rfl, row14 (j := 8) qc rfl, row14 (j := 9) qc rfl, row14 (j := 10) qc rfl, row14 (j := 11) qc rfl, row14 (j := 12) qc rfl, row14 (j := 13) qc rfl⟩, hb⟩)
      have HAT : Hid (∀ w', (w'.cell? ⟨w.heap.size, 0, none⟩ = some (.int .i64 kind0) ∧ w'.cell? ⟨gc, 0, none⟩ = some (.int .i64 kind0) ∧ w'.cell? ⟨gc, 1, none⟩ = some (.string o.topic) ∧ w'.cell? ⟨gc, 2, none⟩ = some (.int .i64 o.pn) ∧ w'.cell? ⟨gc, 3, none⟩ = some (.int .i64 o.n) ∧ w'.cell? ⟨gc, 4, none⟩ = some (.int .i64 o.off) ∧ w'.cell? ⟨gc, 5, none⟩ = some (.int .i64 o.bp) ∧ w'.cell? ⟨gc, 6, none⟩ = some (.int .i64 o.be) ∧ w'.cell? ⟨gc, 7, none⟩ = some (.int .i64 o.bq) ∧ w'.cell? ⟨gc, 8, none⟩ = some (.slice RA o.recs.length rc) ∧ w'.cell? ⟨gc, 9, none⟩ = some (.string o.group) ∧ w'.cell? ⟨gc, 10, none⟩ = some (.string o.member) ∧ w'.cell? ⟨gc, 11, none⟩ = some (.int .i64 o.gen) ∧ w'.cell? ⟨gc, 12, none⟩ = some (.bool true) ∧ w'.cell? ⟨gc, 13, none⟩ = some (.slice TA o.tops.length tc)) ∧ Below W7.heap.size W7 w' → At ({ o with robin := true } : O) RA TA w') := Lib.hid (fun w' hb => ⟨(T7.out.2.below hb.2).r, (T7.out.2.below hb.2).t⟩)
      go_region_held3 (fun w' => (w'.cell? ⟨w.heap.size, 0, none⟩ = some (.int .i64 kind0) ∧ w'.cell? ⟨gc, 0, none⟩ = some (.int .i64 kind0) ∧ w'.cell? ⟨gc, 1, none⟩ = some (.string o.topic) ∧ w'.cell? ⟨gc, 2, none⟩ = some (.int .i64 o.pn) ∧ w'.cell? ⟨gc, 3, none⟩ = some (.int .i64 o.n) ∧ w'.cell? ⟨gc, 4, none⟩ = some (.int .i64 o.off) ∧ w'.cell? ⟨gc, 5, none⟩ = some (.int .i64 o.bp) ∧ w'.cell? ⟨gc, 6, none⟩ = some (.int .i64 o.be) ∧ w'.cell? ⟨gc, 7, none⟩ = some (.int .i64 o.bq) ∧ w'.cell? ⟨gc, 8, none⟩ = some (.slice RA o.recs.length rc) ∧ w'.cell? ⟨gc, 9, none⟩ = some (.string o.group) ∧ w'.cell? ⟨gc, 10, none⟩ = some (.string o.member) ∧ w'.cell? ⟨gc, 11, none⟩ = some (.int .i64 o.gen) ∧ w'.cell? ⟨gc, 12, none⟩ = some (.bool true) ∧ w'.cell? ⟨gc, 13, none⟩ = some (.slice TA o.tops.length tc)) ∧ Below W7.heap.size W7 w')
        (first | with_reducible assumption | exact HTT.out _ (Below.refl _ _).drew | exact HTT.out _ (acc (by exact (‹_ ∧ Below W7.heap.size W7 _›).2) (by assumption)))
        (first
          | (go_at_call 13; refine (check_u (o := { o with robin := true }) kind0 rc tc HCC (Lib.hid (HAT.out _ (by assumption))) 40 HXC).mono ?_; rintro e wa ⟨rfl, hba⟩)
          | (go_at_call 19; refine (fixed4_any _).mono ?_; rintro e wb ⟨rfl, hbb⟩))
      all_goals
        rename_i hh
        go_wp2_with fail
        go_ret
        exact ⟨rfl, acc B5.out (up T7.out hh.2).1⟩

theorem walk (w : World) (kind0 : Int) (topic0 : ByteArray) (pn0 n0 off0 bp0 be0 bq0 : Int) (RA0 : Option Addr) (recs0 : List R) (rc0 : Nat) (group0 member0 : ByteArray) (gen0 : Int) (robin0 : Bool) (TA0 : Option Addr) (tops0 : List ByteArray) (tc0 : Nat) (R0 : IsRecs w RA0 recs0) (T0 : IsTops w TA0 tops0) (zt0 : Hid (topic0.size ≤ maxLen)) (zg0 : Hid (group0.size ≤ maxLen)) (zm0 : Hid (member0.size ≤ maxLen)) :
    Calls Try.prog 7 #[.agg #[.int .i64 kind0, .string topic0, .int .i64 pn0, .int .i64 n0, .int .i64 off0, .int .i64 bp0, .int .i64 be0, .int .i64 bq0, .slice RA0 recs0.length rc0, .string group0, .string member0, .int .i64 gen0, .bool robin0, .slice TA0 tops0.length tc0]] w fun e w' => e = .returned (.bool true) ∧ Below w.heap.size w w' := by
  obtain ⟨o, ho⟩ : ∃ o, o = cutO kind0.toNat topic0 pn0 n0 off0 bp0 be0 bq0 recs0 group0 member0 gen0 robin0 tops0 := ⟨_, rfl⟩
  have HCO : Hid (Cutd o) := Lib.hid (by rw [ho]; exact cutO_cut _ _ _ _ _ _ _ _ _ _ _ _ _ _)
  have HKO : o.kind = kind0.toNat := by rw [ho]; rfl
  obtain ⟨x, hx⟩ := ChkU.ex kind0 o HKO
  by_cases h0 : x = 0
  · subst h0
    obtain ⟨h1, h2, h3⟩ := hx.ok
    have HCB : Hid (Cutd ({ o with gen := o.gen + 1 } : O)) := Lib.hid ⟨HCO.out.t, HCO.out.g, HCO.out.m, HCO.out.r, HCO.out.rs, HCO.out.l, HCO.out.ls⟩
    have HCC : Hid (Cutd ({ o with robin := true } : O)) := Lib.hid ⟨HCO.out.t, HCO.out.g, HCO.out.m, HCO.out.r, HCO.out.rs, HCO.out.l, HCO.out.ls⟩
    have gB : (o.kind < 7 ∨ 10 < o.kind) → ChkU kind0 { o with gen := o.gen + 1 } 40 := fun q => .inl ⟨h1, h2, gen_more h2 h3 (fun q2 => by have := (has11 _ h2).1 q2; omega)⟩
    have gC : o.kind ≠ 6 → ChkU kind0 { o with robin := true } 40 := fun q => .inl ⟨h1, h2, robin_no h2 q⟩
    refine way_ok w kind0 topic0 pn0 n0 off0 bp0 be0 bq0 RA0 recs0 rc0 group0 member0 gen0 robin0 TA0 tops0 tc0 R0 T0 zt0 zg0 zm0 o (Lib.hid ho) HCO (Lib.hid hx) (gen_range h2 h3).1 (gen_range h2 h3).2 HCB HCC ?_
    by_cases k6 : o.kind = 6
    · exact .inl ⟨by omega, Lib.hid (gB (by omega)), Lib.hid (.inl ⟨h1, h2, robin_6 k6 h3⟩)⟩
    · by_cases k7 : 7 ≤ o.kind ∧ o.kind ≤ 10
      · exact .inr (.inl ⟨by omega, Lib.hid (gC k6)⟩)
      · by_cases k8 : o.kind < 6
        · exact .inr (.inr (.inl ⟨by omega, Lib.hid (gB (by omega)), Lib.hid (gC k6)⟩))
        · exact .inr (.inr (.inr ⟨by omega, Lib.hid (gB (by omega)), Lib.hid (gC k6)⟩))
  · exact way_bad w kind0 topic0 pn0 n0 off0 bp0 be0 bq0 RA0 recs0 rc0 group0 member0 gen0 robin0 TA0 tops0 tc0 R0 T0 zt0 zg0 zm0 o (Lib.hid ho) HCO x (by simpa using h0) (Lib.hid hx)

set_option maxRecDepth 100000 in
theorem lifted (os : Os) (started : os.Started) (H : Type) (enc : TypeId × Value → H) :
    ReturnsInHanded {} Try.checked os 7 .any (Rows.requestOnlySpec.pre6 enc Try.prog Try.f7 Rows.requestOnlyRow.domain false) (Rows.requestOnlySpec.post enc Try.prog Try.f7 false true false false) := by
  refine returnsInHanded_of_change (C := Try.checked) own started (by kernel_rfl) Try.func7
    (ChangeSpec.witness6 (enc := enc) (C := Try.checked) false ⟨#[], #[.agg #[.int .i64 0, .string ByteArray.empty, .int .i64 0, .int .i64 0, .int .i64 0, .int .i64 0, .int .i64 0, .int .i64 0, .slice none 0 0, .string ByteArray.empty, .string ByteArray.empty, .int .i64 0, .bool false, .slice none 0 0]], []⟩ 8 (by kernel_rfl) (by kernel_rfl) (by kernel_rfl) (by kernel_rfl)) ?_
  intro W base args ds gs before hval0 hW _ _
  have hval : ∀ (j : Nat) t v, Try.f7.params[j]? = some t → args[j]? = some v → Value.okWide Try.prog W .any base t v := hval0
  have hW' := hW
  obtain ⟨p, q, hA0, hV, rfl, hfz, hnd⟩ := hW
  have hA : DataW.TrodAll enc Try.prog W 0 (fun _ => true) true Try.f7.params.toList args.toList ds p := hA0
  rw [Try.params7] at hA hval
  obtain ⟨v0, vs0, d0, ds0, p0, q0, hargs, rfl, rfl, h0, r0⟩ := trodAll_cons hA
  obtain ⟨rfl, rfl, rfl⟩ := trodAll_nil r0
  obtain rfl : args = #[v0] := by cases args; simp_all
  obtain ⟨rfl, rfl⟩ := trodVars_none hV
  have k0 := h0
  have lt0 : ∀ x ∈ p0, x.block < W.heap.size := by obtain ⟨m, hm⟩ := k0; exact DataW.trod_lt m _ _ _ hm
  obtain ⟨kind0, topic0, pn0, n0, off0, bp0, be0, bq0, RA0, recs0, rc0, group0, member0, gen0, robin0, TA0, tops0, tc0, e0, R0, T0, zt0, zg0, zm0⟩ := L4.open_op (hval 0 29 v0 rfl rfl) h0
  subst e0
  clear hA0 hval0
  refine (walk W kind0 topic0 pn0 n0 off0 bp0 be0 bq0 RA0 recs0 rc0 group0 member0 gen0 robin0 TA0 tops0 tc0 R0 T0 zt0 zg0 zm0).mono fun e W' ⟨he, bel⟩ => ?_
  subst he
  exact ⟨_, rfl, _, _, _, [], _, [], hW', trodAll_mk1 (shut_bool Try.underlying4 _), (trodAll_cons_mk (Below.trod laidOut (by kernel_rfl) (of_decide_eq_true (by kernel_rfl)) k0 bel lt0) trodAll_mk0), rfl, bel.frame _, fun h => by cases h⟩

theorem over : Rows.requestOnlyRow.holds Try.pinned (OpenSpec.ofChange Rows.requestOnlySpec) :=
  OpenClaim.holds_of_wide 7 Try.f7 rfl rfl rfl rfl rfl rfl rfl ⟨rfl, rfl, rfl, rfl, rfl⟩ rfl rfl rfl rfl rfl (by kernel_rfl) Try.func7 (by kernel_rfl)
    (of_decide_eq_true (by kernel_rfl)) (by unfold Func.isWrapper; first | (rw [if_pos (by decide +kernel)]; kernel_rfl) | (rw [if_neg (by decide +kernel)]; exact ⟨rfl, rfl⟩))
    (fun os started H enc _ => lifted os started H enc)

/-- the statement -/
theorem proved : Rows.RequestOnlySaid :=
  over
#print axioms proved
end Go.Proofs.Ytlhkhccpeohefaa.requestOnly

