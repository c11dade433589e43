/-
  Proved: whether any topics and members may be, and who has which partitions, by stretches and one after the other, is as the document says; what is told is its owner's (of at most 10 topics and members). No condition.
-/
import Derived.Test.YthongbobopampaaRows
import Derived.WalkKit
import Derived.ProofKit
import Derived.OpenShut
import Derived.ShutString
import Derived.ChangeOld
import Derived.Below
import Derived.Test.YthongbobopampaaAsTell
import Derived.Deep.RegionHeld3
import Derived.Deep.RegionHeld
import Derived.OrdersHeld
import Derived.Deep.DeepCutAuto
import Derived.Deep.CutBlock
import Derived.LoopTactic
import Derived.IntWalk
namespace Go.Proofs.Ythongbobopampaa.assignTells
open Go.ChangeShapes Go.WideShapes Go.ChangeAt Go.RowKit Go.Deep
open Go.ChangeMaps (open_string shut_string)
open L3 L4 L9 L10

theorem own : ownKnob Try.prog.godebug = none := by kernel_rfl
theorem laidOut : laidOutB Try.prog = true := by kernel_rfl

theorem drewBA (w : World) : Below w.heap.size w w.drew := (Below.refl _ _).drew
theorem keep1t {W w1 w2 : World} {a0 : Addr} {v0 : Value} (h : w1.cell? a0 = some v0 ∧ Below W.heap.size W w1) (hb : Below w1.heap.size w1 w2) : w2.cell? a0 = some v0 ∧ Below W.heap.size W w2 := ⟨cellAt hb h.1, h.2.trans (hb.mono h.2.size)⟩
theorem keep2t {W w1 w2 : World} {a0 a1 : Addr} {v0 v1 : Value} (h : (w1.cell? a0 = some v0 ∧ w1.cell? a1 = some v1) ∧ Below W.heap.size W w1) (hb : Below w1.heap.size w1 w2) : (w2.cell? a0 = some v0 ∧ w2.cell? a1 = some v1) ∧ Below W.heap.size W w2 :=
  ⟨⟨cellAt hb h.1.1, cellAt hb h.1.2⟩, h.2.trans (hb.mono h.2.size)⟩
theorem keep5t {W w1 w2 : World} {a a0 a1 a2 a3 : Addr} {v v0 v1 v2 v3 : Value} (h : (w1.cell? a = some v ∧ w1.cell? a0 = some v0 ∧ w1.cell? a1 = some v1 ∧ w1.cell? a2 = some v2 ∧ w1.cell? a3 = some v3) ∧ Below W.heap.size W w1) (hb : Below w1.heap.size w1 w2) :
    (w2.cell? a = some v ∧ w2.cell? a0 = some v0 ∧ w2.cell? a1 = some v1 ∧ w2.cell? a2 = some v2 ∧ w2.cell? a3 = some v3) ∧ Below W.heap.size W w2 :=
  ⟨⟨cellAt hb h.1.1, cellAt hb h.1.2.1, cellAt hb h.1.2.2.1, cellAt hb h.1.2.2.2.1, cellAt hb h.1.2.2.2.2⟩, h.2.trans (hb.mono h.2.size)⟩
set_option maxRecDepth 100000 in
set_option maxHeartbeats 16000000 in
theorem walk (W : World) (A0 B0 : Option Addr) (l0 : List Pt) (m0 : List Me) (c0 d0 : Nat) (R0 : IsAsk W A0 B0 l0 m0) (t1 : ByteArray) (n1 : Int) (z1 : t1.size ≤ maxLen) (_w1 : (Lit.int .i64 n1).wf = true) :
    Calls Try.prog 3 #[.agg #[.slice A0 l0.length c0, .slice B0 m0.length d0], .agg #[.string t1, .int .i64 n1]] W fun e w' => e = .returned (.bool true) ∧ Below W.heap.size W w' := by
  obtain ⟨W2, hW2⟩ : ∃ W2, (W.alloc (.cells #[.slice A0 l0.length c0, .slice B0 m0.length d0] 25)).alloc (.cells #[.string t1, .int .i64 n1] 27) = W2 := ⟨_, rfl⟩
  have hs1 : (W.alloc (.cells #[.slice A0 l0.length c0, .slice B0 m0.length d0] 25)).heap.size = W.heap.size + 1 := by simp
  have hb1 := one_box' (w := W) (.cells #[.slice A0 l0.length c0, .slice B0 m0.length d0] 25)
  have hb2 : Below W.heap.size W W2 := by rw [← hW2]; exact hb1.alloc hb1.size _
  have hra : W2.heap[W.heap.size]? = some (.cells #[.slice A0 l0.length c0, .slice B0 m0.length d0] 25 (0, 0)) := by rw [← hW2]; exact (Below.heap_alloc _ _ _ (by rw [hs1]; omega)).trans (heap_alloc_new _ _)
  have hrp : W2.heap[W.heap.size + 1]? = some (.cells #[.string t1, .int .i64 n1] 27 (0, 0)) := by rw [← hW2, ← hs1]; exact heap_alloc_new _ _
  obtain ⟨ab, hab⟩ : ∃ ab, W.heap.size = ab := ⟨_, rfl⟩
  obtain ⟨pb, hpb⟩ : ∃ pb, ab + 1 = pb := ⟨_, rfl⟩
  rw [hab] at hra hrp
  rw [hpb] at hrp
  obtain ⟨L, hLL⟩ : ∃ L, (l0.take 10).map cutP = L := ⟨_, rfl⟩
  obtain ⟨M, hMM⟩ : ∃ M, (m0.take 10).map (fun v => cutM v.m) = M := ⟨_, rfl⟩
  have HLL := Lib.hid hLL
  have HMM := Lib.hid hMM
  have HI2 := Lib.hid (R0.below hb2)
  obtain ⟨t, ht⟩ : ∃ t, L10.cutS t1 = t := ⟨_, rfl⟩
  have HC' : t1.extract 0 (min (t1.size : Int) 40).toNat = t := ht
  unfold maxLen at z1
  have e0 : (0 : Int) ≤ min (t1.size : Int) 40 := by omega
  have e1 : min (t1.size : Int) 40 ≤ (t1.size : Int) := by omega
  have e2 : (min (t1.size : Int) 40).toNat ≤ t1.size := by omega
  have HTS : Hid (t.size ≤ 40) := Lib.hid (by rw [← ht]; exact L10.cutS_size _)
  have HEQ := Lib.hid hW2
  have HAB := Lib.hid hab
  have HPB := Lib.hid hpb
  have HB2 := Lib.hid hb2
  have HRA := Lib.hid hra
  have HRP := Lib.hid hrp
  have y0 := (cell_of_row _ _ 0 _ _ _ hra).trans rfl
  have y1 := (cell_of_row _ _ 1 _ _ _ hra).trans rfl
  clear hW2 hb1 hb2 hra hrp hLL hMM ht hs1 hab hpb
  go_enter Try.func3, Try.ntmps3
  go_upto_region 1 with (fail)
  try rw [HEQ.out]
  try rw [HAB.out]
  try rw [HPB.out]
  go_upto_region 2 with (go_at_call 4; refine (cut_is W2 A0 B0 l0 m0 l0.length c0 m0.length d0 HI2.out (Lib.hid rfl) (Lib.hid rfl) L M HLL HMM).mono ?_; intro e w1 hcp; obtain ⟨A, c, Am, cm, rfl, hP, hb1⟩ := hcp; have hrow := (hb1.block ab (Array.getElem?_eq_some_iff.1 HRA.out).1).trans HRA.out; have hprw := (hb1.block pb (Array.getElem?_eq_some_iff.1 HRP.out).1).trans HRP.out; have x0 := (cell_of_row _ _ 0 _ _ _ hrow).trans rfl; have x1 := (cell_of_row _ _ 1 _ _ _ hrow).trans rfl; have f0 := frozen_of_row _ _ 0 _ _ hrow; have f1 := frozen_of_row _ _ 1 _ _ hrow; have HP1 := Lib.hid hP; have HB1 := Lib.hid hb1; have HPRW := Lib.hid hprw; clear hP hb1 hrow hprw)
  have hne : pb ≠ ab := by have := HPB.out; omega
  obtain ⟨w2, hw2⟩ : ∃ w2, (w1.setCell ⟨ab, 0, none⟩ (.slice A L.length c)).setCell ⟨ab, 1, none⟩ (.slice Am M.length cm) = w2 := ⟨_, rfl⟩
  have hpr : w2.heap[pb]? = some (.cells #[.string t1, .int .i64 n1] 27 (0, 0)) := by rw [← hw2]; exact ((Below.heap_setCell _ _ _ _ hne).trans (Below.heap_setCell _ _ _ _ hne)).trans HPRW.out
  have p0 := (cell_of_row _ _ 0 _ _ _ hpr).trans rfl
  have fp := frozen_of_row _ _ 0 _ _ hpr
  have HW2 := Lib.hid hw2
  rw [hw2]
  clear hw2 hpr x0 x1 f0 f1 y0 y1
  go_upto_region 3 with (fail)
  have hAP : AskP W (w2.setCell ⟨pb, 0, none⟩ (.string t)) ab pb A Am L.length c M.length cm L M t n1 := by
    rw [← HW2.out]
    exact askP_start HB2.out HB1.out (by have := HAB.out; omega) (by have := HAB.out; have := HPB.out; omega) (Ne.symm hne) HRA.out HRP.out HP1.out
  obtain ⟨w3, hw3⟩ : ∃ w3, w2.setCell ⟨pb, 0, none⟩ (.string t) = w3 := ⟨_, rfl⟩
  rw [hw3] at hAP ⊢
  have AP3 := Lib.hid hAP
  obtain ⟨n, hn⟩ : ∃ n, L.length = n := ⟨_, rfl⟩
  obtain ⟨m, hm⟩ : ∃ m, M.length = m := ⟨_, rfl⟩
  rw [hn, hm] at AP3
  have HN := Lib.hid hn
  have HM := Lib.hid hm
  obtain ⟨x, hx⟩ := chk_is1 L M
  have HX := Lib.hid hx
  obtain ⟨R, hR⟩ : ∃ R, rangeX L M x = R := ⟨_, rfl⟩
  obtain ⟨S, hS⟩ : ∃ S, robinX L M x = S := ⟨_, rfl⟩
  have HR := Lib.hid hR
  have HS := Lib.hid hS
  have HR6 : Hid (∀ y ∈ R, y.length ≤ 1000000) := Lib.hid (by rw [← hR]; exact rangeX_64 hx)
  have HS6 : Hid (∀ y ∈ S, y.length ≤ 1000000) := Lib.hid (by rw [← hS]; exact robinX_64 hx)
  obtain ⟨q, hq⟩ : ∃ q, R.length = q := ⟨_, rfl⟩
  have HQ := Lib.hid hq
  have HQS : Hid (S.length = q) := Lib.hid (by rw [← hS, ← hq, ← hR, robinX_len, rangeX_len])
  have hq6 : q ≤ 1000000 := by
    have := rangeX_len L M x
    rw [hR, hq, hm] at this
    have h2 := AP3.out.im.n1
    rw [this]; unfold numX; split <;> omega
  obtain ⟨v1, hv1⟩ := who_is R ⟨t, n1⟩
  obtain ⟨v2, hv2⟩ := who_is S ⟨t, n1⟩
  have HV1 := Lib.hid hv1
  have HV2 := Lib.hid hv2
  clear hw3 hAP hn hm hx hR hS hq hv1 hv2 p0 fp e0 e1 e2 HC' hne HP1 HB1 HPRW HW2 HB2 HRA HRP HI2
  go_wp2_with fail
  go_loopw [5] (fun i wr => ∃ k : Nat, k ≤ 2 ∧ i = .int .i64 k ∧ Hid (AskP W wr ab pb A Am n c m cm L M t n1)) (fun i _ => 2 - (intOf i).toNat)
  case atStart => exact ⟨0, by omega, rfl, AP3⟩
  case round =>
    clear AP3
    obtain ⟨k, hk, rfl, P0⟩ := hrel
    obtain ⟨wo, hwo⟩ : ∃ z, z = wr := ⟨_, rfl⟩
    rw [← hwo] at P0 ⊢
    clear hwo
    by_cases hlt : k < 2
    · obtain ⟨y0, y1, z0', z1'⟩ := P0.out.c
      have k0 : (0 : Int) ≤ (k : Int) := by omega
      have k1 : (k : Int) < 2 := by omega
      go_upto_region 10 with (first
        | (go_at_call 8; have _q := P3; refine (rrobin_any _ A Am n c m cm q L M x S (Lib.hid P3.out.il) (Lib.hid P3.out.im) HX HS HQS).mono ?_; rintro e w4 ⟨A4, c4, rfl, r4, h4⟩; have RD4 := Lib.hid r4; have HB4 := Lib.hid h4; have P4 := Lib.hid (P3.out.below h4); obtain ⟨y0, y1, z0', z1'⟩ := P4.out.c; clear r4 h4)
        | (go_at_call 7; have _q := P2; refine (robin_any _ A Am n c m cm q L M x S (Lib.hid P2.out.il) (Lib.hid P2.out.im) HX HS HQS).mono ?_; rintro e w3 ⟨A3, c3, rfl, r3, h3⟩; have RD3 := Lib.hid r3; have HB3 := Lib.hid h3; have P3 := Lib.hid (P2.out.below h3); obtain ⟨y0, y1, z0', z1'⟩ := P3.out.c; clear r3 h3)
        | (go_at_call 6; have _q := P1; refine (rrange_any _ A Am n c m cm q L M x R (Lib.hid P1.out.il) (Lib.hid P1.out.im) HX HR HQ).mono ?_; rintro e w2 ⟨A2, c2, rfl, r2, h2⟩; have RD2 := Lib.hid r2; have HB2 := Lib.hid h2; have P2 := Lib.hid (P1.out.below h2); obtain ⟨y0, y1, z0', z1'⟩ := P2.out.c; clear r2 h2)
        | (go_at_call 5; refine (range_any _ A Am n c m cm q L M x R (Lib.hid P0.out.il) (Lib.hid P0.out.im) HX HR HQ).mono ?_; rintro e w1 ⟨A1, c1, sl, rfl, s1, e1, r1, h1⟩; have SL1 := Lib.hid s1; have HSX := Lib.hid e1; have RD1 := Lib.hid r1; have HB1 := Lib.hid h1; have P1 := Lib.hid (P0.out.below h1); obtain ⟨y0, y1, z0', z1'⟩ := P1.out.c; clear s1 e1 r1 h1))
      have R1 := Lib.hid ((((RD1.out.below HB2.out).mono HB2.out.size).below HB3.out |>.mono HB3.out.size).below HB4.out |>.mono HB4.out.size)
      have R2 := Lib.hid (((RD2.out.below HB3.out).mono HB3.out.size).below HB4.out |>.mono HB4.out.size)
      have R3 := Lib.hid ((RD3.out.below HB4.out).mono HB4.out.size)
      have SL4 := Lib.hid (((SL1.out.below HB2.out).below HB3.out).below HB4.out)
      have HC4 := Lib.hid (HB1.out.trans ((HB2.out.trans ((HB3.out.trans (HB4.out.mono HB3.out.size)).mono HB2.out.size)).mono HB1.out.size))
      clear RD1 RD2 RD3 SL1 HB1 HB2 HB3 HB4 P1 P2 P3
      go_upto_region 12 with (first
        | (go_at_call 11; have _q := G7; refine (rsame_is _ _ _ A3 A4 q q c3 c4 S S true R3c R4c HQS HQS hq6 HS6 (Lib.hid (by simp))).mono ?_; rintro e w8 ⟨rfl, h8⟩; have G8 := Lib.hid (G7.out.trans (h8.mono G7.out.size)); clear h8)
        | (go_at_call 11; have _q := G6; refine (rsame_is _ _ _ A1 A2 q q c1 c2 R R true R1b R2b HQ HQ hq6 HR6 (Lib.hid (by simp))).mono ?_; rintro e w7 ⟨rfl, h7⟩; have G7 := Lib.hid (G6.out.trans (h7.mono G6.out.size)); have R3c := Lib.hid ((R3.out.below G7.out).mono G7.out.size); have R4c := Lib.hid ((RD4.out.below G7.out).mono G7.out.size); clear h7)
        | (go_at_call 10; have _q := G5; refine (check_is _ A Am n c m cm L M x (Lib.hid P5.out.il) (Lib.hid P5.out.im) HX).mono ?_; rintro e w6 ⟨rfl, h6⟩; have G6 := Lib.hid (G5.out.trans (h6.mono G5.out.size)); have R1b := Lib.hid ((R1.out.below G6.out).mono G6.out.size); have R2b := Lib.hid ((R2.out.below G6.out).mono G6.out.size); clear h6)
        | (go_at_call 9; refine (rcheck_is _ A Am n c m cm L M x (Lib.hid P4.out.il) (Lib.hid P4.out.im) HX).mono ?_; rintro e w5 ⟨rfl, h5⟩; have G5 := Lib.hid h5; have P5 := Lib.hid (P4.out.below h5); obtain ⟨y0, y1, z0', z1'⟩ := P5.out.c; clear h5))
      have P8 := Lib.hid (P4.out.below G8.out)
      have R1d := Lib.hid ((R1.out.below G8.out).mono G8.out.size)
      have R2d := Lib.hid ((R2.out.below G8.out).mono G8.out.size)
      have R3d := Lib.hid ((R3.out.below G8.out).mono G8.out.size)
      have R4d := Lib.hid ((RD4.out.below G8.out).mono G8.out.size)
      have SL8 := Lib.hid (SL4.out.below G8.out)
      have HC8 := Lib.hid (HC4.out.trans (G8.out.mono HC4.out.size))
      clear HC4
      clear R1 R2 R3 RD4 SL4 G5 G6 G7 P4 P5 y0 y1 R1b R2b R3c R4c
      obtain ⟨_, _, z0', z1'⟩ := P8.out.c
      have hS := And.intro (And.intro z0' z1') (Below.refl w8.heap.size w8)
      go_region_held3 (fun w' => (w'.cell? ⟨pb, 0, none⟩ = some (.string t) ∧ w'.cell? ⟨pb, 1, none⟩ = some (.int .i64 n1)) ∧ Below w8.heap.size w8 w')
        (first | assumption | exact keep2t hS (drewBA _) | exact keep2t (by assumption) (by assumption) | exact keep2t (by assumption) (drewBA _))
        (first
          | (go_at_call 13; have _q := D3; refine (rwhose_is _ _ A4 q c4 S t n1 v2 (Lib.hid ((R4d.out.below D3.out).mono D3.out.size)) HQS hq6 HS6 HV2).mono ?_; rintro e w12 ⟨rfl, h12⟩; have D4 : Hid (Below w8.heap.size w8 w12) := Lib.hid (D3.out.trans (h12.mono D3.out.size)))
          | (go_at_call 12; have _q := D2; refine (whose_is _ _ A3 q c3 S t n1 v2 (Lib.hid ((R3d.out.below D2.out).mono D2.out.size)) HQS hq6 HS6 HV2).mono ?_; rintro e w11 ⟨rfl, h11⟩; have D3 : Hid (Below w8.heap.size w8 w11) := Lib.hid (D2.out.trans (h11.mono D2.out.size)))
          | (go_at_call 13; have _q := D1; refine (rwhose_is _ _ A2 q c2 R t n1 v1 (Lib.hid ((R2d.out.below D1.out).mono D1.out.size)) HQ hq6 HR6 HV1).mono ?_; rintro e w10 ⟨rfl, h10⟩; have D2 : Hid (Below w8.heap.size w8 w10) := Lib.hid (D1.out.trans (h10.mono D1.out.size)))
          | (go_at_call 12; refine (whose_is _ _ A1 q c1 R t n1 v1 (Lib.hid ((R1d.out.below (drewBA _)).mono (drewBA _).size)) HQ hq6 HR6 HV1).mono ?_; rintro e w9 ⟨rfl, h9⟩; have D1 : Hid (Below w8.heap.size w8 w9) := Lib.hid ((drewBA _).trans (h9.mono (drewBA _).size))))
      all_goals
        rename_i hh
        have HBN := Lib.hid hh.2
        clear hh hS z0' z1'
        have SLN := Lib.hid (SL8.out.below HBN.out)
        have HCN : Hid (Below wo.heap.size wo w12) := Lib.hid (HC8.out.trans (HBN.out.mono HC8.out.size))
        clear SL8 HC8 P8 R1d R2d R3d R4d D1 D2 D3 D4
        go_wp2_with fail
        go_loopw [14] (fun iv wr => ∃ i : Nat, i ≤ q ∧ iv = .int .i64 i ∧ Hid (SL wr wo.heap.size A1 q c1 sl) ∧ Hid (Below wo.heap.size wo wr)) (fun iv _ => q - (intOf iv).toNat)
        case atStart => exact ⟨0, Nat.zero_le _, rfl, SLN, HCN⟩
        case round =>
          clear SLN HCN
          obtain ⟨i, hi, rfl, HL, HC⟩ := hrel
          by_cases hil : i < q
          · obtain ⟨⟨sA, sc, sx⟩, hs⟩ : ∃ z, sl[i]? = some z := ⟨_, List.getElem?_eq_getElem (by rw [HL.out.len]; exact hil)⟩
            obtain ⟨g, hA1, _⟩ := HL.out.at hs
            subst hA1
            obtain ⟨mm, hmm⟩ : ∃ z, sx.length = z := ⟨_, rfl⟩
            have hmm6 : mm ≤ 1000000 := by
              rw [← hmm]
              exact HR6.out sx (by rw [← HSX.out]; exact List.mem_map.2 ⟨_, List.mem_of_getElem? hs, rfl⟩)
            have HSS := Lib.hid hs
            have HMM := Lib.hid hmm
            have i0 : (0 : Int) ≤ (i : Int) := by omega
            have i1 : (i : Int) < (q : Int) := by omega
            clear hs hmm
            go_wp2_with fail
            go_loopw [15] (fun kv wr => ∃ j : Nat, j ≤ mm ∧ kv = .int .i64 j ∧ Hid (SL wr wo.heap.size (some ⟨g, 0, none⟩) q c1 sl) ∧ Hid (Below wo.heap.size wo wr)) (fun kv _ => mm - (intOf kv).toNat)
            case atStart => exact ⟨0, Nat.zero_le _, rfl, HL, HC⟩
            case round =>
              clear HL HC
              obtain ⟨j, hj, rfl, HL, HC⟩ := hrel
              obtain ⟨g2, hA2, hcell⟩ := HL.out.at HSS.out
              injection hA2 with hA2; injection hA2 with hA2
              subst hA2
              unfold Sl.v at hcell
              dsimp only at hcell
              rw [HMM.out] at hcell
              by_cases hjl : j < mm
              · obtain ⟨g3, hA3, hb3, hf3, z3, hz3⟩ := (HL.out.each _ (List.mem_of_getElem? HSS.out)).cell (k := j) (by rw [HMM.out]; exact hjl)
                dsimp only at hA3
                have HSET : Hid (∀ v : Value, SL (wr.setCell ⟨g3, j * 2 + 1, none⟩ v) wo.heap.size (some ⟨g, 0, none⟩) q c1 sl) := Lib.hid (fun v => HL.out.set (List.mem_of_getElem? HSS.out) (by rw [HMM.out]; omega) hA3)
                have HCS : Hid (∀ v : Value, Below wo.heap.size wo (wr.setCell ⟨g3, j * 2 + 1, none⟩ v)) := Lib.hid (fun v => HC.out.setCell (p := ⟨g3, j * 2 + 1, none⟩) hb3 v)
                rw [hA3] at hcell
                have j0 : (0 : Int) ≤ (j : Int) := by omega
                have j1 : (j : Int) < (mm : Int) := by omega
                clear hA3 hb3
                go_wp2_with fail
                go_roundw
                case rel => exact ⟨j + 1, by omega, by go_num, Lib.hid (HSET.out _), Lib.hid (HCS.out _)⟩
                case measure => simp [intOf]; omega
              · have j1 : ¬ (j : Int) < (mm : Int) := by omega
                go_wp2_with fail
                go_roundw
                case rel => exact ⟨i + 1, by omega, by go_num, HL, HC⟩
                case measure => simp [intOf]; omega
          · have i1 : ¬ (i : Int) < (q : Int) := by omega
            go_wp2_with fail
            go_roundw
            case rel => exact ⟨k + 1, by omega, by go_num, Lib.hid (P0.out.below HC.out)⟩
            case measure => simp [intOf]; omega
    · obtain rfl : k = 2 := by omega
      clear hlt
      obtain ⟨y0, y1, z0', z1'⟩ := P0.out.c
      by_cases hm0 : m = 0
      · have t0 : ((m : Int) == 0) = true := by simp [hm0]
        clear hm0
        go_upto_region 21 with (fail)
        refine wp_region_held_drew (S := fun w' => w'.cell? ⟨ab, 1, none⟩ = some (.slice Am m cm) ∧ Below wo.heap.size wo w') (by kernel_rfl) (keep1t ⟨y1, Below.refl _ _⟩ (Below.refl _ _).drew) (fun hHeld => ?_)
        refine wpAnyH_take (i := 0) (oi := ?o1) (v := ?v1) ?a1 (by kernel_rfl) (by kernel_rfl) (by kernel_rfl) ?q1 (Or.inl ⟨?g1, ?y1⟩) (by assumption) ?r1; (case' a1 => (simp only [List.getElem?_toArray, List.getElem?_cons_zero]; rfl)); (case' q1 => (exact fun _ _ _ h => h)); (case' g1 => rfl); (case' y1 => (intro w hSw; (try dsimp only at hSw); go_simp; try with_reducible rfl)); (case' r1 => (try simp only [Act.put, List.setIfInBounds_toArray, List.set_cons_zero, List.set_cons_succ]))
        refine wpAnyH_take (i := 1) (oi := ?o2) (v := ?v2) ?a2 (by kernel_rfl) (by kernel_rfl) (by kernel_rfl) ?q2 (Or.inl ⟨?g2, ?y2⟩) (by assumption) ?r2; (case' a2 => (simp only [List.getElem?_toArray, List.getElem?_cons_zero, List.getElem?_cons_succ]; rfl)); (case' q2 => (exact fun _ _ _ h => h)); (case' g2 => rfl); (case' y2 => (intro w hSw; (try dsimp only at hSw); go_simp; try with_reducible rfl)); (case' r2 => (try simp only [Act.put, List.setIfInBounds_toArray, List.set_cons_zero, List.set_cons_succ]))
        refine wpAnyH_take (i := 2) (oi := ?o3) (v := ?v3) ?a3 (by kernel_rfl) (by kernel_rfl) (by kernel_rfl) ?q3 (Or.inl ⟨?g3, ?y3⟩) (by assumption) ?r3; (case' a3 => (simp only [List.getElem?_toArray, List.getElem?_cons_zero, List.getElem?_cons_succ]; rfl)); (case' q3 => (exact fun _ _ _ h => h)); (case' g3 => rfl); (case' y3 => (intro w hSw; (try dsimp only at hSw); go_simp; try with_reducible rfl)); (case' r3 => (try simp only [Act.put, List.setIfInBounds_toArray, List.set_cons_zero, List.set_cons_succ]))
        refine wpAnyH_take (i := 3) (oi := ?o4) (v := ?v4) ?a4 (by kernel_rfl) (by kernel_rfl) (by kernel_rfl) ?q4 (Or.inl ⟨?g4, ?y4⟩) (by assumption) ?r4; (case' a4 => (simp only [List.getElem?_toArray, List.getElem?_cons_zero, List.getElem?_cons_succ]; rfl)); (case' q4 => (exact fun _ _ _ h => h)); (case' g4 => rfl); (case' y4 => (intro w hSw; (try dsimp only at hSw); go_simp; try with_reducible rfl)); (case' r4 => (try simp only [Act.put, List.setIfInBounds_toArray, List.set_cons_zero, List.set_cons_succ]))
        refine wpAnyH_take (i := 4) (oi := ?o5) (v := ?v5) ?a5 (by kernel_rfl) (by kernel_rfl) (by kernel_rfl) ?q5 (Or.inl ⟨?g5, ?y5⟩) (by assumption) ?r5; (case' a5 => (simp only [List.getElem?_toArray, List.getElem?_cons_zero, List.getElem?_cons_succ]; rfl)); (case' q5 => (exact fun _ _ _ h => h)); (case' g5 => rfl); (case' y5 => (intro w hSw; (try dsimp only at hSw); go_simp; try with_reducible rfl)); (case' r5 => (try simp only [Act.put, List.setIfInBounds_toArray, List.set_cons_zero, List.set_cons_succ]))
        refine wpAnyH_take (i := 5) (oi := ?o6) (v := undef) ?a6 (by kernel_rfl) (by kernel_rfl) (by kernel_rfl) ?q6 (Or.inr ⟨?g6, rfl⟩) (by assumption) ?r6; (case' a6 => (simp only [List.getElem?_toArray, List.getElem?_cons_zero, List.getElem?_cons_succ]; rfl)); (case' q6 => (exact fun _ _ _ h => h)); (case' g6 => rfl); (case' r6 => (try simp only [Act.put, List.setIfInBounds_toArray, List.set_cons_zero, List.set_cons_succ]))
        refine wpAnyH_take (i := 6) (oi := ?o7) (v := undef) ?a7 (by kernel_rfl) (by kernel_rfl) (by kernel_rfl) ?q7 (Or.inr ⟨?g7, rfl⟩) (by assumption) ?r7; (case' a7 => (simp only [List.getElem?_toArray, List.getElem?_cons_zero, List.getElem?_cons_succ]; rfl)); (case' q7 => (exact fun _ _ _ h => h)); (case' g7 => rfl); (case' r7 => (try simp only [Act.put, List.setIfInBounds_toArray, List.set_cons_zero, List.set_cons_succ]))
        refine wpAnyH_take (i := 7) (oi := ?o8) (v := undef) ?a8 (by kernel_rfl) (by kernel_rfl) (by kernel_rfl) ?q8 (Or.inr ⟨?g8, rfl⟩) (by assumption) ?r8; (case' a8 => (simp only [List.getElem?_toArray, List.getElem?_cons_zero, List.getElem?_cons_succ]; rfl)); (case' q8 => (exact fun _ _ _ h => h)); (case' g8 => rfl); (case' r8 => (try simp only [Act.put, List.setIfInBounds_toArray, List.set_cons_zero, List.set_cons_succ]))
        refine wpAnyH_take (i := 8) (oi := ?o9) (v := undef) ?a9 (by kernel_rfl) (by kernel_rfl) (by kernel_rfl) ?q9 (Or.inr ⟨?g9, rfl⟩) (by assumption) ?r9; (case' a9 => (simp only [List.getElem?_toArray, List.getElem?_cons_zero, List.getElem?_cons_succ]; rfl)); (case' q9 => (exact fun _ _ _ h => h)); (case' g9 => rfl); (case' r9 => (try simp only [Act.put, List.setIfInBounds_toArray, List.set_cons_zero, List.set_cons_succ]))
        refine wpAnyH_take (i := 9) (oi := ?o10) (v := undef) ?a10 (by kernel_rfl) (by kernel_rfl) (by kernel_rfl) ?q10 (Or.inr ⟨?g10, rfl⟩) (by assumption) ?r10; (case' a10 => (simp only [List.getElem?_toArray, List.getElem?_cons_zero, List.getElem?_cons_succ]; rfl)); (case' q10 => (exact fun _ _ _ h => h)); (case' g10 => rfl); (case' r10 => (try simp only [Act.put, List.setIfInBounds_toArray, List.set_cons_zero, List.set_cons_succ]))
        refine wpAnyH_take (i := 10) (oi := ?o11) (v := undef) ?a11 (by kernel_rfl) (by kernel_rfl) (by kernel_rfl) ?q11 (Or.inr ⟨?g11, rfl⟩) (by assumption) ?r11; (case' a11 => (simp only [List.getElem?_toArray, List.getElem?_cons_zero, List.getElem?_cons_succ]; rfl)); (case' q11 => (exact fun _ _ _ h => h)); (case' g11 => rfl); (case' r11 => (try simp only [Act.put, List.setIfInBounds_toArray, List.set_cons_zero, List.set_cons_succ]))
        refine wpAnyH_take (i := 11) (oi := ?o12) (v := undef) ?a12 (by kernel_rfl) (by kernel_rfl) (by kernel_rfl) ?q12 (Or.inr ⟨?g12, rfl⟩) (by assumption) ?r12; (case' a12 => (simp only [List.getElem?_toArray, List.getElem?_cons_zero, List.getElem?_cons_succ]; rfl)); (case' q12 => (exact fun _ _ _ h => h)); (case' g12 => rfl); (case' r12 => (try simp only [Act.put, List.setIfInBounds_toArray, List.set_cons_zero, List.set_cons_succ]))
        refine wpAnyH_take (i := 12) (oi := ?o13) (v := undef) ?a13 (by kernel_rfl) (by kernel_rfl) (by kernel_rfl) ?q13 (Or.inr ⟨?g13, rfl⟩) (by assumption) ?r13; (case' a13 => (simp only [List.getElem?_toArray, List.getElem?_cons_zero, List.getElem?_cons_succ]; rfl)); (case' q13 => (exact fun _ _ _ h => h)); (case' g13 => rfl); (case' r13 => (try simp only [Act.put, List.setIfInBounds_toArray, List.set_cons_zero, List.set_cons_succ]))
        refine wpAnyH_take (i := 13) (oi := ?o14) (v := undef) ?a14 (by kernel_rfl) (by kernel_rfl) (by kernel_rfl) ?q14 (Or.inr ⟨?g14, rfl⟩) (by assumption) ?r14; (case' a14 => (simp only [List.getElem?_toArray, List.getElem?_cons_zero, List.getElem?_cons_succ]; rfl)); (case' q14 => (exact fun _ _ _ h => h)); (case' g14 => rfl); (case' r14 => (try simp only [Act.put, List.setIfInBounds_toArray, List.set_cons_zero, List.set_cons_succ]))
        refine wpAnyH_take (i := 14) (oi := ?o15) (v := undef) ?a15 (by kernel_rfl) (by kernel_rfl) (by kernel_rfl) ?q15 (Or.inr ⟨?g15, rfl⟩) (by assumption) ?r15; (case' a15 => (simp only [List.getElem?_toArray, List.getElem?_cons_zero, List.getElem?_cons_succ]; rfl)); (case' q15 => (exact fun _ _ _ h => h)); (case' g15 => rfl); (case' r15 => (try simp only [Act.put, List.setIfInBounds_toArray, List.set_cons_zero, List.set_cons_succ]))
        refine wpAnyH_take (i := 15) (oi := ?o16) (v := undef) ?a16 (by kernel_rfl) (by kernel_rfl) (by kernel_rfl) ?q16 (Or.inr ⟨?g16, rfl⟩) (by assumption) ?r16; (case' a16 => (simp only [List.getElem?_toArray, List.getElem?_cons_zero, List.getElem?_cons_succ]; rfl)); (case' q16 => (exact fun _ _ _ h => h)); (case' g16 => rfl); (case' r16 => (try simp only [Act.put, List.setIfInBounds_toArray, List.set_cons_zero, List.set_cons_succ]))
        refine wpAnyH_take (i := 16) (oi := ?o17) (v := undef) ?a17 (by kernel_rfl) (by kernel_rfl) (by kernel_rfl) ?q17 (Or.inr ⟨?g17, rfl⟩) (by assumption) ?r17; (case' a17 => (simp only [List.getElem?_toArray, List.getElem?_cons_zero, List.getElem?_cons_succ]; rfl)); (case' q17 => (exact fun _ _ _ h => h)); (case' g17 => rfl); (case' r17 => (try simp only [Act.put, List.setIfInBounds_toArray, List.set_cons_zero, List.set_cons_succ]))
        refine wpAnyH_take (i := 17) (oi := ?o18) (v := undef) ?a18 (by kernel_rfl) (by kernel_rfl) (by kernel_rfl) ?q18 (Or.inr ⟨?g18, rfl⟩) (by assumption) ?r18; (case' a18 => (simp only [List.getElem?_toArray, List.getElem?_cons_zero, List.getElem?_cons_succ]; rfl)); (case' q18 => (exact fun _ _ _ h => h)); (case' g18 => rfl); (case' r18 => (try simp only [Act.put, List.setIfInBounds_toArray, List.set_cons_zero, List.set_cons_succ]))
        refine wpAnyH_take (i := 18) (oi := ?o19) (v := undef) ?a19 (by kernel_rfl) (by kernel_rfl) (by kernel_rfl) ?q19 (Or.inr ⟨?g19, rfl⟩) (by assumption) ?r19; (case' a19 => (simp only [List.getElem?_toArray, List.getElem?_cons_zero, List.getElem?_cons_succ]; rfl)); (case' q19 => (exact fun _ _ _ h => h)); (case' g19 => rfl); (case' r19 => (try simp only [Act.put, List.setIfInBounds_toArray, List.set_cons_zero, List.set_cons_succ]))
        refine wpAnyH_take (i := 19) (oi := ?o20) (v := undef) ?a20 (by kernel_rfl) (by kernel_rfl) (by kernel_rfl) ?q20 (Or.inr ⟨?g20, rfl⟩) (by assumption) ?r20; (case' a20 => (simp only [List.getElem?_toArray, List.getElem?_cons_zero, List.getElem?_cons_succ]; rfl)); (case' q20 => (exact fun _ _ _ h => h)); (case' g20 => rfl); (case' r20 => (try simp only [Act.put, List.setIfInBounds_toArray, List.set_cons_zero, List.set_cons_succ]))
        refine wpAnyH_take (i := 20) (oi := ?o21) (v := ?v21) ?a21 (by kernel_rfl) (by kernel_rfl) (by kernel_rfl) ?q21 (Or.inl ⟨?g21, ?y21⟩) (by assumption) ?r21; (case' a21 => (simp only [List.getElem?_toArray, List.getElem?_cons_zero, List.getElem?_cons_succ]; rfl)); (case' q21 => (exact fun _ _ _ h => h)); (case' g21 => rfl); (case' y21 => (intro w hSw; (try dsimp only at hSw); go_simp; try with_reducible rfl)); (case' r21 => (try simp only [Act.put, List.setIfInBounds_toArray, List.set_cons_zero, List.set_cons_succ]))
        refine wpAnyH_take (i := 21) (oi := ?o22) (v := ?v22) ?a22 (by kernel_rfl) (by kernel_rfl) (by kernel_rfl) ?q22 (Or.inl ⟨?g22, ?y22⟩) (by assumption) ?r22; (case' a22 => (simp only [List.getElem?_toArray, List.getElem?_cons_zero, List.getElem?_cons_succ]; rfl)); (case' q22 => (exact fun _ _ _ h => h)); (case' g22 => rfl); (case' y22 => (intro w hSw; (try dsimp only at hSw); go_simp; try with_reducible rfl)); (case' r22 => (try simp only [Act.put, List.setIfInBounds_toArray, List.set_cons_zero, List.set_cons_succ]))
        refine wpAnyH_ready (rs := [22]) (by kernel_rfl) (by simp) ?_
        refine AllReadyH.cons (o := ?o23) ?a23 (fun K hK => ?s23) ?m23; (case' a23 => (simp only [List.getElem?_toArray, List.getElem?_cons_zero, List.getElem?_cons_succ]; rfl))
        case s23 =>
          go_simp
          go_at_call 16
          refine (fixed10_any _).mono ?_
          rintro e wn ⟨rfl, hbn⟩
          go_wp2_with fail
          refine hK.out _ _ (keep1t hHeld hbn) (fun hHeld => ?_)
          clear hK K
          (try simp only [Act.put, List.setIfInBounds_toArray, List.set_cons_zero, List.set_cons_succ])
          refine wpAnyH_take (i := 23) (oi := ?o24) (v := ?v24) ?a24 (by kernel_rfl) (by kernel_rfl) (by kernel_rfl) ?q24 (Or.inl ⟨?g24, ?y24⟩) (by assumption) ?r24; (case' a24 => (simp only [List.getElem?_toArray, List.getElem?_cons_zero, List.getElem?_cons_succ]; rfl)); (case' q24 => (exact fun _ _ _ h => h)); (case' g24 => rfl); (case' y24 => (intro w hSw; (try dsimp only at hSw); go_simp; try with_reducible rfl)); (case' r24 => (try simp only [Act.put, List.setIfInBounds_toArray, List.set_cons_zero, List.set_cons_succ]))
          refine wpAnyH_take (i := 24) (oi := ?o25) (v := ?v25) ?a25 (by kernel_rfl) (by kernel_rfl) (by kernel_rfl) ?q25 (Or.inl ⟨?g25, ?y25⟩) (by assumption) ?r25; (case' a25 => (simp only [List.getElem?_toArray, List.getElem?_cons_zero, List.getElem?_cons_succ]; rfl)); (case' q25 => (exact fun _ _ _ h => h)); (case' g25 => rfl); (case' y25 => (intro w hSw; (try dsimp only at hSw); go_simp; try with_reducible rfl)); (case' r25 => (try simp only [Act.put, List.setIfInBounds_toArray, List.set_cons_zero, List.set_cons_succ]))
          refine wpAnyH_done (by kernel_rfl) ?_ _
          have HWN := Lib.hid hHeld.2
          clear hHeld
          go_wp2_with fail
          go_ret
          exact ⟨rfl, P0.out.bel.trans (HWN.out.mono P0.out.bel.size)⟩
        exact AllReadyH.nil
      · have t0 : ((m : Int) == 0) = false := by simp; omega
        obtain ⟨gm, hAm, hgm, hcm⟩ := P0.out.im.rd (by rw [HM.out]; omega)
        subst hAm
        obtain ⟨⟨nk, ts⟩, hms⟩ : ∃ z, M[0]? = some z := ⟨_, List.getElem?_eq_getElem (by rw [HM.out]; omega)⟩
        obtain ⟨f0, At, ct, f1, hrt⟩ := hcm 0 _ hms
        obtain ⟨u0, u1, u2⟩ := P0.out.im.sz _ (List.mem_of_getElem? hms)
        dsimp only at f0 f1 hrt u1
        rw [Nat.zero_mul] at f0 f1
        rw [Nat.zero_add] at f1
        obtain ⟨tn, htn⟩ : ∃ tn, ts.length = tn := ⟨_, rfl⟩
        rw [htn] at f1 u1
        obtain ⟨v, hv⟩ : ∃ v, anyB ts t = v := ⟨_, rfl⟩
        have HV := Lib.hid hv
        have HRT := Lib.hid hrt
        have HTN := Lib.hid htn
        have b0 : (v == v) = true := by cases v <;> rfl
        have m0 : (0 : Int) < (m : Int) := by omega
        have m1 : 0 < m := by omega
        have hS := And.intro (And.intro y1 (And.intro f0 (And.intro f1 (And.intro z0' z1')))) (Below.refl wo.heap.size wo)
        clear hm0 hcm hms htn hv hrt
        go_upto_region 21 with (fail)
        go_region_held3 (fun w' => (w'.cell? ⟨ab, 1, none⟩ = some (.slice (some ⟨gm, 0, none⟩) m cm) ∧ w'.cell? ⟨gm, 0, none⟩ = some (.string nk) ∧ w'.cell? ⟨gm, 1, none⟩ = some (.slice At tn ct) ∧ w'.cell? ⟨pb, 0, none⟩ = some (.string t) ∧ w'.cell? ⟨pb, 1, none⟩ = some (.int .i64 n1)) ∧ Below wo.heap.size wo w')
          (first | assumption | exact keep5t hS (drewBA _) | exact keep5t (by assumption) (by assumption) | exact keep5t (by assumption) (drewBA _))
          (first
            | (go_at_call 16; refine (fixed10_any _).mono ?_; rintro e w3 ⟨rfl, h3⟩)
            | (go_at_call 15; have _q := D1; refine (rwants_is nk t ts At ct tn wo.heap.size v _ (Lib.hid (HRT.out.below D1.out)) D1.out.size HTN u1 HV).mono ?_; rintro e w2 ⟨rfl, h2⟩)
            | (go_at_call 14; refine (wants_is nk t ts At ct tn wo.heap.size v _ (Lib.hid (HRT.out.below (drewBA _))) (drewBA _).size HTN u1 HV).mono ?_; rintro e w1 ⟨rfl, h1⟩; have D1 : Hid (Below wo.heap.size wo w1) := Lib.hid ((drewBA _).trans (h1.mono (drewBA _).size))))
        all_goals
          rename_i hh
          have HWN := Lib.hid hh.2
          clear hh hS
          go_wp2_with fail
          go_ret
          exact ⟨rfl, P0.out.bel.trans (HWN.out.mono P0.out.bel.size)⟩

set_option maxRecDepth 100000 in
set_option maxHeartbeats 1000000 in
theorem lifted (os : Os) (started : os.Started) (H : Type) (enc : TypeId × Value → H) :
    ReturnsInHanded {} Try.checked os 3 .any (Rows.assignTellsSpec.pre6 enc Try.prog Try.f3 Rows.assignTellsRow.domain false) (Rows.assignTellsSpec.post enc Try.prog Try.f3 false true false false) := by
  refine returnsInHanded_of_change (C := Try.checked) own started (by kernel_rfl) Try.func3
    (ChangeSpec.witness6 (enc := enc) (C := Try.checked) false ⟨#[], #[.agg #[.slice none 0 0, .slice none 0 0], .agg #[.string ByteArray.empty, .int .i64 0]], []⟩ 8 (by kernel_rfl) (by kernel_rfl) (by kernel_rfl) (by kernel_rfl)) ?_
  intro W base args ds gs before hval0 hW _ _
  have hval : ∀ (j : Nat) t v, Try.f3.params[j]? = some t → args[j]? = some v → Value.okWide Try.prog W .any base t v := hval0
  have hW' := hW
  obtain ⟨p, q, hA0, hV, rfl, hfz, hnd⟩ := hW
  have hA : DataW.TrodAll enc Try.prog W 0 (fun _ => true) true Try.f3.params.toList args.toList ds p := hA0
  rw [Try.params3] at hA hval
  obtain ⟨v0, vs0, d0, ds0, p0, q0, hargs, rfl, rfl, h0, r0⟩ := trodAll_cons hA
  obtain ⟨v1, vs1, d1, ds1, p1, q1, rfl, rfl, rfl, h1, r1⟩ := trodAll_cons r0
  obtain ⟨rfl, rfl, rfl⟩ := trodAll_nil r1
  obtain rfl : args = #[v0, v1] := by cases args; simp_all
  obtain ⟨rfl, rfl⟩ := trodVars_none hV
  have k0 := h0
  have lt0 : ∀ x ∈ p0, x.block < W.heap.size := by obtain ⟨m, hm⟩ := k0; exact DataW.trod_lt m _ _ _ hm
  have k1 := h1
  have lt1 : ∀ x ∈ p1, x.block < W.heap.size := by obtain ⟨m, hm⟩ := k1; exact DataW.trod_lt m _ _ _ hm
  obtain ⟨A0, B0, l0, m0, c0, d0, e0, R0⟩ := L10.open_ask (hval 0 25 v0 rfl rfl) h0
  subst e0
  obtain ⟨t1, n1, e1, z1, w1⟩ := L10.open_pt (hval 1 27 v1 rfl rfl) h1
  subst e1
  clear hA0 hval0
  refine (walk W A0 B0 l0 m0 c0 d0 R0 t1 n1 z1 w1).mono fun e W' ⟨he, bel⟩ => ?_
  subst he
  exact ⟨_, rfl, _, _, _, [], _, [], hW', trodAll_mk1 (shut_bool Try.underlying4 _), (trodAll_cons_mk (Below.trod laidOut (by kernel_rfl) (of_decide_eq_true (by kernel_rfl)) k0 bel lt0) (trodAll_cons_mk (Below.trod laidOut (by kernel_rfl) (of_decide_eq_true (by kernel_rfl)) k1 bel lt1) trodAll_mk0)), rfl, bel.frame _, fun h => by cases h⟩

theorem over : Rows.assignTellsRow.holds Try.pinned (OpenSpec.ofChange Rows.assignTellsSpec) :=
  OpenClaim.holds_of_wide 3 Try.f3 rfl rfl rfl rfl rfl rfl rfl ⟨rfl, rfl, rfl, rfl, rfl⟩ rfl rfl rfl rfl rfl (by kernel_rfl) Try.func3 (by kernel_rfl)
    (of_decide_eq_true (by kernel_rfl)) (by unfold Func.isWrapper; first | (rw [if_pos (by decide +kernel)]; kernel_rfl) | (rw [if_neg (by decide +kernel)]; exact ⟨rfl, rfl⟩))
    (fun os started H enc _ => lifted os started H enc)

/-- the statement -/
theorem proved : Rows.AssignTellsSaid :=
  over
#print axioms proved
end Go.Proofs.Ythongbobopampaa.assignTells
