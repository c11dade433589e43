/-
  Proved: of each topic those who want it have by stretches as many as each other, or one more, and a stretch lies together; one after the other, when all want all, the same of all (of at most 8 topics and members). No condition.
-/
import Derived.Test.YthogigaepnpmeaaRows
import Derived.WalkKit
import Derived.ProofKit
import Derived.OpenShut
import Derived.ShutString
import Derived.ChangeOld
import Derived.Below
import Derived.Test.YthogigaepnpmeaaAsWords
import Derived.Test.YthogigaepnpmeaaAsFair
import Derived.LoopTactic
import Derived.IntWalk
namespace Go.Proofs.Ythogigaepnpmeaa.assignFair
open Go.ChangeShapes Go.WideShapes Go.ChangeAt Go.RowKit Go.Deep
open Go.ChangeMaps (open_string shut_string)
open L3 L4 L9 L10

theorem own : ownKnob Try.prog.godebug = none := by kernel_rfl
theorem laidOut : laidOutB Try.prog = true := by kernel_rfl

set_option maxRecDepth 100000 in
set_option maxHeartbeats 16000000 in
theorem walk (W : World) (A0 B0 : Option Addr) (l0 : List Pt) (m0 : List Me) (c0 d0 : Nat) (R0 : IsAsk W A0 B0 l0 m0) :
    Calls Try.prog 5 #[.agg #[.slice A0 l0.length c0, .slice B0 m0.length d0]] W fun e w' => e = .returned (.bool true) ∧ Below W.heap.size W w' := by
  have hI1 := R0.below (one_box' (w := W) (.cells #[.slice A0 l0.length c0, .slice B0 m0.length d0] 25))
  obtain ⟨L, hLL⟩ : ∃ L, (l0.take 10).map cutP = L := ⟨_, rfl⟩
  obtain ⟨M, hMM⟩ : ∃ M, (m0.take 10).map (fun v => cutM v.m) = M := ⟨_, rfl⟩
  have HLL := Lib.hid hLL
  have HMM := Lib.hid hMM
  have HI1 := Lib.hid hI1
  clear hI1 hLL hMM
  go_enter Try.func5, Try.ntmps5
  go_upto_region 2 with (go_at_call 9; refine (cut_is _ A0 B0 l0 m0 l0.length c0 m0.length d0 HI1.out (Lib.hid rfl) (Lib.hid rfl) L M HLL HMM).mono ?_; intro e w1 hcp; obtain ⟨A, c, Am, cm, rfl, hL1, hM1, hb1⟩ := hcp; have hrow := (hb1.block W.heap.size (by simp)).trans (heap_alloc_new W (.cells #[.slice A0 l0.length c0, .slice B0 m0.length d0] 25)); have x0 := (cell_of_row _ _ 0 _ _ _ hrow).trans rfl; have x1 := (cell_of_row _ _ 1 _ _ _ hrow).trans rfl; have f0 := frozen_of_row _ _ 0 _ _ hrow; have f1 := frozen_of_row _ _ 1 _ _ hrow; have HC1 := Lib.hid (And.intro hL1 (And.intro hM1 (And.intro hb1 hrow))); clear hL1 hM1 hb1 hrow)
  have hAW := ask_start HC1.out
  obtain ⟨w2, hw2⟩ : ∃ w2, (w1.setCell ⟨W.heap.size, 0, none⟩ (.slice A L.length c)).setCell ⟨W.heap.size, 1, none⟩ (.slice Am M.length cm) = w2 := ⟨_, rfl⟩
  rw [hw2] at hAW ⊢
  have AW := Lib.hid hAW
  have y0 := (cell_of_row _ _ 0 _ _ _ hAW.row).trans rfl
  have y1 := (cell_of_row _ _ 1 _ _ _ hAW.row).trans rfl
  obtain ⟨n, hn⟩ : ∃ n, L.length = n := ⟨_, rfl⟩
  obtain ⟨m, hm⟩ : ∃ m, M.length = m := ⟨_, rfl⟩
  rw [hn, hm] at AW y0 y1 ⊢
  have HN := Lib.hid hn
  have HM := Lib.hid hm
  obtain ⟨bw, hbw⟩ : ∃ b, W.heap.size = b := ⟨_, rfl⟩
  rw [hbw] at AW y0 y1 ⊢
  clear hw2 hAW x0 x1 f0 f1 hn hm hbw
  obtain ⟨x, hx⟩ := chk_is1 L M
  by_cases hx0 : x = 0
  · subst hx0
    have HX := Lib.hid hx
    have hm8 : m ≤ 8 := by rw [← HM.out]; exact (chk_ok hx).2.1
    have HG := Lib.hid (chk_ok hx).1
    have H64 : Hid (∀ x ∈ rangeL L M, x.length ≤ 64) := Lib.hid (fun x hx' => range_64 hx hx')
    have HB64 : Hid (∀ x ∈ robinL L M, x.length ≤ 64) := Lib.hid (fun x hx' => robin_64 hx hx')
    clear hx
    go_upto_region 8 with (first
      | (go_at_call 12; refine (robin_ok _ A Am n c m cm L M _ (Lib.hid AW3.out.il) (Lib.hid AW3.out.im) HX (Lib.hid rfl)).mono ?_; rintro e w4 ⟨A4, c4, rfl, hr4, hb4⟩; have AW4 := Lib.hid (AW3.out.below hb4); have HA4 := Lib.hid ((HA3.out.below hb4).mono hb4.size); have HR4 := Lib.hid hr4; have y04 := (cell_of_row _ _ 0 _ _ _ AW4.out.row).trans rfl; have y14 := (cell_of_row _ _ 1 _ _ _ AW4.out.row).trans rfl; clear hr4 hb4)
      | (go_at_call 10; refine (range_ok _ A Am n c m cm L M _ (Lib.hid AW.out.il) (Lib.hid AW.out.im) HX (Lib.hid rfl)).mono ?_; rintro e w3 ⟨A3, c3, rfl, hr3, hb3⟩; have AW3 := Lib.hid (AW.out.below hb3); have HA3 := Lib.hid hr3; have y03 := (cell_of_row _ _ 0 _ _ _ AW3.out.row).trans rfl; have y13 := (cell_of_row _ _ 1 _ _ _ AW3.out.row).trans rfl; clear hr3 hb3))
    have HA : Hid (ReadsL w4 w2.heap.size w4.heap.size A3 ((List.range m).map (rngL L M))) := Lib.hid (by have := HA4.out; rw [rangeL_eq, HM.out] at this; exact this)
    have HR : Hid (ReadsL w4 w3.heap.size w4.heap.size A4 (listsL m (seqT chB M L 0).1)) := Lib.hid (by have := HR4.out; unfold robinL at this; rwa [HM.out] at this)
    clear HA3 HA4 HR4 y0 y1 y03 y13 y04 y14
    have hn8 : n ≤ 8 := by rw [← HN.out]; exact HG.out.len
    go_wp2_with fail
    go_loopw [7, 8] (fun v j wr => ∃ q : Nat, q ≤ n ∧ j = .int .i64 q ∧ (∃ b : Bool, v = .bool b ∧ Hid (b = true → AllW (L.take q) M)) ∧ Hid (Below w4.heap.size w4 wr)) (fun _ j _ => n - (intOf j).toNat)
    case atStart => exact ⟨0, by omega, rfl, ⟨true, rfl, Lib.hid (fun _ x hx => by simp at hx)⟩, Lib.hid (Below.refl _ _)⟩
    case round =>
      obtain ⟨q, hq, rfl, ⟨b, rfl, HALL⟩, HB⟩ := hrel
      have hAW := AW4.out.below HB.out
      have y0 := (cell_of_row _ _ 0 _ _ _ hAW.row).trans rfl
      have y1 := (cell_of_row _ _ 1 _ _ _ hAW.row).trans rfl
      by_cases hlt : q < n
      · obtain ⟨gl, hAl, hgl, hcl⟩ := AW4.out.il.rd (by rw [HN.out]; omega)
        subst hAl
        obtain ⟨⟨xt, N0⟩, hs⟩ : ∃ s, L[q]? = some s := ⟨_, List.getElem?_eq_getElem (by rw [HN.out]; omega)⟩
        obtain ⟨l0, -⟩ := hcl q _ hs
        dsimp only at l0
        have hfit := HG.out.fit _ (List.mem_of_getElem? hs)
        dsimp only at hfit
        obtain ⟨E, hE⟩ : ∃ E, N0.toNat / (able M xt).length = E := ⟨_, rfl⟩
        have HCNT : Hid (∀ k, wantAt M k xt = true → E ≤ cntT (rngL L M k) xt ∧ cntT (rngL L M k) xt ≤ E + 1) := Lib.hid (fun k hw => by rw [← hE]; exact fair_cnt HG.out.rise M k hs hw)
        have hE8 : E ≤ 8 := by rw [← hE]; exact Nat.le_trans (Nat.div_le_self _ _) (by omega)
        have HNEXTA : Hid (∀ k d z, (rngL L M k)[d]? = some z → z.t = xt → 0 < cntT ((rngL L M k).take d) xt → ∃ d' z', d = d' + 1 ∧ (rngL L M k)[d']? = some z' ∧ z.n = z'.n + 1) := Lib.hid (fun k d z h1 h2 h3 => fair_next HG.out.rise M k hs h1 h2 h3)
        have HP8A : Hid (∀ k, ∀ z ∈ rngL L M k, 0 ≤ z.n ∧ z.n ≤ 8) := Lib.hid (fun k z hz => by
          rw [← own_seqR k L 0] at hz
          have h1 : z ∈ (seqT chR M L 0).1.map Prod.snd := List.mem_map.2 ⟨_, mem_own.1 hz, rfl⟩
          rw [seq_snd chR M L 0] at h1
          obtain ⟨u, hu, -, -, h2, h3⟩ := mem_some.1 h1
          have := HG.out.fit _ hu
          exact ⟨h2, by omega⟩)
        have L0 := Lib.hid l0
        have HSX := Lib.hid hs
        have b0 : (0 : Int) ≤ (q : Int) := by omega
        have b1 : (q : Int) < (n : Int) := by omega
        clear hcl hs hfit hE hAW l0
        go_wp2_with fail
        clear y0 y1
        go_loopw [7, 9, 10, 11] (fun v le mo i wr => ∃ k : Nat, k ≤ m ∧ i = .int .i64 k ∧ (∃ b : Bool, v = .bool b ∧ Hid (b = true → AllW (L.take q) M ∧ ∀ k', k' < k → wantAt M k' xt = true)) ∧ (∃ a : Nat, le = .int .i64 a ∧ E ≤ a ∧ a ≤ 99) ∧ (∃ a : Nat, mo = .int .i64 a ∧ a ≤ E + 1) ∧ Hid (Below w4.heap.size w4 wr)) (fun _ _ _ i _ => m - (intOf i).toNat)
        case atStart => exact ⟨0, by omega, rfl, ⟨b, rfl, Lib.hid (fun h => ⟨HALL.out h, fun k' h' => by omega⟩)⟩, ⟨99, rfl, by omega, by omega⟩, ⟨0, rfl, by omega⟩, HB⟩
        case round =>
          obtain ⟨k, hk, rfl, ⟨b2, rfl, HALL2⟩, ⟨le, rfl, hle, hle9⟩, ⟨mo, rfl, hmo⟩, HB2⟩ := hrel
          have hAW := AW4.out.below HB2.out
          have y0 := (cell_of_row _ _ 0 _ _ _ hAW.row).trans rfl
          have y1 := (cell_of_row _ _ 1 _ _ _ hAW.row).trans rfl
          by_cases hkm : k < m
          · obtain ⟨ga, hAa, -, hga, hca⟩ := HA.out (by rw [List.length_map, List.length_range]; omega)
            subst hAa
            obtain ⟨P, hP⟩ : ∃ P, rngL L M k = P := ⟨_, rfl⟩
            obtain ⟨Ai, ci, d0, hrd, -⟩ := hca k P (by rw [List.getElem?_map, List.getElem?_range hkm]; exact congrArg some hP)
            obtain ⟨p, hp⟩ : ∃ p, P.length = p := ⟨_, rfl⟩
            rw [hp] at d0
            have hp64 : p ≤ 64 := by rw [← hp, ← hP]; exact H64.out _ (by rw [rangeL_eq]; exact List.mem_map.2 ⟨k, List.mem_range.2 (by rw [HM.out]; exact hkm), rfl⟩)
            have HNEXT : Hid (∀ d z, P[d]? = some z → z.t = xt → 0 < cntT (P.take d) xt → ∃ d' z', d = d' + 1 ∧ P[d']? = some z' ∧ z.n = z'.n + 1) := Lib.hid (fun d z h1 h2 h3 => by rw [← hP] at h1 h3 ⊢; exact HNEXTA.out k d z h1 h2 h3)
            have HP8 : Hid (∀ z ∈ P, 0 ≤ z.n ∧ z.n ≤ 8) := Lib.hid (fun z hz => HP8A.out k z (by rw [hP]; exact hz))
            have HCK : Hid (wantAt M k xt = true → E ≤ cntT P xt ∧ cntT P xt ≤ E + 1) := Lib.hid (fun h => by rw [← hP]; exact HCNT.out k h)
            have HL64 : Hid (∀ d, cntT (P.take d) xt ≤ 64) := Lib.hid (fun d => Nat.le_trans (List.length_filter_le _ _) (by rw [List.length_take]; omega))
            have HP := Lib.hid hp
            have HRD := Lib.hid hrd
            have D0 := Lib.hid d0
            have HGZ := Lib.hid (And.intro hga hgl)
            have i2 : (0 : Int) ≤ (k : Int) := by omega
            have i3 : (k : Int) < (m : Int) := by omega
            have d0 := (HB2.out.cell (p := ⟨ga, k, none⟩) hga).trans D0.out
            clear hca hrd hp hP hAW
            go_wp2_with fail
            clear y0 y1 d0
            obtain ⟨wo, hwo⟩ : ∃ wo, wo = wr := ⟨_, rfl⟩
            rw [← hwo] at HB2 ⊢
            clear hwo
            go_loopw [12, 13] (fun v i wr => ∃ d : Nat, d ≤ p ∧ i = .int .i64 d ∧ (∃ y : Nat, v = .int .i64 y ∧ y ≤ 64 ∧ Hid (cntT (P.take d) xt = y)) ∧ Hid (Below w4.heap.size w4 wr)) (fun _ i _ => p - (intOf i).toNat)
            case atStart => exact ⟨0, by omega, rfl, ⟨0, rfl, by omega, Lib.hid rfl⟩, HB2⟩
            case round =>
              obtain ⟨d, hd, rfl, ⟨y, rfl, hy, HY⟩, HB3⟩ := hrel
              have hAW := AW4.out.below HB3.out
              have y0 := (cell_of_row _ _ 0 _ _ _ hAW.row).trans rfl
              have d0 := (HB3.out.cell (p := ⟨ga, k, none⟩) HGZ.out.1).trans D0.out
              have l0 := (HB3.out.cell (p := ⟨gl, q * 2, none⟩) HGZ.out.2).trans L0.out
              by_cases hdp : d < p
              · obtain ⟨gi, rfl, hgi, hci⟩ := HRD.out (by rw [HP.out]; omega)
                obtain ⟨⟨tt, kk⟩, hs⟩ : ∃ s, P[d]? = some s := ⟨_, List.getElem?_eq_getElem (by rw [HP.out]; omega)⟩
                obtain ⟨e0, e1⟩ := hci d _ hs
                have e0 := (HB3.out.cell (p := ⟨gi, d * 2, none⟩) hgi).trans e0
                have e1 := (HB3.out.cell (p := ⟨gi, d * 2 + 1, none⟩) hgi).trans e1
                dsimp only at e0 e1
                have HCI := Lib.hid hci
                have HS := Lib.hid hs
                have j0 : (0 : Int) ≤ (d : Int) := by omega
                have j1 : (d : Int) < (p : Int) := by omega
                have HNX : Hid (cntT (P.take (d + 1)) xt = y + if tt = xt then 1 else 0) := Lib.hid (by rw [cnt_next P xt hs, HY.out])
                clear hci hs hAW
                by_cases hq : tt = xt
                · subst hq
                  by_cases hy0 : 0 < y
                  · obtain ⟨d', ⟨t', k'⟩, rfl, hz, hkk⟩ := HNEXT.out d _ HS.out rfl (by rw [HY.out]; exact hy0)
                    dsimp only at hkk
                    subst hkk
                    obtain ⟨-, e3⟩ := HCI.out d' _ hz
                    have e3 := (HB3.out.cell (p := ⟨gi, d' * 2 + 1, none⟩) hgi).trans e3
                    dsimp only at e3
                    have j2 : (0 : Int) ≤ (d' : Int) := by omega
                    have j3 : (d' : Int) < (p : Int) := by omega
                    have j4 : (0 : Int) < (y : Int) := by omega
                    have hw0 := HP8.out _ (List.mem_of_getElem? hz)
                    dsimp only at hw0
                    have hw1 : wrap64 (k' + 1) = k' + 1 := by unfold wrap64; omega
                    clear hz
                    go_wp2_with fail
                    go_quiet (fail)
                    go_wp2_with fail
                    go_region
                    go_wp2_with fail
                    go_roundw
                    case rel => exact ⟨d' + 1 + 1, by omega, by go_num, ⟨y + 1, by go_num, by have := HL64.out (d' + 1 + 1); rw [HNX.out] at this; simp at this; omega, Lib.hid (by rw [HNX.out]; simp)⟩, by first | exact HB3 | exact Lib.hid (drewN_below HB3.out _) | exact Lib.hid (drewN_below (drewN_below HB3.out _) _) | trace_state⟩
                    case measure => simp [intOf]; omega
                  · obtain rfl : y = 0 := by omega
                    go_wp2_with fail
                    go_quiet (fail)
                    go_wp2_with fail
                    go_region
                    go_wp2_with fail
                    go_roundw
                    case rel => exact ⟨d + 1, by omega, by go_num, ⟨1, by go_num, by omega, Lib.hid (by rw [HNX.out]; simp)⟩, by first | exact HB3 | exact Lib.hid (drewN_below HB3.out _) | exact Lib.hid (drewN_below (drewN_below HB3.out _) _) | trace_state⟩
                    case measure => simp [intOf]; omega
                · have hqb : (tt.toList == xt.toList) = false := bytes_off hq
                  go_wp2_with fail
                  go_quiet (fail)
                  go_wp2_with fail
                  go_roundw
                  case rel => exact ⟨d + 1, by omega, by go_num, ⟨y, rfl, hy, Lib.hid (by rw [HNX.out, if_neg hq]; rfl)⟩, by first | exact HB3 | exact Lib.hid (drewN_below HB3.out _) | exact Lib.hid (drewN_below (drewN_below HB3.out _) _) | trace_state⟩
                  case measure => simp [intOf]; omega
              · have hdp2 : d = p := by omega
                have HYF : Hid (cntT P xt = y) := Lib.hid (by rw [← HY.out, List.take_of_length_le (by rw [HP.out]; omega)])
                obtain ⟨gm, hAm, hgm, hcm⟩ := AW4.out.im.rd (by rw [HM.out]; omega)
                subst hAm
                obtain ⟨⟨nk, ts⟩, hms⟩ : ∃ s, M[k]? = some s := ⟨_, List.getElem?_eq_getElem (by rw [HM.out]; omega)⟩
                obtain ⟨f0, At, ct, f1, hrt⟩ := hcm k _ hms
                obtain ⟨z0, z1, z2⟩ := AW4.out.im.sz _ (List.mem_of_getElem? hms)
                dsimp only at f0 f1 hrt z1
                obtain ⟨tn, htn⟩ : ∃ tn, ts.length = tn := ⟨_, rfl⟩
                rw [htn] at f1 z1
                obtain ⟨v, hv⟩ : ∃ v, anyB ts xt = v := ⟨_, rfl⟩
                have HV := Lib.hid hv
                have HWV : Hid (wantAt M k xt = v) := Lib.hid (by rw [wantAt_at hms]; exact hv)
                have y1 := (cell_of_row _ _ 1 _ _ _ hAW.row).trans rfl
                have f0 := (HB3.out.cell (p := ⟨gm, k * 2 + 0, none⟩) hgm).trans f0
                have f1 := (HB3.out.cell (p := ⟨gm, k * 2 + 1, none⟩) hgm).trans f1
                simp only [Nat.add_zero] at f0
                have HRW := Lib.hid (hrt.below HB3.out.drew)
                have HTN := Lib.hid htn
                have HZW : Hid (w4.heap.size ≤ wr.heap.size) := Lib.hid HB3.out.size
                have hS6 := Lib.hid (show (wr.cell? ⟨bw, 0, none⟩ = some (.slice (some ⟨gl, 0, none⟩) n c) ∧ wr.cell? ⟨bw, 1, none⟩ = some (.slice (some ⟨gm, 0, none⟩) m cm) ∧ wr.cell? ⟨gl, q * 2, none⟩ = some (.string xt) ∧ wr.cell? ⟨gl, q * 2, none⟩ = some (.string xt) ∧ wr.cell? ⟨gm, k * 2, none⟩ = some (.string nk) ∧ wr.cell? ⟨gm, k * 2 + 1, none⟩ = some (.slice At tn ct)) ∧ Below wr.heap.size wr wr from ⟨⟨y0, y1, l0, l0, f0, f1⟩, Below.refl _ _⟩)
                clear hcm hms hrt htn hv hAW
                go_wp2_with fail
                go_region_held3 (fun w' => (w'.cell? ⟨bw, 0, none⟩ = some (.slice (some ⟨gl, 0, none⟩) n c) ∧ w'.cell? ⟨bw, 1, none⟩ = some (.slice (some ⟨gm, 0, none⟩) m cm) ∧ w'.cell? ⟨gl, q * 2, none⟩ = some (.string xt) ∧ w'.cell? ⟨gl, q * 2, none⟩ = some (.string xt) ∧ w'.cell? ⟨gm, k * 2, none⟩ = some (.string nk) ∧ w'.cell? ⟨gm, k * 2 + 1, none⟩ = some (.slice At tn ct)) ∧ Below wr.heap.size wr w')
                  (first | with_reducible assumption | exact keep6 hS6.out HB5.out | exact keep6 hS6.out (Below.refl _ _).drew)
                  (first | (go_at_call 20; refine (rwants_is nk xt ts At ct tn w4.heap.size v _ HRW HZW.out HTN z1 HV).mono ?_; rintro e w5 ⟨rfl, hb5⟩; have HB5 := Lib.hid ((Below.refl _ wr).drew.trans hb5)))
                rename_i hHeld
                have HH := Lib.hid (HB3.out.trans (hHeld.2.mono HB3.out.size))
                clear hHeld y0 y1 d0 l0 f0 f1
                cases v with
                | true =>
                  obtain ⟨hc1, hc2⟩ := HCK.out HWV.out
                  rw [HYF.out] at hc1 hc2
                  go_wp2_with fail
                  go_roundw
                  case rel => exact ⟨k + 1, by omega, by go_num, ⟨b2, rfl, Lib.hid (fun h => ⟨(HALL2.out h).1, fun k' h' => (Nat.lt_or_ge k' k).elim (fun z => (HALL2.out h).2 k' z) (fun z => (show k = k' by omega) ▸ HWV.out)⟩)⟩, ⟨min le y, by congr 1; omega, by omega, by omega⟩, ⟨max mo y, by congr 1; omega, by omega⟩, HH⟩
                  case measure => simp [intOf]; omega
                | false =>
                  go_wp2_with fail
                  go_roundw
                  case rel => exact ⟨k + 1, by omega, by go_num, ⟨false, rfl, Lib.hid (fun h => by simp at h)⟩, ⟨le, rfl, hle, hle9⟩, ⟨mo, rfl, hmo⟩, HH⟩
                  case measure => simp [intOf]; omega
          · have hkm2 : k = m := by omega
            have t1 : ¬ (le : Int) + 1 < (mo : Int) := by omega
            have HAN : Hid (b2 = true → AllW (L.take (q + 1)) M) := Lib.hid (fun h x hx k' hk' => by
              rw [List.take_add_one, HSX.out] at hx
              rcases List.mem_append.1 hx with z | z
              · exact (HALL2.out h).1 x z k' hk'
              · have e : x = ⟨xt, N0⟩ := by simpa using z
                subst e
                exact (HALL2.out h).2 k' (by rw [hkm2, ← HM.out]; exact hk'))
            go_wp2_with fail
            go_roundw
            case rel => exact ⟨q + 1, by omega, by go_num, ⟨b2, rfl, HAN⟩, by first | exact HB2 | trace_state⟩
            case measure => simp [intOf]; omega
      · have hqn : q = n := by omega
        have HALLF : Hid (b = true → AllW L M) := Lib.hid (fun h => by have := HALL.out h; rwa [List.take_of_length_le (by rw [HN.out]; omega)] at this)
        obtain ⟨E, hE⟩ : ∃ E, totL L / m = E := ⟨_, rfl⟩
        have HCB : Hid (∀ k, k < m → b = true → E ≤ (ownL (seqT chB M L 0).1 k).length ∧ (ownL (seqT chB M L 0).1 k).length ≤ E + 1) := Lib.hid (fun k hk h => by
          rw [← hE]
          have := robin_cnt (HALLF.out h) (k := k) (by rw [HM.out]; exact hk)
          rwa [HM.out] at this)
        have HC64 : Hid (∀ k, k < m → (ownL (seqT chB M L 0).1 k).length ≤ 64) := Lib.hid (fun k hk => HB64.out _ (by
          show _ ∈ listsL M.length _
          rw [HM.out]
          exact List.mem_of_getElem? (listsL_at _ hk)))
        clear hE hAW
        go_wp2_with fail
        clear y0 y1
        go_loopw [14, 15, 16] (fun le mo i wr => ∃ k : Nat, k ≤ m ∧ i = .int .i64 k ∧ (∃ a c : Nat, le = .int .i64 a ∧ mo = .int .i64 c ∧ a ≤ 99 ∧ c ≤ 64 ∧ (b = true → c ≤ a + 1 ∧ (a = 99 ∨ E ≤ a) ∧ (c = 0 ∨ c ≤ E + 1) ∧ (0 < k → E ≤ a))) ∧ Hid (Below w4.heap.size w4 wr)) (fun _ _ i _ => m - (intOf i).toNat)
        case atStart => exact ⟨0, by omega, rfl, ⟨99, 0, rfl, rfl, by omega, by omega, fun _ => by omega⟩, HB⟩
        case round =>
          obtain ⟨k, hk, rfl, ⟨le, mo, rfl, rfl, hle, hmo, hf⟩, HB2⟩ := hrel
          by_cases hkm : k < m
          · obtain ⟨gb, hAb, -, hgb, hcb⟩ := HR.out (by rw [listsL_len]; omega)
            subst hAb
            obtain ⟨Ai, ci, d0, -, -⟩ := hcb k _ (listsL_at _ hkm)
            have hp64 := HC64.out k hkm
            have hce := HCB.out k hkm
            obtain ⟨p, hp⟩ : ∃ p, (ownL (seqT chB M L 0).1 k).length = p := ⟨_, rfl⟩
            rw [hp] at d0 hp64 hce
            have d0 := (HB2.out.cell (p := ⟨gb, k, none⟩) hgb).trans d0
            have i2 : (0 : Int) ≤ (k : Int) := by omega
            have i3 : (k : Int) < (m : Int) := by omega
            have HCE := Lib.hid hce
            have HF := Lib.hid hf
            clear hcb hp hce hf
            go_wp2_with fail
            go_roundw
            case rel => exact ⟨k + 1, by omega, by go_num, ⟨min le p, max mo p, by congr 1; omega, by congr 1; omega, by omega, by omega, fun h => by have h1 := HF.out h; have h2 := HCE.out h; omega⟩, HB2⟩
            case measure => simp [intOf]; omega
          · have hf2 : b = true → (mo : Int) ≤ (le : Int) + 1 := fun h => by have := (hf h).1; omega
            clear hf
            cases b with
            | true =>
              have t3 := hf2 rfl
              clear hf2
              go_wp2_with (first | (go_at_call 21; refine (fixed10_any _).mono ?_; rintro e w20 ⟨rfl, hb20⟩; have HB20 := Lib.hid hb20; clear hb20))
              go_ret
              exact ⟨by simp, (AW4.out.below HB2.out).bel.trans (HB20.out.mono (AW4.out.below HB2.out).bel.size)⟩
            | false =>
              clear hf2
              go_wp2_with (first | (go_at_call 21; refine (fixed10_any _).mono ?_; rintro e w20 ⟨rfl, hb20⟩; have HB20 := Lib.hid hb20; clear hb20))
              go_ret
              exact ⟨by simp, (AW4.out.below HB2.out).bel.trans (HB20.out.mono (AW4.out.below HB2.out).bel.size)⟩
  · have HX := Lib.hid hx
    have q := ne_zero hx0
    clear hx
    go_wp2_with (first
      | (go_at_call 21; refine (fixed10_any _).mono ?_; rintro e w20 ⟨rfl, hb20⟩; have HB20 := Lib.hid hb20; clear hb20)
      | (go_at_call 12; refine (robin_no _ A Am n c m cm L M x hx0 (Lib.hid AW3.out.il) (Lib.hid AW3.out.im) HX).mono ?_; rintro e w4 ⟨rfl, hb4⟩; have AW4 := Lib.hid (AW3.out.below hb4); clear hb4)
      | (go_at_call 10; refine (range_no _ A Am n c m cm L M x hx0 (Lib.hid AW.out.il) (Lib.hid AW.out.im) HX).mono ?_; rintro e w3 ⟨rfl, hb3⟩; have AW3 := Lib.hid (AW.out.below hb3); have y03 := (cell_of_row _ _ 0 _ _ _ AW3.out.row).trans rfl; have y13 := (cell_of_row _ _ 1 _ _ _ AW3.out.row).trans rfl; clear hb3))
    go_ret
    exact ⟨by simp, AW4.out.bel.trans (HB20.out.mono AW4.out.bel.size)⟩

set_option maxRecDepth 100000 in
set_option maxHeartbeats 1000000 in
theorem lifted (os : Os) (started : os.Started) (H : Type) (enc : TypeId × Value → H) :
    ReturnsInHanded {} Try.checked os 5 .any (Rows.assignFairSpec.pre6 enc Try.prog Try.f5 Rows.assignFairRow.domain false) (Rows.assignFairSpec.post enc Try.prog Try.f5 false true false false) := by
  refine returnsInHanded_of_change (C := Try.checked) own started (by kernel_rfl) Try.func5
    (ChangeSpec.witness6 (enc := enc) (C := Try.checked) false ⟨#[], #[.agg #[.slice none 0 0, .slice none 0 0]], []⟩ 8 (by kernel_rfl) (by kernel_rfl) (by kernel_rfl) (by kernel_rfl)) ?_
  intro W base args ds gs before hval0 hW _ _
  have hval : ∀ (j : Nat) t v, Try.f5.params[j]? = some t → args[j]? = some v → Value.okWide Try.prog W .any base t v := hval0
  have hW' := hW
  obtain ⟨p, q, hA0, hV, rfl, hfz, hnd⟩ := hW
  have hA : DataW.TrodAll enc Try.prog W 0 (fun _ => true) true Try.f5.params.toList args.toList ds p := hA0
  rw [Try.params5] at hA hval
  obtain ⟨v0, vs0, d0, ds0, p0, q0, hargs, rfl, rfl, h0, r0⟩ := trodAll_cons hA
  obtain ⟨rfl, rfl, rfl⟩ := trodAll_nil r0
  obtain rfl : args = #[v0] := by cases args; simp_all
  obtain ⟨rfl, rfl⟩ := trodVars_none hV
  have k0 := h0
  have lt0 : ∀ x ∈ p0, x.block < W.heap.size := by obtain ⟨m, hm⟩ := k0; exact DataW.trod_lt m _ _ _ hm
  obtain ⟨A0, B0, l0, m0, c0, d0, e0, R0⟩ := L10.open_ask (hval 0 25 v0 rfl rfl) h0
  subst e0
  clear hA0 hval0
  refine (walk W A0 B0 l0 m0 c0 d0 R0).mono fun e W' ⟨he, bel⟩ => ?_
  subst he
  exact ⟨_, rfl, _, _, _, [], _, [], hW', trodAll_mk1 (shut_bool Try.underlying4 _), (trodAll_cons_mk (Below.trod laidOut (by kernel_rfl) (of_decide_eq_true (by kernel_rfl)) k0 bel lt0) trodAll_mk0), rfl, bel.frame _, fun h => by cases h⟩

theorem over : Rows.assignFairRow.holds Try.pinned (OpenSpec.ofChange Rows.assignFairSpec) :=
  OpenClaim.holds_of_wide 5 Try.f5 rfl rfl rfl rfl rfl rfl rfl ⟨rfl, rfl, rfl, rfl, rfl⟩ rfl rfl rfl rfl rfl (by kernel_rfl) Try.func5 (by kernel_rfl)
    (of_decide_eq_true (by kernel_rfl)) (by unfold Func.isWrapper; first | (rw [if_pos (by decide +kernel)]; kernel_rfl) | (rw [if_neg (by decide +kernel)]; exact ⟨rfl, rfl⟩))
    (fun os started H enc _ => lifted os started H enc)

/-- the statement -/
theorem proved : Rows.AssignFairSaid :=
  over
#print axioms proved
end Go.Proofs.Ythogigaepnpmeaa.assignFair
