/-
  Proved: a single member has all partitions of what it wants, either way (of at most 8 topics). No condition.
-/
import Derived.Test.YthogigaepnpmeaaRows
import Derived.WalkKit
import Derived.ProofKit
import Derived.OpenShut
import Derived.ShutString
import Derived.ChangeOld
import Derived.Below
import Derived.Test.YthogigaepnpmeaaAsWords
import Derived.Test.YthogigaepnpmeaaAsSingle
import Derived.LoopTactic
import Derived.IntWalk
namespace Go.Proofs.Ythogigaepnpmeaa.assignOne
open Go.ChangeShapes Go.WideShapes Go.ChangeAt Go.RowKit Go.Deep
open Go.ChangeMaps (open_string shut_string)
open L3 L4 L9 L10

theorem own : ownKnob Try.prog.godebug = none := by kernel_rfl
theorem laidOut : laidOutB Try.prog = true := by kernel_rfl

set_option maxRecDepth 100000 in
set_option maxHeartbeats 16000000 in
theorem walk (W : World) (A0 B0 : Option Addr) (l0 : List Pt) (m0 : List Me) (c0 d0 : Nat) (R0 : IsAsk W A0 B0 l0 m0) :
    Calls Try.prog 8 #[.agg #[.slice A0 l0.length c0, .slice B0 m0.length d0]] W fun e w' => e = .returned (.bool true) ∧ Below W.heap.size W w' := by
  have hI1 := R0.below (one_box' (w := W) (.cells #[.slice A0 l0.length c0, .slice B0 m0.length d0] 25))
  obtain ⟨L, hLL⟩ : ∃ L, (l0.take 10).map cutP = L := ⟨_, rfl⟩
  obtain ⟨M, hMM⟩ : ∃ M, (m0.take 10).map (fun v => cutM v.m) = M := ⟨_, rfl⟩
  have HLL := Lib.hid hLL
  have HMM := Lib.hid hMM
  have HI1 := Lib.hid hI1
  clear hI1 hLL hMM
  go_enter Try.func8, Try.ntmps8
  go_upto_region 2 with (go_at_call 9; refine (cut_is _ A0 B0 l0 m0 l0.length c0 m0.length d0 HI1.out (Lib.hid rfl) (Lib.hid rfl) L M HLL HMM).mono ?_; intro e w1 hcp; obtain ⟨A, c, Am, cm, rfl, hL1, hM1, hb1⟩ := hcp; have hrow := (hb1.block W.heap.size (by simp)).trans (heap_alloc_new W (.cells #[.slice A0 l0.length c0, .slice B0 m0.length d0] 25)); have x0 := (cell_of_row _ _ 0 _ _ _ hrow).trans rfl; have x1 := (cell_of_row _ _ 1 _ _ _ hrow).trans rfl; have f0 := frozen_of_row _ _ 0 _ _ hrow; have f1 := frozen_of_row _ _ 1 _ _ hrow; have HC1 := Lib.hid (And.intro hL1 (And.intro hM1 (And.intro hb1 hrow))); clear hL1 hM1 hb1 hrow)
  have hAW := ask_start HC1.out
  obtain ⟨w2, hw2⟩ : ∃ w2, (w1.setCell ⟨W.heap.size, 0, none⟩ (.slice A L.length c)).setCell ⟨W.heap.size, 1, none⟩ (.slice Am M.length cm) = w2 := ⟨_, rfl⟩
  rw [hw2] at hAW ⊢
  have AW := Lib.hid hAW
  have y0 := (cell_of_row _ _ 0 _ _ _ hAW.row).trans rfl
  have y1 := (cell_of_row _ _ 1 _ _ _ hAW.row).trans rfl
  obtain ⟨n, hn⟩ : ∃ n, L.length = n := ⟨_, rfl⟩
  obtain ⟨m, hm⟩ : ∃ m, M.length = m := ⟨_, rfl⟩
  rw [hn, hm] at AW y0 y1 ⊢
  have HN := Lib.hid hn
  have HM := Lib.hid hm
  obtain ⟨bw, hbw⟩ : ∃ b, W.heap.size = b := ⟨_, rfl⟩
  rw [hbw] at AW y0 y1 ⊢
  clear hw2 hAW x0 x1 f0 f1 hn hm hbw
  obtain ⟨x, hx⟩ := chk_is1 L M
  by_cases hx0 : x = 0
  · subst hx0
    have HX := Lib.hid hx
    have HG := Lib.hid (chk_ok hx).1
    have hm8 : m ≤ 8 := by rw [← HM.out]; exact (chk_ok hx).2.1
    have hn8 : n ≤ 8 := by rw [← HN.out]; exact (chk_ok hx).1.len
    clear hx
    by_cases hm0 : m = 0
    · have q : ((m : Int) == 0) = true := by simp [hm0]
      clear hm0
      go_wp2_with (first
        | (go_at_call 21; refine (fixed10_any _).mono ?_; rintro e w20 ⟨rfl, hb20⟩; have HB20 := Lib.hid hb20; clear hb20)
        | (go_at_call 15; refine (check_is _ A Am n c m cm L M 0 (Lib.hid AW.out.il) (Lib.hid AW.out.im) HX).mono ?_; rintro e w3 ⟨rfl, hb3⟩; have AW3 := Lib.hid (AW.out.below hb3); have y03 := (cell_of_row _ _ 0 _ _ _ AW3.out.row).trans rfl; have y13 := (cell_of_row _ _ 1 _ _ _ AW3.out.row).trans rfl; have hbw3 := (Array.getElem?_eq_some_iff.1 AW3.out.row).1; clear hb3))
      go_ret
      exact ⟨rfl, AW3.out.bel.trans (HB20.out.mono AW3.out.bel.size)⟩
    · have q : ((m : Int) == 0) = false := by simpa using hm0
      obtain ⟨mb, hmb⟩ : ∃ mb, M[0]? = some mb := ⟨_, List.getElem?_eq_getElem (by rw [HM.out]; omega)⟩
      have HX1 := Lib.hid (chk_first HX.out mb)
      have HMB := Lib.hid hmb
      have HWT : Hid (∀ w', AskW W w' bw A Am n c m cm L M → IsM w' w'.heap.size Am 1 cm [mb]) := Lib.hid (fun w' h => by
        have hl0 : 0 < M.length := by rw [HM.out]; omega
        refine ⟨fun _ => ?_, rfl, fun x hx => ?_, by decide, by have := h.im.cap; have := HM.out; omega⟩
        · obtain ⟨g, e, hg, hc⟩ := h.im.rd hl0
          refine ⟨g, e, hg, fun i y hy => ?_⟩
          match i, hy with
          | 0, hy => simp at hy; subst hy; exact hc 0 _ HMB.out
          | i + 1, hy => simp at hy
        · rw [List.mem_singleton.1 hx]; exact h.im.sz _ (List.mem_of_getElem? HMB.out))
      have q1 : (1 : Int) ≤ (m : Int) := by omega
      have hmc : (1 : Int) ≤ (cm : Int) := by have := AW.out.im.cap; omega
      have hmc2 : 1 ≤ cm := by omega
      obtain ⟨ml, hml⟩ : ∃ k, someL L [mb] = k := ⟨_, rfl⟩
      have HR1 : Hid (rangeL L [mb] = [ml]) := Lib.hid (by rw [range_single, hml])
      have HR2 : Hid (robinL L [mb] = [ml]) := Lib.hid (by rw [robin_single, hml])
      have HML := Lib.hid hml
      have HML64 : Hid (ml.length ≤ 64) := Lib.hid (by rw [← hml]; exact someL_len HG.out [mb])
      clear hmb hml
      go_upto_region 7 with (first
        | (go_at_call 12; refine (robin_ok _ A Am n c 1 cm L [mb] _ (Lib.hid AW4.out.il) (Lib.hid (HWT.out _ AW4.out)) HX1 HR2).mono ?_; rintro e w5 ⟨A5, c5, rfl, hr5, hb5⟩; have AW5 := Lib.hid (AW4.out.below hb5); have HA5 := Lib.hid ((HA4.out.below hb5).mono hb5.size); have HR5 := Lib.hid hr5; clear hr5 hb5)
        | (go_at_call 10; refine (range_ok _ A Am n c 1 cm L [mb] _ (Lib.hid AW3.out.il) (Lib.hid (HWT.out _ AW3.out)) HX1 HR1).mono ?_; rintro e w4 ⟨A4, c4, rfl, hr4, hb4⟩; have AW4 := Lib.hid (AW3.out.below hb4); have HA4 := Lib.hid hr4; have y04 := (cell_of_row _ _ 0 _ _ _ AW4.out.row).trans rfl; have y14 := (cell_of_row _ _ 1 _ _ _ AW4.out.row).trans rfl; clear hr4 hb4)
        | (go_at_call 15; refine (check_is _ A Am n c m cm L M 0 (Lib.hid AW.out.il) (Lib.hid AW.out.im) HX).mono ?_; rintro e w3 ⟨rfl, hb3⟩; have AW3 := Lib.hid (AW.out.below hb3); have y03 := (cell_of_row _ _ 0 _ _ _ AW3.out.row).trans rfl; have y13 := (cell_of_row _ _ 1 _ _ _ AW3.out.row).trans rfl; have hbw3 := (Array.getElem?_eq_some_iff.1 AW3.out.row).1; clear hb3))
      obtain ⟨i0, hi0, hz0, hz1, hz2⟩ := info_parts ptInfo
      clear y0 y1 y03 y13 y04 y14
      go_wp2_with fail
      have HB6 : Hid (Below w5.heap.size w5 (w5.alloc (.cells #[] 27))) := Lib.hid (one_box' _)
      have HO6 : Hid ((w5.alloc (.cells #[] 27)).ownsRow w5.heap.size 27 2 (.slice (some ⟨w5.heap.size, 0, none⟩) 0 0) 0 []) := Lib.hid (World.ownsRow_made (size := 2) w5 #[] 0 (Nat.le_refl _) (by unfold maxLen; omega) rfl)
      go_loopw [8, 9] (fun v i wr => ∃ j : Nat, j ≤ n ∧ i = .int .i64 j ∧ (∃ (A' : Option Addr) (q c' : Nat), v = .slice A' q c' ∧ q ≤ 64 ∧ Hid ((someL (L.take j) [mb]).length = q) ∧ Hid (wr.ownsRow w5.heap.size 27 2 (.slice A' q c') q (rowP (someL (L.take j) [mb])))) ∧ Hid (Below w5.heap.size w5 wr)) (fun _ i _ => n - (intOf i).toNat)
      case atStart => exact ⟨0, by omega, rfl, ⟨_, 0, 0, rfl, by omega, Lib.hid rfl, HO6⟩, HB6⟩
      case round =>
        obtain ⟨j, hj, rfl, ⟨A', q, c', rfl, hq64, HQ, HO⟩, HB⟩ := hrel
        have hAW := AW5.out.below HB.out
        have y0 := (cell_of_row _ _ 0 _ _ _ hAW.row).trans rfl
        have y1 := (cell_of_row _ _ 1 _ _ _ hAW.row).trans rfl
        by_cases hlt : j < n
        · obtain ⟨gl, hAl, hgl, hcl⟩ := AW5.out.il.rd (by rw [HN.out]; omega)
          obtain ⟨⟨xt, N0⟩, hs⟩ : ∃ s, L[j]? = some s := ⟨_, List.getElem?_eq_getElem (by rw [HN.out]; omega)⟩
          have hfit := HG.out.fit _ (List.mem_of_getElem? hs)
          dsimp only at hfit
          obtain ⟨N, rfl⟩ : ∃ N : Nat, N0 = (N : Int) := ⟨N0.toNat, by omega⟩
          obtain ⟨d0, d1⟩ := hcl j _ hs
          dsimp only at d0 d1
          obtain ⟨gm, hAm, hgm, hcm⟩ := AW5.out.im.rd (by rw [HM.out]; omega)
          obtain ⟨nk, ts⟩ := mb
          obtain ⟨f0, At, ct, f1, hrt⟩ := hcm 0 _ HMB.out
          obtain ⟨z0, z1, z2⟩ := AW5.out.im.sz _ (List.mem_of_getElem? HMB.out)
          dsimp only at f0 f1 hrt z1
          obtain ⟨tn, htn⟩ : ∃ tn, ts.length = tn := ⟨_, rfl⟩
          rw [htn] at f1 z1
          simp only [Nat.zero_mul, Nat.zero_add] at f0 f1
          obtain ⟨v, hv⟩ : ∃ v, anyB ts xt = v := ⟨_, rfl⟩
          have HV := Lib.hid hv
          have D0 := Lib.hid d0
          have D1 := Lib.hid d1
          have F0 := Lib.hid f0
          have F1 := Lib.hid f1
          have HRT := Lib.hid hrt
          have HTN := Lib.hid htn
          have HGZ := Lib.hid (And.intro hgl hgm)
          have HSN : Hid (someL (L.take (j + 1)) [⟨nk, ts⟩] = someL (L.take j) [⟨nk, ts⟩] ++ (if v = true then upTo ⟨xt, (N : Int)⟩ N else [])) := Lib.hid (by
            rw [some_next L _ hs, able_single]
            show _ ++ (if (if anyB ts xt = true then [0] else []) = [] then [] else partsT ⟨xt, (N : Int)⟩) = _
            rw [hv, upTo_all ⟨xt, (N : Int)⟩ rfl]
            cases v <;> simp)
          have hN8 : N ≤ 8 := by omega
          have HN1 : Hid (0 < N) := Lib.hid (by omega)
          have b0 : (0 : Int) ≤ (j : Int) := by omega
          have b1 : (j : Int) < (n : Int) := by omega
          have b2 : (0 : Int) < (m : Int) := by omega
          have HTK : Hid ((someL (L.take (j + 1)) [⟨nk, ts⟩]).length ≤ 64) := Lib.hid (someL_len ⟨List.Pairwise.sublist (List.take_sublist _ _) HG.out.rise, fun x hx => HG.out.may x (List.mem_of_mem_take hx), Nat.le_trans (by rw [List.length_take]; omega) HG.out.len⟩ _)
          subst hAl
          subst hAm
          clear hcl hs hfit d0 d1 hcm f0 f1 hrt htn hv hAW
          go_wp2_with fail
          clear y0 y1
          obtain ⟨P0, hP0⟩ : ∃ P0, someL (L.take j) [⟨nk, ts⟩] = P0 := ⟨_, rfl⟩
          rw [hP0] at HQ HO HSN
          have HP0 := Lib.hid hP0
          clear hP0
          go_loopw [8, 10] (fun u i wr => ∃ y : Nat, y ≤ N ∧ i = .int .i64 y ∧ (v = false → y = 0) ∧ (∃ (A' : Option Addr) (q' c' : Nat), u = .slice A' q' c' ∧ q' ≤ 72 ∧ Hid (q' = q + y) ∧ Hid (wr.ownsRow w5.heap.size 27 2 (.slice A' q' c') q' (rowP (P0 ++ upTo ⟨xt, (N : Int)⟩ y)))) ∧ Hid (Below w5.heap.size w5 wr)) (fun _ i _ => N - (intOf i).toNat)
          case atStart => exact ⟨0, by omega, rfl, fun _ => rfl, ⟨A', q, c', rfl, by omega, Lib.hid rfl, Lib.hid (by simpa [upTo] using HO.out)⟩, HB⟩
          case round =>
            obtain ⟨y, hy, rfl, hv0, ⟨A2, q2, c2, rfl, hq72, HQQ, HO2⟩, HB2⟩ := hrel
            have hAW := AW5.out.below HB2.out
            have y0 := (cell_of_row _ _ 0 _ _ _ hAW.row).trans rfl
            have y1 := (cell_of_row _ _ 1 _ _ _ hAW.row).trans rfl
            have d0 := (HB2.out.cell (p := ⟨gl, j * 2, none⟩) HGZ.out.1).trans D0.out
            have d1 := (HB2.out.cell (p := ⟨gl, j * 2 + 1, none⟩) HGZ.out.1).trans D1.out
            have f0 := (HB2.out.cell (p := ⟨gm, 0, none⟩) HGZ.out.2).trans F0.out
            have f1 := (HB2.out.cell (p := ⟨gm, 1, none⟩) HGZ.out.2).trans F1.out
            by_cases hyN : y < N
            · have t0 : (y : Int) < (N : Int) := by omega
              have hS6 := Lib.hid (show ((wr.cell? ⟨bw, 0, none⟩ = some (.slice (some ⟨gl, 0, none⟩) n c) ∧ wr.cell? ⟨bw, 1, none⟩ = some (.slice (some ⟨gm, 0, none⟩) m cm) ∧ wr.cell? ⟨gl, j * 2, none⟩ = some (.string xt) ∧ wr.cell? ⟨gl, j * 2 + 1, none⟩ = some (.int .i64 (N : Int)) ∧ wr.cell? ⟨gm, 0, none⟩ = some (.string nk) ∧ wr.cell? ⟨gm, 1, none⟩ = some (.slice At tn ct)) ∧ Below wr.heap.size wr wr) from ⟨⟨y0, y1, d0, d1, f0, f1⟩, Below.refl _ _⟩)
              have HRW := Lib.hid (HRT.out.below HB2.out.drew)
              have HZW : Hid (w5.heap.size ≤ wr.heap.size) := Lib.hid HB2.out.size
              clear hAW
              go_wp2_with fail
              go_region_held3 (fun w' => ((w'.cell? ⟨bw, 0, none⟩ = some (.slice (some ⟨gl, 0, none⟩) n c) ∧ w'.cell? ⟨bw, 1, none⟩ = some (.slice (some ⟨gm, 0, none⟩) m cm) ∧ w'.cell? ⟨gl, j * 2, none⟩ = some (.string xt) ∧ w'.cell? ⟨gl, j * 2 + 1, none⟩ = some (.int .i64 (N : Int)) ∧ w'.cell? ⟨gm, 0, none⟩ = some (.string nk) ∧ w'.cell? ⟨gm, 1, none⟩ = some (.slice At tn ct)) ∧ Below wr.heap.size wr w'))
                (first | with_reducible assumption | exact keep6 hS6.out HB3.out | exact keep6 hS6.out (Below.refl _ _).drew)
                (first
                  | (go_at_call 20; refine (rwants_is nk xt ts At ct tn w5.heap.size v _ HRW HZW.out HTN z1 HV).mono ?_; rintro e w6 ⟨rfl, hb6⟩; have HB3 := Lib.hid ((Below.refl _ wr).drew.trans hb6)))
              rename_i hHeld
              have HH := Lib.hid (HB2.out.trans (hHeld.2.mono HB2.out.size))
              have HOH := Lib.hid (own_below HO2.out hHeld.2)
              obtain ⟨⟨y0', y1', d0', d1', f0', f1'⟩, _⟩ := hHeld
              clear y0 y1 d0 d1 f0 f1
              cases v with
              | true =>
                have hlw : Hid (w5.heap.size ≤ w6.heap.size) := Lib.hid HH.out.size
                have HNQ : Hid (rowP (P0 ++ upTo ⟨xt, (N : Int)⟩ (y + 1)) = rowP (P0 ++ upTo ⟨xt, (N : Int)⟩ y) ++ [.string xt, .int .i64 (y : Int)]) := Lib.hid (by rw [upTo_next, ← List.append_assoc, rowP_app]; rfl)
                have HQN : Hid (q2 + 1 ≤ 72) := Lib.hid (by have := HQQ.out; omega)
                go_wp2_with (at_builtin; refine wpList_append_own _ rfl _ _ 36 rfl w5.heap.size 27 i0 _ 2 24 Try.underlying36 hi0 hz0 hz1 hz2 rfl (by decide) (.slice A2 q2 c2) q2 (rowP (P0 ++ upTo ⟨xt, (N : Int)⟩ y)) rfl (HOH.out.alloc _) ⟨w6.heap.size, 0, none⟩ 1 1 [.string xt, .int .i64 (y : Int)] rfl rfl (World.news_of_block (cs := #[.string xt, .int .i64 (y : Int)]) (t := 27) (fr := (0, 0)) (heap_alloc_new w6 _)) (by simp [Value.oneCell']) (by unfold maxLen; omega) (by omega) (by have := hlw.out; simp; omega) ?_; intro v7 w7 hown7 hgrow7 _; obtain ⟨A7, c7, rfl⟩ := own_len hown7; have HO7 := Lib.hid hown7; have HB7 := Lib.hid ((HH.out.alloc HH.out.size _).grown hgrow7 (by have := HH.out.size; simp; omega) (fun k e => (HOH.out.lt k e).1)); clear hown7 hgrow7)
                go_roundw
                case rel => exact ⟨y + 1, by omega, by go_num, fun e => by simp at e, ⟨A7, q2 + 1, c7, rfl, by have := HQN.out; omega, Lib.hid (by have := HQQ.out; omega), Lib.hid (by rw [HNQ.out]; exact HO7.out)⟩, HB7⟩
                case measure => simp [intOf]; omega
              | false =>
                have hy0 : y = 0 := hv0 (by simp)
                have hjn : j + 1 ≤ n := hlt
                have HF : Hid (q2 = q ∧ rowP (P0 ++ upTo ⟨xt, (N : Int)⟩ y) = rowP (someL (L.take (j + 1)) [⟨nk, ts⟩])) := Lib.hid (by
                  refine ⟨by have := HQQ.out; omega, ?_⟩
                  rw [HSN.out, hy0]; simp [upTo])
                have HSL : Hid ((someL (L.take (j + 1)) [⟨nk, ts⟩]).length = q2) := Lib.hid (by
                  rw [HSN.out]; simp; rw [HQ.out]; have := HQQ.out; omega)
                have hq2 : q2 ≤ 64 := by have := HQQ.out; omega
                go_wp2_with fail
                go_roundw
                case rel => exact ⟨j + 1, by omega, by go_num, ⟨A2, q2, c2, rfl, hq2, HSL, Lib.hid (by rw [← HF.out.2]; exact HOH.out)⟩, HH⟩
                case measure => simp [intOf]; omega
            · have hyn : y = N := by omega
              have HVT : Hid (v = true) := Lib.hid (by
                cases v
                · have := hv0 rfl; have := HN1.out; omega
                · rfl)
              have HSL : Hid (someL (L.take (j + 1)) [⟨nk, ts⟩] = P0 ++ upTo ⟨xt, (N : Int)⟩ y) := Lib.hid (by rw [HSN.out, HVT.out, hyn]; simp)
              have HLQ : Hid ((someL (L.take (j + 1)) [⟨nk, ts⟩]).length = q2) := Lib.hid (by rw [HSL.out, List.length_append, HQ.out, HQQ.out]; simp [upTo])
              have hq2 : q2 ≤ 64 := by rw [← HLQ.out]; exact HTK.out
              have t0 : ¬ (y : Int) < (N : Int) := by omega
              clear hAW f0 f1
              go_wp2_with fail
              go_quiet (fail)
              go_wp2_with fail
              go_roundw
              case rel => exact ⟨j + 1, by omega, by go_num, ⟨A2, q2, c2, rfl, hq2, HLQ, Lib.hid (by rw [HSL.out]; exact own_below HO2.out (drewN_below (Below.refl _ _) _))⟩, Lib.hid (drewN_below HB2.out _)⟩
              case measure => simp [intOf]; omega
        · have hjn : j = n := by omega
          have HEQ : Hid (someL (L.take j) [mb] = ml) := Lib.hid (by rw [List.take_of_length_le (by rw [HN.out]; omega), HML.out])
          have ho := HO.out
          rw [HEQ.out] at ho
          have HRW := Lib.hid (own_reads ho (by rw [← HQ.out, HEQ.out]) (own_lt ho))
          have HLQ : Hid (ml.length = q) := Lib.hid (by rw [← HQ.out, HEQ.out])
          have HAW := Lib.hid hAW
          have h5 := (HA5.out.below HB.out).mono HB.out.size
          have h6 := (HR5.out.below HB.out).mono HB.out.size
          obtain ⟨ga, hAa, _, hga, hca⟩ := h5 (by simp)
          obtain ⟨gb, hAb, _, hgb, hcb⟩ := h6 (by simp)
          obtain ⟨Aa, ca, a0, hra, _⟩ := hca 0 _ rfl
          obtain ⟨Ab, cb, b0, hrb, _⟩ := hcb 0 _ rfl
          subst hAa
          subst hAb
          rw [HLQ.out] at a0 b0
          have HRA := Lib.hid hra
          have HRB := Lib.hid hrb
          have HG2 := Lib.hid hgb
          have hjx : ¬ (j : Int) < (n : Int) := by omega
          clear h5 h6 hca hcb hra hrb ho hAW hlt hj hjn
          go_wp2_with (first
            | (go_at_call 21; refine (fixed10_any _).mono ?_; rintro e w20 ⟨rfl, hb20⟩; have HB20 := Lib.hid hb20; clear hb20)
            | (go_at_call 23; have _q := HB7; refine (parts_is Ab A' ml ml q q cb c' wr.heap.size true _ (Lib.hid (HRB.out.below HB7.out)) (Lib.hid (HRW.out.below HB7.out)) HB7.out.size HLQ HLQ (by omega) (Lib.hid (by simp))).mono ?_; rintro e w8 ⟨rfl, hb8⟩; have HB8 := Lib.hid (HB7.out.trans (hb8.mono HB7.out.size)); clear hb8)
            | (go_at_call 23; refine (parts_is Aa A' ml ml q q ca c' wr.heap.size true _ HRA HRW (Nat.le_refl _) HLQ HLQ (by omega) (Lib.hid (by simp))).mono ?_; rintro e w7 ⟨rfl, hb7⟩; have HB7 := Lib.hid hb7; have b0' := (hb7.cell (p := ⟨gb, 0, none⟩) HG2.out).trans b0; clear hb7))
          go_ret
          exact ⟨rfl, HAW.out.bel.trans ((HB8.out.trans (HB20.out.mono HB8.out.size)).mono HAW.out.bel.size)⟩
  · have HX := Lib.hid hx
    have q := ne_zero hx0
    clear hx
    go_wp2_with (first
      | (go_at_call 21; refine (fixed10_any _).mono ?_; rintro e w20 ⟨rfl, hb20⟩; have HB20 := Lib.hid hb20; clear hb20)
      | (go_at_call 15; refine (check_is _ A Am n c m cm L M x (Lib.hid AW.out.il) (Lib.hid AW.out.im) HX).mono ?_; rintro e w3 ⟨rfl, hb3⟩; have AW3 := Lib.hid (AW.out.below hb3); have y03 := (cell_of_row _ _ 0 _ _ _ AW3.out.row).trans rfl; have y13 := (cell_of_row _ _ 1 _ _ _ AW3.out.row).trans rfl; have hbw3 := (Array.getElem?_eq_some_iff.1 AW3.out.row).1; clear hb3))
    go_ret
    exact ⟨rfl, AW3.out.bel.trans (HB20.out.mono AW3.out.bel.size)⟩

set_option maxRecDepth 100000 in
set_option maxHeartbeats 1000000 in
theorem lifted (os : Os) (started : os.Started) (H : Type) (enc : TypeId × Value → H) :
    ReturnsInHanded {} Try.checked os 8 .any (Rows.assignOneSpec.pre6 enc Try.prog Try.f8 Rows.assignOneRow.domain false) (Rows.assignOneSpec.post enc Try.prog Try.f8 false true false false) := by
  refine returnsInHanded_of_change (C := Try.checked) own started (by kernel_rfl) Try.func8
    (ChangeSpec.witness6 (enc := enc) (C := Try.checked) false ⟨#[], #[.agg #[.slice none 0 0, .slice none 0 0]], []⟩ 8 (by kernel_rfl) (by kernel_rfl) (by kernel_rfl) (by kernel_rfl)) ?_
  intro W base args ds gs before hval0 hW _ _
  have hval : ∀ (j : Nat) t v, Try.f8.params[j]? = some t → args[j]? = some v → Value.okWide Try.prog W .any base t v := hval0
  have hW' := hW
  obtain ⟨p, q, hA0, hV, rfl, hfz, hnd⟩ := hW
  have hA : DataW.TrodAll enc Try.prog W 0 (fun _ => true) true Try.f8.params.toList args.toList ds p := hA0
  rw [Try.params8] at hA hval
  obtain ⟨v0, vs0, d0, ds0, p0, q0, hargs, rfl, rfl, h0, r0⟩ := trodAll_cons hA
  obtain ⟨rfl, rfl, rfl⟩ := trodAll_nil r0
  obtain rfl : args = #[v0] := by cases args; simp_all
  obtain ⟨rfl, rfl⟩ := trodVars_none hV
  have k0 := h0
  have lt0 : ∀ x ∈ p0, x.block < W.heap.size := by obtain ⟨m, hm⟩ := k0; exact DataW.trod_lt m _ _ _ hm
  obtain ⟨A0, B0, l0, m0, c0, d0, e0, R0⟩ := L10.open_ask (hval 0 25 v0 rfl rfl) h0
  subst e0
  clear hA0 hval0
  refine (walk W A0 B0 l0 m0 c0 d0 R0).mono fun e W' ⟨he, bel⟩ => ?_
  subst he
  exact ⟨_, rfl, _, _, _, [], _, [], hW', trodAll_mk1 (shut_bool Try.underlying4 _), (trodAll_cons_mk (Below.trod laidOut (by kernel_rfl) (of_decide_eq_true (by kernel_rfl)) k0 bel lt0) trodAll_mk0), rfl, bel.frame _, fun h => by cases h⟩

theorem over : Rows.assignOneRow.holds Try.pinned (OpenSpec.ofChange Rows.assignOneSpec) :=
  OpenClaim.holds_of_wide 8 Try.f8 rfl rfl rfl rfl rfl rfl rfl ⟨rfl, rfl, rfl, rfl, rfl⟩ rfl rfl rfl rfl rfl (by kernel_rfl) Try.func8 (by kernel_rfl)
    (of_decide_eq_true (by kernel_rfl)) (by unfold Func.isWrapper; first | (rw [if_pos (by decide +kernel)]; kernel_rfl) | (rw [if_neg (by decide +kernel)]; exact ⟨rfl, rfl⟩))
    (fun os started H enc _ => lifted os started H enc)

/-- the statement -/
theorem proved : Rows.AssignOneSaid :=
  over
#print axioms proved
end Go.Proofs.Ythogigaepnpmeaa.assignOne
