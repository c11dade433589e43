/-
  Proved: each partition of a topic that somebody wants is one member's, who wants it, and stands there once; no other one is anybody's (of at most 8 topics and members). No condition.
-/
import Derived.Test.YthogigaepnpmeaaRows
import Derived.WalkKit
import Derived.ProofKit
import Derived.OpenShut
import Derived.ShutString
import Derived.ChangeOld
import Derived.Below
import Derived.Test.YthogigaepnpmeaaAsWords
import Derived.LoopTactic
import Derived.IntWalk
namespace Go.Proofs.Ythogigaepnpmeaa.assignOnce
open Go.ChangeShapes Go.WideShapes Go.ChangeAt Go.RowKit Go.Deep
open Go.ChangeMaps (open_string shut_string)
open L3 L4 L9 L10

theorem own : ownKnob Try.prog.godebug = none := by kernel_rfl
theorem laidOut : laidOutB Try.prog = true := by kernel_rfl

set_option maxRecDepth 100000 in
set_option maxHeartbeats 16000000 in
theorem walk (W : World) (A0 B0 : Option Addr) (l0 : List Pt) (m0 : List Me) (c0 d0 : Nat) (R0 : IsAsk W A0 B0 l0 m0) :
    Calls Try.prog 4 #[.agg #[.slice A0 l0.length c0, .slice B0 m0.length d0]] W fun e w' => e = .returned (.bool true) ∧ Below W.heap.size W w' := by
  have hI1 := R0.below (one_box' (w := W) (.cells #[.slice A0 l0.length c0, .slice B0 m0.length d0] 25))
  obtain ⟨L, hLL⟩ : ∃ L, (l0.take 10).map cutP = L := ⟨_, rfl⟩
  obtain ⟨M, hMM⟩ : ∃ M, (m0.take 10).map (fun v => cutM v.m) = M := ⟨_, rfl⟩
  have HLL := Lib.hid hLL
  have HMM := Lib.hid hMM
  have HI1 := Lib.hid hI1
  clear hI1 hLL hMM
  go_enter Try.func4, Try.ntmps4
  go_upto_region 2 with (go_at_call 9; refine (cut_is _ A0 B0 l0 m0 l0.length c0 m0.length d0 HI1.out (Lib.hid rfl) (Lib.hid rfl) L M HLL HMM).mono ?_; intro e w1 hcp; obtain ⟨A, c, Am, cm, rfl, hL1, hM1, hb1⟩ := hcp; have hrow := (hb1.block W.heap.size (by simp)).trans (heap_alloc_new W (.cells #[.slice A0 l0.length c0, .slice B0 m0.length d0] 25)); have x0 := (cell_of_row _ _ 0 _ _ _ hrow).trans rfl; have x1 := (cell_of_row _ _ 1 _ _ _ hrow).trans rfl; have f0 := frozen_of_row _ _ 0 _ _ hrow; have f1 := frozen_of_row _ _ 1 _ _ hrow; have HC1 := Lib.hid (And.intro hL1 (And.intro hM1 (And.intro hb1 hrow))); clear hL1 hM1 hb1 hrow)
  have hAW := ask_start HC1.out
  obtain ⟨w2, hw2⟩ : ∃ w2, (w1.setCell ⟨W.heap.size, 0, none⟩ (.slice A L.length c)).setCell ⟨W.heap.size, 1, none⟩ (.slice Am M.length cm) = w2 := ⟨_, rfl⟩
  rw [hw2] at hAW ⊢
  have AW := Lib.hid hAW
  have y0 := (cell_of_row _ _ 0 _ _ _ hAW.row).trans rfl
  have y1 := (cell_of_row _ _ 1 _ _ _ hAW.row).trans rfl
  obtain ⟨n, hn⟩ : ∃ n, L.length = n := ⟨_, rfl⟩
  obtain ⟨m, hm⟩ : ∃ m, M.length = m := ⟨_, rfl⟩
  rw [hn, hm] at AW y0 y1 ⊢
  have HN := Lib.hid hn
  have HM := Lib.hid hm
  obtain ⟨bw, hbw⟩ : ∃ b, W.heap.size = b := ⟨_, rfl⟩
  rw [hbw] at AW y0 y1 ⊢
  clear hw2 hAW x0 x1 f0 f1 hn hm hbw
  obtain ⟨x, hx⟩ := chk_is1 L M
  by_cases hx0 : x = 0
  · subst hx0
    have HX := Lib.hid hx
    have hm8 : m ≤ 8 := by rw [← HM.out]; exact (chk_ok hx).2.1
    have HO1 := Lib.hid (once_range hx)
    have HO2 := Lib.hid (once_robin hx)
    clear hx
    go_upto_region 6 with (first
      | (go_at_call 12; refine (robin_ok _ A Am n c m cm L M _ (Lib.hid AW3.out.il) (Lib.hid AW3.out.im) HX (Lib.hid rfl)).mono ?_; rintro e w4 ⟨A4, c4, rfl, hr4, hb4⟩; have AW4 := Lib.hid (AW3.out.below hb4); have HA4 := Lib.hid ((HA3.out.below hb4).mono hb4.size); have HR4 := Lib.hid hr4; have y04 := (cell_of_row _ _ 0 _ _ _ AW4.out.row).trans rfl; have y14 := (cell_of_row _ _ 1 _ _ _ AW4.out.row).trans rfl; clear hr4 hb4)
      | (go_at_call 10; refine (range_ok _ A Am n c m cm L M _ (Lib.hid AW.out.il) (Lib.hid AW.out.im) HX (Lib.hid rfl)).mono ?_; rintro e w3 ⟨A3, c3, rfl, hr3, hb3⟩; have AW3 := Lib.hid (AW.out.below hb3); have HA3 := Lib.hid hr3; have y03 := (cell_of_row _ _ 0 _ _ _ AW3.out.row).trans rfl; have y13 := (cell_of_row _ _ 1 _ _ _ AW3.out.row).trans rfl; clear hr3 hb3))
    have HA4' : Hid (ReadsL w4 w2.heap.size w4.heap.size A3 (listsL m (seqT chR M L 0).1)) := Lib.hid (by have := HA4.out; unfold rangeL at this; rwa [HM.out] at this)
    have HR4' : Hid (ReadsL w4 w3.heap.size w4.heap.size A4 (listsL m (seqT chB M L 0).1)) := Lib.hid (by have := HR4.out; unfold robinL at this; rwa [HM.out] at this)
    clear HA3 HA4 HR4 y0 y1 y03 y13
    go_wp2_with (first
      | (go_at_call 21; refine (fixed10_any _).mono ?_; rintro e w20 ⟨rfl, hb20⟩; have HB20 := Lib.hid hb20; clear hb20)
      | (go_at_call 22; have _q := AW5; refine (once_is _ w3.heap.size A Am A4 n c m cm c4 L M _ (Lib.hid AW5.out.il) (Lib.hid AW5.out.im) HO2 HR5 hm8).mono ?_; rintro e w6 ⟨rfl, hb6⟩; have AW6 := Lib.hid (AW5.out.below hb6); clear hb6)
      | (go_at_call 22; refine (once_is _ w2.heap.size A Am A3 n c m cm c3 L M _ (Lib.hid AW4.out.il) (Lib.hid AW4.out.im) HO1 HA4' hm8).mono ?_; rintro e w5 ⟨rfl, hb5⟩; have AW5 := Lib.hid (AW4.out.below hb5); have HR5 := Lib.hid ((HR4'.out.below hb5).mono hb5.size); have y05 := (cell_of_row _ _ 0 _ _ _ AW5.out.row).trans rfl; have y15 := (cell_of_row _ _ 1 _ _ _ AW5.out.row).trans rfl; clear hb5))
    go_ret
    exact ⟨rfl, AW6.out.bel.trans (HB20.out.mono AW6.out.bel.size)⟩
  · have HX := Lib.hid hx
    have q := ne_zero hx0
    clear hx
    go_wp2_with (first
      | (go_at_call 21; refine (fixed10_any _).mono ?_; rintro e w20 ⟨rfl, hb20⟩; have HB20 := Lib.hid hb20; clear hb20)
      | (go_at_call 12; refine (robin_no _ A Am n c m cm L M x hx0 (Lib.hid AW3.out.il) (Lib.hid AW3.out.im) HX).mono ?_; rintro e w4 ⟨rfl, hb4⟩; have AW4 := Lib.hid (AW3.out.below hb4); clear hb4)
      | (go_at_call 10; refine (range_no _ A Am n c m cm L M x hx0 (Lib.hid AW.out.il) (Lib.hid AW.out.im) HX).mono ?_; rintro e w3 ⟨rfl, hb3⟩; have AW3 := Lib.hid (AW.out.below hb3); have y03 := (cell_of_row _ _ 0 _ _ _ AW3.out.row).trans rfl; have y13 := (cell_of_row _ _ 1 _ _ _ AW3.out.row).trans rfl; clear hb3))
    go_ret
    exact ⟨by simp, AW4.out.bel.trans (HB20.out.mono AW4.out.bel.size)⟩

set_option maxRecDepth 100000 in
set_option maxHeartbeats 1000000 in
theorem lifted (os : Os) (started : os.Started) (H : Type) (enc : TypeId × Value → H) :
    ReturnsInHanded {} Try.checked os 4 .any (Rows.assignOnceSpec.pre6 enc Try.prog Try.f4 Rows.assignOnceRow.domain false) (Rows.assignOnceSpec.post enc Try.prog Try.f4 false true false false) := by
  refine returnsInHanded_of_change (C := Try.checked) own started (by kernel_rfl) Try.func4
    (ChangeSpec.witness6 (enc := enc) (C := Try.checked) false ⟨#[], #[.agg #[.slice none 0 0, .slice none 0 0]], []⟩ 8 (by kernel_rfl) (by kernel_rfl) (by kernel_rfl) (by kernel_rfl)) ?_
  intro W base args ds gs before hval0 hW _ _
  have hval : ∀ (j : Nat) t v, Try.f4.params[j]? = some t → args[j]? = some v → Value.okWide Try.prog W .any base t v := hval0
  have hW' := hW
  obtain ⟨p, q, hA0, hV, rfl, hfz, hnd⟩ := hW
  have hA : DataW.TrodAll enc Try.prog W 0 (fun _ => true) true Try.f4.params.toList args.toList ds p := hA0
  rw [Try.params4] at hA hval
  obtain ⟨v0, vs0, d0, ds0, p0, q0, hargs, rfl, rfl, h0, r0⟩ := trodAll_cons hA
  obtain ⟨rfl, rfl, rfl⟩ := trodAll_nil r0
  obtain rfl : args = #[v0] := by cases args; simp_all
  obtain ⟨rfl, rfl⟩ := trodVars_none hV
  have k0 := h0
  have lt0 : ∀ x ∈ p0, x.block < W.heap.size := by obtain ⟨m, hm⟩ := k0; exact DataW.trod_lt m _ _ _ hm
  obtain ⟨A0, B0, l0, m0, c0, d0, e0, R0⟩ := L10.open_ask (hval 0 25 v0 rfl rfl) h0
  subst e0
  clear hA0 hval0
  refine (walk W A0 B0 l0 m0 c0 d0 R0).mono fun e W' ⟨he, bel⟩ => ?_
  subst he
  exact ⟨_, rfl, _, _, _, [], _, [], hW', trodAll_mk1 (shut_bool Try.underlying4 _), (trodAll_cons_mk (Below.trod laidOut (by kernel_rfl) (of_decide_eq_true (by kernel_rfl)) k0 bel lt0) trodAll_mk0), rfl, bel.frame _, fun h => by cases h⟩

theorem over : Rows.assignOnceRow.holds Try.pinned (OpenSpec.ofChange Rows.assignOnceSpec) :=
  OpenClaim.holds_of_wide 4 Try.f4 rfl rfl rfl rfl rfl rfl rfl ⟨rfl, rfl, rfl, rfl, rfl⟩ rfl rfl rfl rfl rfl (by kernel_rfl) Try.func4 (by kernel_rfl)
    (of_decide_eq_true (by kernel_rfl)) (by unfold Func.isWrapper; first | (rw [if_pos (by decide +kernel)]; kernel_rfl) | (rw [if_neg (by decide +kernel)]; exact ⟨rfl, rfl⟩))
    (fun os started H enc _ => lifted os started H enc)

/-- the statement -/
theorem proved : Rows.AssignOnceSaid :=
  over
#print axioms proved
end Go.Proofs.Ythogigaepnpmeaa.assignOnce
