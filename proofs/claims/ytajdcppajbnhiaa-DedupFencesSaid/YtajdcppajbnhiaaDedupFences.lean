/-
  Proved: behind a further epoch nothing of an earlier one is taken, and numbers begin at 0 again; other producers and partitions are as they were. No condition.
-/
import Derived.Test.YtajdcppajbnhiaaRows
import Derived.WalkKit
import Derived.ProofKit
import Derived.OpenShut
import Derived.ShutString
import Derived.ChangeOld
import Derived.Below
import Derived.Test.YtajdcppajbnhiaaDdTwo
import Derived.Test.YtajdcppajbnhiaaDdArgs
import Derived.Deep.RegionWith
import Derived.Deep.RegionHeld3
import Derived.Deep.RegionLaw
import Derived.Deep.DeepCutAuto
import Derived.LoopTactic
namespace Go.Proofs.Ytajdcppajbnhiaa.dedupFences
open Go.ChangeShapes Go.WideShapes Go.ChangeAt Go.RowKit Go.Deep
open Go.ChangeMaps (open_string shut_string)
open L3 L4 L8

theorem own : ownKnob Try.prog.godebug = none := by kernel_rfl
theorem laidOut : laidOutB Try.prog = true := by kernel_rfl


theorem mask_n (m : Nat) (hm : m < 9223372036854775808) (x : Int) : 0 ≤ bits .and .i64 x (m : Int) ∧ bits .and .i64 x (m : Int) ≤ m := by
  have e : (BitVec.ofInt 64 x &&& BitVec.ofInt 64 (m : Int)).toNat ≤ m := by
    rw [BitVec.toNat_and]
    refine Nat.le_trans Nat.and_le_right ?_
    rw [BitVec.ofInt_natCast, BitVec.toNat_ofNat, Nat.mod_eq_of_lt (by omega)]
    exact Nat.le_refl _
  show 0 ≤ IntKind.i64.wrap ((BitVec.ofInt 64 x &&& BitVec.ofInt 64 (m : Int)).toNat : Int) ∧ IntKind.i64.wrap ((BitVec.ofInt 64 x &&& BitVec.ofInt 64 (m : Int)).toNat : Int) ≤ m
  rw [IntWalk.i64_in _ (by omega)]
  omega
/-- two boxes of partitions of the law's own -/
def TwoP (b8 b9 : Nat) (t : ByteArray) (p : Int) (u : ByteArray) (q : Int) (w : World) : Prop :=
  w.heap[b8]? = some (.cells #[.string t, .int .i64 p] 31 (0, 0)) ∧ w.heap[b9]? = some (.cells #[.string u, .int .i64 q] 31 (0, 0)) ∧ b8 ≠ b9
theorem TwoP.fr {b8 b9 : Nat} {t u : ByteArray} {p q : Int} {w w' : World} (h : TwoP b8 b9 t p u q w) (f : Fr w w') : TwoP b8 b9 t p u q w' := ⟨f.box h.1 (by decide) (by decide), f.box h.2.1 (by decide) (by decide), h.2.2⟩
def Cells4 (b8 b9 : Nat) (t : ByteArray) (p : Int) (u : ByteArray) (q : Int) (w : World) : Prop :=
  w.cell? ⟨b8, 0, none⟩ = some (.string t) ∧ w.cell? ⟨b8, 1, none⟩ = some (.int .i64 p) ∧ w.cell? ⟨b9, 0, none⟩ = some (.string u) ∧ w.cell? ⟨b9, 1, none⟩ = some (.int .i64 q)
theorem TwoP.cells {b8 b9 : Nat} {t u : ByteArray} {p q : Int} {w : World} (h : TwoP b8 b9 t p u q w) : Cells4 b8 b9 t p u q w :=
  ⟨(cell_of_row _ _ 0 _ _ _ h.1).trans rfl, (cell_of_row _ _ 1 _ _ _ h.1).trans rfl, (cell_of_row _ _ 0 _ _ _ h.2.1).trans rfl, (cell_of_row _ _ 1 _ _ _ h.2.1).trans rfl⟩
/-- .. and what may change beside them -/
def TwoF (b8 b9 : Nat) (t : ByteArray) (p : Int) (u : ByteArray) (q : Int) (W w : World) : Prop :=
  (w.cell? ⟨b8, 0, none⟩ = some (.string t) ∧ w.cell? ⟨b8, 1, none⟩ = some (.int .i64 p) ∧ w.cell? ⟨b9, 0, none⟩ = some (.string u) ∧ w.cell? ⟨b9, 1, none⟩ = some (.int .i64 q)) ∧ (TwoP b8 b9 t p u q w ∧ Fr W w)
theorem TwoF.of {b8 b9 : Nat} {t u : ByteArray} {p q : Int} {W w : World} (h : TwoP b8 b9 t p u q w) (f : Fr W w) : TwoF b8 b9 t p u q W w := ⟨h.cells, h, f⟩
theorem TwoF.fr {b8 b9 : Nat} {t u : ByteArray} {p q : Int} {W w w' : World} (h : TwoF b8 b9 t p u q W w) (f : Fr w w') : TwoF b8 b9 t p u q W w' := .of (h.2.1.fr f) (h.2.2.trans f)
theorem TwoF.next {b8 b9 : Nat} {t u : ByteArray} {p q : Int} {W w w' : World} (h : TwoF b8 b9 t p u q W w) (b : Below w.heap.size w w') : TwoF b8 b9 t p u q W w' := h.fr (Fr.below b)
theorem TwoF.here {b8 b9 : Nat} {t u : ByteArray} {p q : Int} {W w : World} (h : TwoF b8 b9 t p u q W w) : TwoF b8 b9 t p u q w w := .of h.2.1 (Fr.refl w)
/-- two texts cut -/
theorem TwoP.cut {b8 b9 : Nat} {t0 u0 t u : ByteArray} {p q : Int} {B : Nat} {w : World} (h : TwoP b8 b9 t0 p u0 q w) (h8 : B ≤ b8) (h9 : B ≤ b9) :
    TwoP b8 b9 t p u q ((w.setCell ⟨b8, 0, none⟩ (.string t)).setCell ⟨b9, 0, none⟩ (.string u)) ∧ Below B w ((w.setCell ⟨b8, 0, none⟩ (.string t)).setCell ⟨b9, 0, none⟩ (.string u)) := by
  refine ⟨⟨(Below.heap_setCell _ _ _ _ (show b8 ≠ b9 from h.2.2)).trans (heap_setCell_same _ b8 0 _ _ _ h.1), heap_setCell_same _ b9 0 _ _ _ ((Below.heap_setCell _ _ _ _ (show b9 ≠ b8 from h.2.2.symm)).trans h.2.1), h.2.2⟩, ?_⟩
  exact ((Below.refl B w).setCell (p := ⟨b8, 0, none⟩) h8 _).setCell (p := ⟨b9, 0, none⟩) h9 _
set_option maxRecDepth 100000 in
set_option maxHeartbeats 16000000 in
theorem walk (w : World) (a0 : Int) (_ : (Lit.int .i64 a0).wf = true) (a1 : Int) (_ : (Lit.int .i64 a1).wf = true) (t0 : ByteArray) (p : Int) (u0 : ByteArray) (q : Int) (R : Hid (t0.size ≤ maxLen ∧ (Lit.int .i64 p).wf = true)) (S : Hid (u0.size ≤ maxLen ∧ (Lit.int .i64 q).wf = true)) :
    Calls Try.prog 6 #[.int .i64 a0, .int .i64 a1, .agg #[.string t0, .int .i64 p, .string u0, .int .i64 q]] w fun e w' => e = .returned (.bool true) ∧ Below w.heap.size w w' := by
  obtain ⟨b, hbm⟩ : ∃ b, bits .and .i64 a0 7 = b := ⟨_, rfl⟩
  have hb := mask_n 7 (by decide) a0
  rw [show ((7 : Nat) : Int) = 7 from rfl, hbm] at hb
  obtain ⟨k, hk⟩ : ∃ k : Nat, 1 + b = (k : Int) := ⟨(1 + b).toNat, by omega⟩
  have k1 : 1 ≤ k := by omega
  have k8 : k ≤ 8 := by omega
  obtain ⟨c, hcm⟩ : ∃ c, bits .and .i64 a1 3 = c := ⟨_, rfl⟩
  have hc := mask_n 3 (by decide) a1
  rw [show ((3 : Nat) : Int) = 3 from rfl, hcm] at hc
  obtain ⟨n, hn⟩ : ∃ n : Nat, c = (n : Int) := ⟨c.toNat, by omega⟩
  subst hn
  have n3 : n ≤ 3 := by omega
  obtain ⟨t, HT⟩ : ∃ t, t0.extract 0 (min (t0.size : Int) 40).toNat = t := ⟨_, rfl⟩
  obtain ⟨u, HU⟩ : ∃ u, u0.extract 0 (min (u0.size : Int) 40).toNat = u := ⟨_, rfl⟩
  have t40 : t.size ≤ 40 := by rw [← HT, ByteArray.size_extract]; omega
  have u40 : u.size ≤ 40 := by rw [← HU, ByteArray.size_extract]; omega
  have t1 := R.out.1
  have u1 := S.out.1
  unfold maxLen at t1 u1
  have PW := Lib.hid R.out.2
  have QW := Lib.hid S.out.2
  have E0 : Hid (openR [] 0 = (1, 0, 0)) := Lib.hid (by decide)
  have E1 : Hid (openR [0] 0 = (2, 0, 0)) := Lib.hid (by decide)
  clear R S hb hc
  go_enter Try.func6, Try.ntmps6
  go_upto_region 4 with (go_at_call 9; refine (m8_new w _ (Lib.hid (one_box' _))).mono ?_; rintro e w1 ⟨g, rfl, hM1, hb1⟩; have M1 := Lib.hid hM1; clear hM1)
  have B1 : Hid (Below w.heap.size w w1) := Lib.hid ((one_box' _).trans (hb1.mono (one_box' _).size))
  have hx := (hb1.block w.heap.size (by simp)).trans (heap_alloc_new w _)
  have b0 : w1.cell? ⟨w.heap.size, 0, none⟩ = some (.string t0) := (cell_of_row _ _ 0 _ _ _ hx).trans rfl
  have b1 : w1.cell? ⟨w.heap.size, 1, none⟩ = some (.int .i64 p) := (cell_of_row _ _ 1 _ _ _ hx).trans rfl
  have b2 : w1.cell? ⟨w.heap.size, 2, none⟩ = some (.string u0) := (cell_of_row _ _ 2 _ _ _ hx).trans rfl
  have b3 : w1.cell? ⟨w.heap.size, 3, none⟩ = some (.int .i64 q) := (cell_of_row _ _ 3 _ _ _ hx).trans rfl
  have hz : w.heap.size < w1.heap.size := (Array.getElem?_eq_some_iff.1 hx).1
  clear hx hb1
  go_cut [8, 9] (fun v8 v9 wc => ∃ b8 b9, v8 = .pointer (some ⟨b8, 0, none⟩) ∧ v9 = .pointer (some ⟨b9, 0, none⟩) ∧ Hid (TwoP b8 b9 t0 p u0 q wc ∧ w1.heap.size ≤ b8 ∧ w1.heap.size ≤ b9) ∧ Hid (Below w1.heap.size w1 wc))
  case first =>
    go_region_with fail
    all_goals
      go_wp2_with fail
      go_meet
      first
        | exact ⟨_, _, rfl, rfl, Lib.hid ⟨⟨two_a _ _ _ _ _, two_b _ _ _ _ _, by omega⟩, by omega, by omega⟩, Lib.hid (two_c _ _ _ _ _)⟩
        | exact ⟨_, _, rfl, rfl, Lib.hid ⟨⟨two_b _ _ _ _ _, two_a _ _ _ _ _, by omega⟩, by omega, by omega⟩, Lib.hid (two_c _ _ _ _ _)⟩
  case rest =>
    obtain ⟨b8, b9, rfl, rfl, H2, HB⟩ := hcut
    obtain ⟨x0, x1, x2, x3⟩ := H2.out.1.cells
    have y0 : wc.frozen? ⟨b8, 0, none⟩ = false := frozen_of_row _ _ _ _ _ H2.out.1.1
    have y2 : wc.frozen? ⟨b9, 0, none⟩ = false := frozen_of_row _ _ _ _ _ H2.out.1.2.1
    have ne := H2.out.1.2.2
    have ne' := ne.symm
    clear b0 b1 b2 b3 hz
    go_upto_region 7 with fail
    obtain ⟨W2, hW2⟩ : ∃ W2, (wc.setCell ⟨b8, 0, none⟩ (.string t)).setCell ⟨b9, 0, none⟩ (.string u) = W2 := ⟨_, rfl⟩
    obtain ⟨H3, hb3⟩ := H2.out.1.cut (t := t) (u := u) H2.out.2.1 H2.out.2.2
    rw [hW2] at H3 hb3 ⊢
    have M2 := Lib.hid (M1.out.below (HB.out.trans hb3))
    have T2 := Lib.hid H3
    clear x0 x1 x2 x3 y0 y2 ne ne' hW2 H3 hb3 H2 HB M1 HT HU t1 u1
    go_upto_region 10 with (first
      | (go_at_call 11; have _q := M3; refine (m8_open 0 2 0 0 M3 E1).mono ?_; rintro e w4 ⟨rfl, hM4, hF4⟩; have M4 : Hid (MT w w4 g 0 [0, 0] []) := Lib.hid hM4; have T4 := Lib.hid (T3.out.fr hF4); clear hM4 hF4)
      | (go_at_call 11; refine (m8_open 0 1 0 0 M2 E0).mono ?_; rintro e w3 ⟨rfl, hM3, hF3⟩; have M3 : Hid (MT w w3 g 0 [0] []) := Lib.hid hM3; have T3 := Lib.hid (T2.out.fr hF3); clear hM3 hF3))
    obtain ⟨nw, hnw⟩ : ∃ m, n + 1 = m := ⟨_, rfl⟩
    have hn1 : 1 + (n : Int) = (nw : Int) := by omega
    have hn2 : (nw : Int) - 1 = (n : Int) := by omega
    have nw4 : nw ≤ 4 := by omega
    have F1 := Lib.hid (f_done1 t p k k1).1
    have F2 := Lib.hid (f_done2 t p k).1
    have P4 : TwoF b8 b9 t p u q w4 w4 := TwoF.of T4.out (Fr.refl _)
    obtain ⟨q0, q1, q2, q3⟩ := P4.1
    clear M2 M3 T2 T3 T4 E0 E1
    go_region_held3 (fun w' => (w'.cell? ⟨b8, 0, none⟩ = some (.string t) ∧ w'.cell? ⟨b8, 1, none⟩ = some (.int .i64 p) ∧ w'.cell? ⟨b9, 0, none⟩ = some (.string u) ∧ w'.cell? ⟨b9, 1, none⟩ = some (.int .i64 q)) ∧ (TwoP b8 b9 t p u q w' ∧ Fr w4 w'))
      (first | assumption | exact TwoF.here (by assumption) | exact TwoF.next (TwoF.here (by assumption)) (drewB _) | exact TwoF.next (by assumption) (drewB _) | exact TwoF.next (by assumption) (by assumption) | exact TwoF.fr (by assumption) (by assumption))
      (first
        | (go_at_call 15; have _q := M7; refine (m8_done t p 2 0 0 6 0 R7 1 c7 M7 (by omega) PW (by decide) F2).mono ?_; rintro e w8 ⟨rfl, hM8, hF8⟩)
        | (go_at_call 23; have _q := M6; refine (of_is 2 0 0 1 _ (by decide)).mono ?_; rintro e w7 ⟨R7, c7, rfl, hb7⟩; have M7 := Lib.hid (M6.out.below hb7))
        | (go_at_call 15; have _q := M5; refine (m8_done t p 1 0 0 5 0 R5 k c5 M5 (by omega) PW (by decide) F1).mono ?_; rintro e w6 ⟨rfl, hM6, hF6⟩; have M6 : Hid (MT w w6 g 1 [0, 0] [mkA t p k]) := Lib.hid ((f_done1 t p k k1).2 ▸ hM6); clear hM6)
        | (go_at_call 23; refine (of_is 1 0 0 k _ (by omega)).mono ?_; rintro e w5 ⟨R5, c5, rfl, hb5⟩; have M5 := Lib.hid ((M4.out.below (drewB _)).below hb5)))
    trace "TEN"
    rename_i P8
    have M8 : Hid (MT w w8 g 2 [((0 : Nat) : Int), 0] (msJ t p k 0)) := Lib.hid (by have h := hM8; rw [(f_done2 t p k).2] at h; exact h)
    have T8 := Lib.hid P8.2.1
    clear q0 q1 q2 q3 P4 P8 hM8 hF8 hF6 hb7 hb5 M4 M5 M6 M7 F1 F2
    go_wp2_with fail
    go_loopw [19] (fun i wr => ∃ (j : Nat), j ≤ nw ∧ i = .int .i64 j ∧ Hid (MT w wr g 2 [(j : Int), 0] (msJ t p k j)) ∧ Hid (TwoP b8 b9 t p u q wr)) (fun i _ => nw - (intOf i).toNat)
    case atStart => exact ⟨0, by omega, rfl, M8, T8⟩
    case round =>
      obtain ⟨j, hj, rfl, HM, HP⟩ := hrel
      by_cases hlt : j < nw
      · have j1 : (j : Int) ≤ (n : Int) := by omega
        have HO := Lib.hid (f_open t p k j (by omega)).1
        go_wp2_with (go_at_call 11; refine (m8_open 1 1 ((j : Int) + 1) 0 HM HO).mono ?_; rintro e w9 ⟨rfl, hM9, hF9⟩)
        go_roundw
        case rel => exact ⟨j + 1, by omega, by go_num, Lib.hid (by rw [(f_open t p k j (by omega)).2.1, (f_open t p k j (by omega)).2.2] at hM9; exact hM9), Lib.hid (HP.out.fr hF9)⟩
        case measure => simp [intOf]; omega
      · obtain rfl : j = nw := by omega
        have j1 : ¬ (j : Int) ≤ (n : Int) := by omega
        have M9 : Hid (MT w wr g 2 [(j : Int), 0] [mkB t p]) := Lib.hid (by have := HM.out; rw [show msJ t p k j = [mkB t p] from if_neg (by omega)] at this; exact this)
        have P9 : TwoF b8 b9 t p u q wr wr := TwoF.of HP.out (Fr.refl _)
        have F3 : Hid (askP [(j : Int), 0] [mkB t p] t p 1 (n : Int) k 1 = (0, false, 81)) := Lib.hid (by rw [← hnw]; exact f_ask3 t p k n)
        have F4 : Hid (askP [(j : Int), 0] [mkB t p] u q 1 (j : Int) 0 1 = (0, false, 0)) := Lib.hid (by rw [← hnw]; exact f_ask4 t u p q n)
        have F5 : Hid (askP [(j : Int), 0] [mkB t p] t p 1 (j : Int) k 1 = (0, false, 82)) := Lib.hid (by rw [← hnw]; exact f_ask5 t p k n k1)
        have F6 : Hid (askP [(j : Int), 0] [mkB t p] t p 2 0 0 1 = (6, true, 0)) := Lib.hid (by rw [← hnw]; exact f_ask6 t p n)
        have e3 : wrap64 ((j : Int) - 1) = (n : Int) := by simp only [wrap64]; omega
        have e5 : IntKind.i64.wrap (n : Int) = (n : Int) := by rw [IntKind.wrap_i64]; omega
        have e4 : IntKind.i64.wrap ((j : Int) - 1) = (n : Int) := by rw [IntKind.wrap_i64]; omega
        clear hnw hlt HM HP
        go_upto_region 16 with fail
        obtain ⟨q0, q1, q2, q3⟩ := P9.1
        go_region_held3 (fun w' => (w'.cell? ⟨b8, 0, none⟩ = some (.string t) ∧ w'.cell? ⟨b8, 1, none⟩ = some (.int .i64 p) ∧ w'.cell? ⟨b9, 0, none⟩ = some (.string u) ∧ w'.cell? ⟨b9, 1, none⟩ = some (.int .i64 q)) ∧ (TwoP b8 b9 t p u q w' ∧ Fr wr w'))
          (first | assumption | exact TwoF.here (by assumption) | exact TwoF.next (TwoF.here (by assumption)) (drewB _) | exact TwoF.next (by assumption) (drewB _) | exact TwoF.next (by assumption) (by assumption) | exact TwoF.fr (by assumption) (by assumption))
          (first
            | (go_at_call 23; refine (of_is 1 (n : Int) k 1 _ (by decide)).mono ?_; rintro e w16a ⟨R16a, c16a, rfl, hb16a⟩; have M16a := Lib.hid ((M9.out.below (drewB _)).below hb16a))
            | (go_at_call 13; refine (m8_ask t p 1 (n : Int) k 0 81 false R16a 1 c16a M16a (by unfold maxLen; omega) PW F3).mono ?_; rintro e w16b ⟨rfl, hb16b⟩))
        rename_i P16b
        clear q0 q1 q2 q3 P9
        replace P16b := TwoF.here P16b
        obtain ⟨q0, q1, q2, q3⟩ := P16b.1
        have M16b := Lib.hid (M16a.out.below hb16b)
        clear hb16a hb16b M16a M9
        go_upto_region 17 with fail
        go_region_held3 (fun w' => (w'.cell? ⟨b8, 0, none⟩ = some (.string t) ∧ w'.cell? ⟨b8, 1, none⟩ = some (.int .i64 p) ∧ w'.cell? ⟨b9, 0, none⟩ = some (.string u) ∧ w'.cell? ⟨b9, 1, none⟩ = some (.int .i64 q)) ∧ (TwoP b8 b9 t p u q w' ∧ Fr w16b w'))
          (first | assumption | exact TwoF.here (by assumption) | exact TwoF.next (TwoF.here (by assumption)) (drewB _) | exact TwoF.next (by assumption) (drewB _) | exact TwoF.next (by assumption) (by assumption) | exact TwoF.fr (by assumption) (by assumption))
          (first
            | (go_at_call 23; refine (of_is 1 (j : Int) 0 1 _ (by decide)).mono ?_; rintro e w17a ⟨R17a, c17a, rfl, hb17a⟩; have M17a := Lib.hid ((M16b.out.below (drewB _)).below hb17a))
            | (go_at_call 13; refine (m8_ask u q 1 (j : Int) 0 0 0 false R17a 1 c17a M17a (by unfold maxLen; omega) QW F4).mono ?_; rintro e w17b ⟨rfl, hb17b⟩))
        rename_i P17b
        clear q0 q1 q2 q3 P16b
        replace P17b := TwoF.here P17b
        obtain ⟨q0, q1, q2, q3⟩ := P17b.1
        have M17b := Lib.hid (M17a.out.below hb17b)
        clear hb17a hb17b M17a M16b
        go_upto_region 18 with fail
        go_region_held3 (fun w' => (w'.cell? ⟨b8, 0, none⟩ = some (.string t) ∧ w'.cell? ⟨b8, 1, none⟩ = some (.int .i64 p) ∧ w'.cell? ⟨b9, 0, none⟩ = some (.string u) ∧ w'.cell? ⟨b9, 1, none⟩ = some (.int .i64 q)) ∧ (TwoP b8 b9 t p u q w' ∧ Fr w17b w'))
          (first | assumption | exact TwoF.here (by assumption) | exact TwoF.next (TwoF.here (by assumption)) (drewB _) | exact TwoF.next (by assumption) (drewB _) | exact TwoF.next (by assumption) (by assumption) | exact TwoF.fr (by assumption) (by assumption))
          (first
            | (go_at_call 23; refine (of_is 1 (j : Int) k 1 _ (by decide)).mono ?_; rintro e w18a ⟨R18a, c18a, rfl, hb18a⟩; have M18a := Lib.hid ((M17b.out.below (drewB _)).below hb18a))
            | (go_at_call 13; refine (m8_ask t p 1 (j : Int) k 0 82 false R18a 1 c18a M18a (by unfold maxLen; omega) PW F5).mono ?_; rintro e w18b ⟨rfl, hb18b⟩))
        rename_i P18b
        clear q0 q1 q2 q3 P17b
        replace P18b := TwoF.here P18b
        obtain ⟨q0, q1, q2, q3⟩ := P18b.1
        have M18b := Lib.hid (M18a.out.below hb18b)
        clear hb18a hb18b M18a M17b
        go_upto_region 19 with fail
        go_region_held3 (fun w' => (w'.cell? ⟨b8, 0, none⟩ = some (.string t) ∧ w'.cell? ⟨b8, 1, none⟩ = some (.int .i64 p) ∧ w'.cell? ⟨b9, 0, none⟩ = some (.string u) ∧ w'.cell? ⟨b9, 1, none⟩ = some (.int .i64 q)) ∧ (TwoP b8 b9 t p u q w' ∧ Fr w18b w'))
          (first | assumption | exact TwoF.here (by assumption) | exact TwoF.next (TwoF.here (by assumption)) (drewB _) | exact TwoF.next (by assumption) (drewB _) | exact TwoF.next (by assumption) (by assumption) | exact TwoF.fr (by assumption) (by assumption))
          (first
            | (go_at_call 23; refine (of_is 2 0 0 1 _ (by decide)).mono ?_; rintro e w19a ⟨R19a, c19a, rfl, hb19a⟩; have M19a := Lib.hid ((M18b.out.below (drewB _)).below hb19a))
            | (go_at_call 13; refine (m8_ask t p 2 0 0 6 0 true R19a 1 c19a M19a (by unfold maxLen; omega) PW F6).mono ?_; rintro e w19b ⟨rfl, hb19b⟩))
        rename_i P19b
        clear q0 q1 q2 q3 P18b
        replace P19b := TwoF.here P19b
        obtain ⟨q0, q1, q2, q3⟩ := P19b.1
        have M19b := Lib.hid (M19a.out.below hb19b)
        clear hb19a hb19b M19a M18b
        go_wp2_with (go_at_call 20; refine (fixed8_any _).mono ?_; rintro e w20 ⟨rfl, hb20⟩)
        go_ret
        exact ⟨rfl, (M19b.out.below hb20).2.1⟩

set_option maxRecDepth 100000 in
set_option maxHeartbeats 1000000 in
theorem lifted (os : Os) (started : os.Started) (H : Type) (enc : TypeId × Value → H) :
    ReturnsInHanded {} Try.checked os 6 .any (Rows.dedupFencesSpec.pre6 enc Try.prog Try.f6 Rows.dedupFencesRow.domain false) (Rows.dedupFencesSpec.post enc Try.prog Try.f6 false true false false) := by
  refine returnsInHanded_of_change (C := Try.checked) own started (by kernel_rfl) Try.func6
    (ChangeSpec.witness6 (enc := enc) (C := Try.checked) false ⟨#[], #[.int .i64 0, .int .i64 0, .agg #[.string ByteArray.empty, .int .i64 0, .string ByteArray.empty, .int .i64 0]], []⟩ 8 (by kernel_rfl) (by kernel_rfl) (by kernel_rfl) (by kernel_rfl)) ?_
  intro W base args ds gs before hval0 hW _ _
  have hval : ∀ (j : Nat) t v, Try.f6.params[j]? = some t → args[j]? = some v → Value.okWide Try.prog W .any base t v := hval0
  have hW' := hW
  obtain ⟨p, q, hA0, hV, rfl, hfz, hnd⟩ := hW
  have hA : DataW.TrodAll enc Try.prog W 0 (fun _ => true) true Try.f6.params.toList args.toList ds p := hA0
  rw [Try.params6] at hA hval
  obtain ⟨v0, vs0, d0, ds0, p0, q0, hargs, rfl, rfl, h0, r0⟩ := trodAll_cons hA
  obtain ⟨v1, vs1, d1, ds1, p1, q1, rfl, rfl, rfl, h1, r1⟩ := trodAll_cons r0
  obtain ⟨v2, vs2, d2, ds2, p2, q2, rfl, rfl, rfl, h2, r2⟩ := trodAll_cons r1
  obtain ⟨rfl, rfl, rfl⟩ := trodAll_nil r2
  obtain rfl : args = #[v0, v1, v2] := by cases args; simp_all
  obtain ⟨rfl, rfl⟩ := trodVars_none hV
  have k0 := h0
  have lt0 : ∀ x ∈ p0, x.block < W.heap.size := by obtain ⟨m, hm⟩ := k0; exact DataW.trod_lt m _ _ _ hm
  have k1 := h1
  have lt1 : ∀ x ∈ p1, x.block < W.heap.size := by obtain ⟨m, hm⟩ := k1; exact DataW.trod_lt m _ _ _ hm
  have k2 := h2
  have lt2 : ∀ x ∈ p2, x.block < W.heap.size := by obtain ⟨m, hm⟩ := k2; exact DataW.trod_lt m _ _ _ hm
  obtain ⟨a0, e0, _, _, w0⟩ := open_int Try.underlying3 (hval 0 3 v0 rfl rfl) h0
  subst e0
  obtain ⟨a1, e1, _, _, w1⟩ := open_int Try.underlying3 (hval 1 3 v1 rfl rfl) h1
  subst e1
  obtain ⟨t2, p2, u2, q2, e2, R2, S2⟩ := L8.open_parts (hval 2 60 v2 rfl rfl) h2
  subst e2
  clear hA0 hval0
  refine (walk W a0 w0 a1 w1 t2 p2 u2 q2 R2 S2).mono fun e W' ⟨he, bel⟩ => ?_
  subst he
  exact ⟨_, rfl, _, _, _, [], _, [], hW', trodAll_mk1 (shut_bool Try.underlying4 _), (trodAll_cons_mk (Below.trod laidOut (by kernel_rfl) (of_decide_eq_true (by kernel_rfl)) k0 bel lt0) (trodAll_cons_mk (Below.trod laidOut (by kernel_rfl) (of_decide_eq_true (by kernel_rfl)) k1 bel lt1) (trodAll_cons_mk (Below.trod laidOut (by kernel_rfl) (of_decide_eq_true (by kernel_rfl)) k2 bel lt2) trodAll_mk0))), rfl, bel.frame _, fun h => by cases h⟩

theorem over : Rows.dedupFencesRow.holds Try.pinned (OpenSpec.ofChange Rows.dedupFencesSpec) :=
  OpenClaim.holds_of_wide 6 Try.f6 rfl rfl rfl rfl rfl rfl rfl ⟨rfl, rfl, rfl, rfl, rfl⟩ rfl rfl rfl rfl rfl (by kernel_rfl) Try.func6 (by kernel_rfl)
    (of_decide_eq_true (by kernel_rfl)) (by unfold Func.isWrapper; first | (rw [if_pos (by decide +kernel)]; kernel_rfl) | (rw [if_neg (by decide +kernel)]; exact ⟨rfl, rfl⟩))
    (fun os started H enc _ => lifted os started H enc)

/-- the statement -/
theorem proved : Rows.DedupFencesSaid :=
  over
#print axioms proved
end Go.Proofs.Ytajdcppajbnhiaa.dedupFences
