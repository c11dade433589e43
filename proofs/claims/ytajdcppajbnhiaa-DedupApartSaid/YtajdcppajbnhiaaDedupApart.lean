/-
  Proved: what a producer sent to one partition makes no difference to what it, or another one, may send to another one (of at most 20 batches). No condition.
-/
import Derived.Test.YtajdcppajbnhiaaRows
import Derived.WalkKit
import Derived.ProofKit
import Derived.OpenShut
import Derived.ShutString
import Derived.ChangeOld
import Derived.Below
import Derived.Test.YtajdcppajbnhiaaDdTwo
import Derived.Test.YtajdcppajbnhiaaDdOneP
import Derived.Test.YtajdcppajbnhiaaDdEq
import Derived.Test.YtajdcppajbnhiaaDdArgs
import Derived.Deep.RegionWith
import Derived.Deep.RegionHeld3
import Derived.Deep.RegionLaw
import Derived.Deep.DeepCutAuto
import Derived.LoopTactic
namespace Go.Proofs.Ytajdcppajbnhiaa.dedupApart
open Go.ChangeShapes Go.WideShapes Go.ChangeAt Go.RowKit Go.Deep
open Go.ChangeMaps (open_string shut_string)
open L3 L4 L8

theorem own : ownKnob Try.prog.godebug = none := by kernel_rfl
theorem laidOut : laidOutB Try.prog = true := by kernel_rfl


theorem mask_n (m : Nat) (hm : m < 9223372036854775808) (x : Int) : 0 ≤ bits .and .i64 x (m : Int) ∧ bits .and .i64 x (m : Int) ≤ m := by
  have e : (BitVec.ofInt 64 x &&& BitVec.ofInt 64 (m : Int)).toNat ≤ m := by
    rw [BitVec.toNat_and]
    refine Nat.le_trans Nat.and_le_right ?_
    rw [BitVec.ofInt_natCast, BitVec.toNat_ofNat, Nat.mod_eq_of_lt (by omega)]
    exact Nat.le_refl _
  show 0 ≤ IntKind.i64.wrap ((BitVec.ofInt 64 x &&& BitVec.ofInt 64 (m : Int)).toNat : Int) ∧ IntKind.i64.wrap ((BitVec.ofInt 64 x &&& BitVec.ofInt 64 (m : Int)).toNat : Int) ≤ m
  rw [IntWalk.i64_in _ (by omega)]
  omega
/-- two boxes of partitions of the law's own -/
def TwoP (b8 b9 : Nat) (t : ByteArray) (p : Int) (u : ByteArray) (q : Int) (w : World) : Prop :=
  w.heap[b8]? = some (.cells #[.string t, .int .i64 p] 31 (0, 0)) ∧ w.heap[b9]? = some (.cells #[.string u, .int .i64 q] 31 (0, 0)) ∧ b8 ≠ b9
theorem TwoP.fr {b8 b9 : Nat} {t u : ByteArray} {p q : Int} {w w' : World} (h : TwoP b8 b9 t p u q w) (f : Fr w w') : TwoP b8 b9 t p u q w' := ⟨f.box h.1 (by decide) (by decide), f.box h.2.1 (by decide) (by decide), h.2.2⟩
def Cells4 (b8 b9 : Nat) (t : ByteArray) (p : Int) (u : ByteArray) (q : Int) (w : World) : Prop :=
  w.cell? ⟨b8, 0, none⟩ = some (.string t) ∧ w.cell? ⟨b8, 1, none⟩ = some (.int .i64 p) ∧ w.cell? ⟨b9, 0, none⟩ = some (.string u) ∧ w.cell? ⟨b9, 1, none⟩ = some (.int .i64 q)
theorem TwoP.cells {b8 b9 : Nat} {t u : ByteArray} {p q : Int} {w : World} (h : TwoP b8 b9 t p u q w) : Cells4 b8 b9 t p u q w :=
  ⟨(cell_of_row _ _ 0 _ _ _ h.1).trans rfl, (cell_of_row _ _ 1 _ _ _ h.1).trans rfl, (cell_of_row _ _ 0 _ _ _ h.2.1).trans rfl, (cell_of_row _ _ 1 _ _ _ h.2.1).trans rfl⟩
/-- .. and what may change beside them -/
def TwoF (b8 b9 : Nat) (t : ByteArray) (p : Int) (u : ByteArray) (q : Int) (W w : World) : Prop :=
  (w.cell? ⟨b8, 0, none⟩ = some (.string t) ∧ w.cell? ⟨b8, 1, none⟩ = some (.int .i64 p) ∧ w.cell? ⟨b9, 0, none⟩ = some (.string u) ∧ w.cell? ⟨b9, 1, none⟩ = some (.int .i64 q)) ∧ (TwoP b8 b9 t p u q w ∧ Fr W w)
theorem TwoF.of {b8 b9 : Nat} {t u : ByteArray} {p q : Int} {W w : World} (h : TwoP b8 b9 t p u q w) (f : Fr W w) : TwoF b8 b9 t p u q W w := ⟨h.cells, h, f⟩
theorem TwoF.fr {b8 b9 : Nat} {t u : ByteArray} {p q : Int} {W w w' : World} (h : TwoF b8 b9 t p u q W w) (f : Fr w w') : TwoF b8 b9 t p u q W w' := .of (h.2.1.fr f) (h.2.2.trans f)
theorem TwoF.next {b8 b9 : Nat} {t u : ByteArray} {p q : Int} {W w w' : World} (h : TwoF b8 b9 t p u q W w) (b : Below w.heap.size w w') : TwoF b8 b9 t p u q W w' := h.fr (Fr.below b)
theorem TwoF.here {b8 b9 : Nat} {t u : ByteArray} {p q : Int} {W w : World} (h : TwoF b8 b9 t p u q W w) : TwoF b8 b9 t p u q w w := .of h.2.1 (Fr.refl w)
/-- two texts cut -/
theorem TwoP.cut {b8 b9 : Nat} {t0 u0 t u : ByteArray} {p q : Int} {B : Nat} {w : World} (h : TwoP b8 b9 t0 p u0 q w) (h8 : B ≤ b8) (h9 : B ≤ b9) :
    TwoP b8 b9 t p u q ((w.setCell ⟨b8, 0, none⟩ (.string t)).setCell ⟨b9, 0, none⟩ (.string u)) ∧ Below B w ((w.setCell ⟨b8, 0, none⟩ (.string t)).setCell ⟨b9, 0, none⟩ (.string u)) := by
  refine ⟨⟨(Below.heap_setCell _ _ _ _ (show b8 ≠ b9 from h.2.2)).trans (heap_setCell_same _ b8 0 _ _ _ h.1), heap_setCell_same _ b9 0 _ _ _ ((Below.heap_setCell _ _ _ _ (show b9 ≠ b8 from h.2.2.symm)).trans h.2.1), h.2.2⟩, ?_⟩
  exact ((Below.refl B w).setCell (p := ⟨b8, 0, none⟩) h8 _).setCell (p := ⟨b9, 0, none⟩) h9 _
set_option maxRecDepth 100000 in
set_option maxHeartbeats 16000000 in
theorem walk (w : World) (A0 : Option Addr) (l0 : List Int) (c0 : Nat) (R0 : IsNums w A0 l0 ∧ l0.length ≤ c0) (t0 : ByteArray) (p : Int) (u0 : ByteArray) (q : Int) (R : Hid (t0.size ≤ maxLen ∧ (Lit.int .i64 p).wf = true)) (S : Hid (u0.size ≤ maxLen ∧ (Lit.int .i64 q).wf = true)) :
    Calls Try.prog 7 #[.slice A0 l0.length c0, .agg #[.string t0, .int .i64 p, .string u0, .int .i64 q]] w fun e w' => e = .returned (.bool true) ∧ Below w.heap.size w w' := by
  obtain ⟨m, hm⟩ : ∃ m, l0.length = m := ⟨_, rfl⟩
  obtain ⟨⟨HNUM, _, hnm⟩, hnc⟩ := R0
  rw [hm] at hnm hnc ⊢
  unfold maxLen at hnm
  have HL0 := Lib.hid hm
  obtain ⟨t, HT⟩ : ∃ t, t0.extract 0 (min (t0.size : Int) 40).toNat = t := ⟨_, rfl⟩
  obtain ⟨u, HU⟩ : ∃ u, u0.extract 0 (min (u0.size : Int) 40).toNat = u := ⟨_, rfl⟩
  have t40 : t.size ≤ 40 := by rw [← HT, ByteArray.size_extract]; omega
  have u40 : u.size ≤ 40 := by rw [← HU, ByteArray.size_extract]; omega
  have t1 := R.out.1
  have u1 := S.out.1
  unfold maxLen at t1 u1
  have PW := Lib.hid R.out.2
  have QW := Lib.hid S.out.2
  have E0 : Hid (openR [] 0 = (1, 0, 0)) := Lib.hid (by decide)
  have E1 : Hid (openR [0] 0 = (2, 0, 0)) := Lib.hid (by decide)
  clear R S hm
  go_enter Try.func7, Try.ntmps7
  go_upto_region 4 with (go_at_call 9; refine (m8_new w _ (Lib.hid (one_box' _))).mono ?_; rintro e w1 ⟨g, rfl, hM1, hb1⟩; have M1 := Lib.hid hM1; clear hM1)
  have hx := (hb1.block w.heap.size (by simp)).trans (heap_alloc_new w _)
  have b0 : w1.cell? ⟨w.heap.size, 0, none⟩ = some (.string t0) := (cell_of_row _ _ 0 _ _ _ hx).trans rfl
  have b1 : w1.cell? ⟨w.heap.size, 1, none⟩ = some (.int .i64 p) := (cell_of_row _ _ 1 _ _ _ hx).trans rfl
  have b2 : w1.cell? ⟨w.heap.size, 2, none⟩ = some (.string u0) := (cell_of_row _ _ 2 _ _ _ hx).trans rfl
  have b3 : w1.cell? ⟨w.heap.size, 3, none⟩ = some (.int .i64 q) := (cell_of_row _ _ 3 _ _ _ hx).trans rfl
  have hz : w.heap.size < w1.heap.size := (Array.getElem?_eq_some_iff.1 hx).1
  clear hx hb1
  go_cut [6, 7] (fun v6 v7 wc => ∃ b6 b7, v6 = .pointer (some ⟨b6, 0, none⟩) ∧ v7 = .pointer (some ⟨b7, 0, none⟩) ∧ Hid (TwoP b6 b7 t0 p u0 q wc ∧ w1.heap.size ≤ b6 ∧ w1.heap.size ≤ b7) ∧ Hid (Below w1.heap.size w1 wc))
  case first =>
    go_region_with fail
    all_goals
      go_wp2_with fail
      go_meet
      first
        | exact ⟨_, _, rfl, rfl, Lib.hid ⟨⟨two_a _ _ _ _ _, two_b _ _ _ _ _, by omega⟩, by omega, by omega⟩, Lib.hid (two_c _ _ _ _ _)⟩
        | exact ⟨_, _, rfl, rfl, Lib.hid ⟨⟨two_b _ _ _ _ _, two_a _ _ _ _ _, by omega⟩, by omega, by omega⟩, Lib.hid (two_c _ _ _ _ _)⟩
  case rest =>
    obtain ⟨b6, b7, rfl, rfl, H2, HB⟩ := hcut
    obtain ⟨x0, x1, x2, x3⟩ := H2.out.1.cells
    have y0 : wc.frozen? ⟨b6, 0, none⟩ = false := frozen_of_row _ _ _ _ _ H2.out.1.1
    have y2 : wc.frozen? ⟨b7, 0, none⟩ = false := frozen_of_row _ _ _ _ _ H2.out.1.2.1
    have ne := H2.out.1.2.2
    have ne' := ne.symm
    clear b0 b1 b2 b3 hz
    go_upto_region 7 with fail
    obtain ⟨W2, hW2⟩ : ∃ W2, (wc.setCell ⟨b6, 0, none⟩ (.string t)).setCell ⟨b7, 0, none⟩ (.string u) = W2 := ⟨_, rfl⟩
    obtain ⟨H3, hb3⟩ := H2.out.1.cut (t := t) (u := u) H2.out.2.1 H2.out.2.2
    rw [hW2] at H3 hb3 ⊢
    have M2 := Lib.hid (M1.out.below (HB.out.trans hb3))
    have T2 := Lib.hid H3
    clear x0 x1 x2 x3 y0 y2 ne ne' hW2 H3 hb3 H2 HB M1 HT HU t1 u1
    go_wp2_with (first
      | (go_at_call 11; have _q := M3; refine (m8_open 0 2 0 0 M3 E1).mono ?_; rintro e w4 ⟨rfl, hM4, hF4⟩; have M4 : Hid (MT w w4 g 0 [0, 0] []) := Lib.hid hM4; have T4 := Lib.hid (T3.out.fr hF4); clear hM4 hF4)
      | (go_at_call 11; refine (m8_open 0 1 0 0 M2 E0).mono ?_; rintro e w3 ⟨rfl, hM3, hF3⟩; have M3 : Hid (MT w w3 g 0 [0] []) := Lib.hid hM3; have T3 := Lib.hid (T2.out.fr hF3); clear hM3 hF3))
    go_loopw [14, 15] (fun z i wr => ∃ (j zz : Nat) (ms : List Mk), j ≤ 20 ∧ zz ≤ 8 * j ∧ z = .int .i64 zz ∧ i = .int .i64 j ∧ Hid (MT w wr g j [0, 0] ms) ∧ Hid (ApT t p zz ms) ∧ Hid (TwoP b6 b7 t p u q wr)) (fun _ i _ => 20 - (intOf i).toNat)
    case atStart => exact ⟨0, 0, [], by omega, by omega, rfl, rfl, M4, Lib.hid (.inl ⟨rfl, rfl⟩), T4⟩
    case round =>
      obtain ⟨j, zz, ms, hj, hzz, rfl, rfl, HM, HA, HP⟩ := hrel
      have P9 : TwoF b6 b7 t p u q wr wr := TwoF.of HP.out (Fr.refl _)
      by_cases hlt : j < m ∧ j < 20
      · obtain ⟨h1, h2⟩ := hlt
        obtain ⟨og, oo, x, rfl, hog, _, hc⟩ := HNUM.out.at (i := j) (by rw [HL0.out]; exact h1)
        have d0 := (HM.out.2.1.cell (p := ⟨og, oo + j, none⟩) hog).trans hc
        obtain ⟨b, hbm⟩ : ∃ b, bits .and .i64 x 7 = b := ⟨_, rfl⟩
        have hb := mask_n 7 (by decide) x
        rw [show ((7 : Nat) : Int) = 7 from rfl, hbm] at hb
        obtain ⟨k, hk⟩ : ∃ k : Nat, 1 + b = (k : Int) := ⟨(1 + b).toNat, by omega⟩
        have k1 : 1 ≤ k := by omega
        have k8 : k ≤ 8 := by omega
        have j0 : (0 : Int) ≤ (j : Int) := by omega
        have j1 : (j : Int) < (m : Int) := by omega
        have j2 : (j : Int) < 20 := by omega
        have F1 := Lib.hid (ap_done (k := k) (off := (j : Int)) HA.out k1 (by omega) (by omega))
        clear hc
        go_upto_region 14 with fail
        obtain ⟨q0, q1, q2, q3⟩ := P9.1
        go_region_held3 (fun w' => (w'.cell? ⟨b6, 0, none⟩ = some (.string t) ∧ w'.cell? ⟨b6, 1, none⟩ = some (.int .i64 p) ∧ w'.cell? ⟨b7, 0, none⟩ = some (.string u) ∧ w'.cell? ⟨b7, 1, none⟩ = some (.int .i64 q)) ∧ (TwoP b6 b7 t p u q w' ∧ Fr wr w'))
          (first | assumption | exact TwoF.here (by assumption) | exact TwoF.next (TwoF.here (by assumption)) (drewB _) | exact TwoF.next (by assumption) (drewB _) | exact TwoF.next (by assumption) (by assumption) | exact TwoF.fr (by assumption) (by assumption))
          (first
            | (go_at_call 23; refine (of_is 1 0 (zz : Int) k _ (by omega)).mono ?_; rintro e w5 ⟨R5, c5, rfl, hb5⟩; have M5 := Lib.hid ((HM.out.below (drewB _)).below hb5))
            | (go_at_call 15; refine (m8_done t p 1 0 (zz : Int) (j : Int) 0 R5 k c5 M5 (by omega) PW (by omega) F1).mono ?_; rintro e w6 ⟨rfl, hM6, hF6⟩))
        rename_i P6
        have T6 := Lib.hid P6.2.1
        have M6 := Lib.hid hM6
        clear q0 q1 q2 q3 P9 P6 hM6 hF6 hb5 M5
        go_wp2_with fail
        go_roundw
        case rel => exact ⟨j + 1, zz + k, _, by omega, by omega, by go_num, by go_num, M6, Lib.hid (by rw [Int.natCast_add]; exact ap_next HA.out k1 k8 (by omega) (by omega) (by omega) (by omega)), T6⟩
        case measure => simp [intOf]; omega
      · obtain ⟨⟨x, v, er⟩, hx⟩ : ∃ r, askP [0, 0] ms u q 1 0 0 1 = r := ⟨_, rfl⟩
        have HF : Hid (¬ (((1 : Int) = 1) ∧ u = t ∧ q = p) ∨ zz = 0 → v = false ∧ er = 0) := Lib.hid (fun h => by
          have e := ap_free (u := u) (q := q) HA.out (.inl rfl) (h.imp id (fun z => by rw [z]; rfl))
          rw [hx] at e; injection e with _ e; injection e with e1 e2; exact ⟨e1, e2⟩)
        have F7 := Lib.hid hx
        have F8 := Lib.hid (ap_free (u := t) (q := p) (id := 2) HA.out (.inr rfl) (.inl (fun h => absurd h.1 (by decide))))
        clear hx HP
        have hd : m ≤ j ∨ (j < m ∧ 20 ≤ j) := by omega
        rcases hd with hd | ⟨hd1, hd2⟩
        · have j1 : ¬ (j : Int) < (m : Int) := by omega
          go_upto_region 17 with fail
          obtain ⟨q0, q1, q2, q3⟩ := P9.1
          go_region_held3 (fun w' => (w'.cell? ⟨b6, 0, none⟩ = some (.string t) ∧ w'.cell? ⟨b6, 1, none⟩ = some (.int .i64 p) ∧ w'.cell? ⟨b7, 0, none⟩ = some (.string u) ∧ w'.cell? ⟨b7, 1, none⟩ = some (.int .i64 q)) ∧ (TwoP b6 b7 t p u q w' ∧ Fr wr w'))
            (first | assumption | exact TwoF.here (by assumption) | exact TwoF.next (TwoF.here (by assumption)) (drewB _) | exact TwoF.next (by assumption) (drewB _) | exact TwoF.next (by assumption) (by assumption) | exact TwoF.fr (by assumption) (by assumption))
            (first
              | (go_at_call 23; refine (of_is 1 0 0 1 _ (by decide)).mono ?_; rintro e w17a ⟨R17a, c17a, rfl, hb17a⟩; have M17a := Lib.hid ((HM.out.below (drewB _)).below hb17a))
              | (go_at_call 13; refine (m8_ask u q 1 0 0 x er v R17a 1 c17a M17a (by unfold maxLen; omega) QW F7).mono ?_; rintro e w17b ⟨rfl, hb17b⟩))
          rename_i P17b
          clear q0 q1 q2 q3 P9
          replace P17b := TwoF.here P17b
          obtain ⟨q0, q1, q2, q3⟩ := P17b.1
          have M17b := Lib.hid (M17a.out.below hb17b)
          clear hb17a hb17b M17a HM
          go_upto_region 18 with fail
          go_region_held3 (fun w' => (w'.cell? ⟨b6, 0, none⟩ = some (.string t) ∧ w'.cell? ⟨b6, 1, none⟩ = some (.int .i64 p) ∧ w'.cell? ⟨b7, 0, none⟩ = some (.string u) ∧ w'.cell? ⟨b7, 1, none⟩ = some (.int .i64 q)) ∧ (TwoP b6 b7 t p u q w' ∧ Fr w17b w'))
            (first | assumption | exact TwoF.here (by assumption) | exact TwoF.next (TwoF.here (by assumption)) (drewB _) | exact TwoF.next (by assumption) (drewB _) | exact TwoF.next (by assumption) (by assumption) | exact TwoF.fr (by assumption) (by assumption))
            (first
              | (go_at_call 23; refine (of_is 2 0 0 1 _ (by decide)).mono ?_; rintro e w18a ⟨R18a, c18a, rfl, hb18a⟩; have M18a := Lib.hid ((M17b.out.below (drewB _)).below hb18a))
              | (go_at_call 13; refine (m8_ask t p 2 0 0 0 0 false R18a 1 c18a M18a (by unfold maxLen; omega) PW F8).mono ?_; rintro e w18b ⟨rfl, hb18b⟩))
          rename_i P18b
          clear q0 q1 q2 q3 P17b
          obtain ⟨q0, q1, q2, q3⟩ := P18b.1
          have M18b := Lib.hid (M18a.out.below hb18b)
          clear hb18a hb18b M18a M17b P18b
          have H9 := HF.out
          clear HF F7 F8 HA
          by_cases he : t = u ∧ p = q
          · obtain ⟨rfl, rfl⟩ := he
            have hq := eq_parts w18b t t p p (by unfold maxLen; omega) PW.out (by unfold maxLen; omega) PW.out
            rw [decide_eq_true (And.intro rfl rfl)] at hq
            by_cases hz : zz = 0
            · obtain ⟨rfl, rfl⟩ := H9 (.inr hz)
              subst hz
              go_wp2_with (go_at_call 20; refine (fixed8_any _).mono ?_; rintro e w20 ⟨rfl, hb20⟩)
              all_goals
                go_ret
                exact ⟨rfl, (M18b.out.below hb20).2.1⟩
            · have z0 : ((zz : Int) == 0) = false := by simpa using hz
              have z1 : ¬ (zz : Int) = 0 := by simpa using hz
              clear H9
              go_wp2_with (go_at_call 20; refine (fixed8_any _).mono ?_; rintro e w20 ⟨rfl, hb20⟩)
              all_goals
                go_ret
                exact ⟨rfl, (M18b.out.below hb20).2.1⟩
          · obtain ⟨rfl, rfl⟩ := H9 (.inl (fun h => he ⟨h.2.1.symm, h.2.2.symm⟩))
            have hq := eq_parts w18b t u p q (by unfold maxLen; omega) PW.out (by unfold maxLen; omega) QW.out
            rw [decide_eq_false he] at hq
            go_wp2_with (go_at_call 20; refine (fixed8_any _).mono ?_; rintro e w20 ⟨rfl, hb20⟩)
            all_goals
              go_ret
              exact ⟨rfl, (M18b.out.below hb20).2.1⟩
        · have j1 : (j : Int) < (m : Int) := by omega
          have j2 : ¬ (j : Int) < 20 := by omega
          go_upto_region 17 with fail
          obtain ⟨q0, q1, q2, q3⟩ := P9.1
          go_region_held3 (fun w' => (w'.cell? ⟨b6, 0, none⟩ = some (.string t) ∧ w'.cell? ⟨b6, 1, none⟩ = some (.int .i64 p) ∧ w'.cell? ⟨b7, 0, none⟩ = some (.string u) ∧ w'.cell? ⟨b7, 1, none⟩ = some (.int .i64 q)) ∧ (TwoP b6 b7 t p u q w' ∧ Fr wr w'))
            (first | assumption | exact TwoF.here (by assumption) | exact TwoF.next (TwoF.here (by assumption)) (drewB _) | exact TwoF.next (by assumption) (drewB _) | exact TwoF.next (by assumption) (by assumption) | exact TwoF.fr (by assumption) (by assumption))
            (first
              | (go_at_call 23; refine (of_is 1 0 0 1 _ (by decide)).mono ?_; rintro e w17a ⟨R17a, c17a, rfl, hb17a⟩; have M17a := Lib.hid ((HM.out.below (drewB _)).below hb17a))
              | (go_at_call 13; refine (m8_ask u q 1 0 0 x er v R17a 1 c17a M17a (by unfold maxLen; omega) QW F7).mono ?_; rintro e w17b ⟨rfl, hb17b⟩))
          rename_i P17b
          clear q0 q1 q2 q3 P9
          replace P17b := TwoF.here P17b
          obtain ⟨q0, q1, q2, q3⟩ := P17b.1
          have M17b := Lib.hid (M17a.out.below hb17b)
          clear hb17a hb17b M17a HM
          go_upto_region 18 with fail
          go_region_held3 (fun w' => (w'.cell? ⟨b6, 0, none⟩ = some (.string t) ∧ w'.cell? ⟨b6, 1, none⟩ = some (.int .i64 p) ∧ w'.cell? ⟨b7, 0, none⟩ = some (.string u) ∧ w'.cell? ⟨b7, 1, none⟩ = some (.int .i64 q)) ∧ (TwoP b6 b7 t p u q w' ∧ Fr w17b w'))
            (first | assumption | exact TwoF.here (by assumption) | exact TwoF.next (TwoF.here (by assumption)) (drewB _) | exact TwoF.next (by assumption) (drewB _) | exact TwoF.next (by assumption) (by assumption) | exact TwoF.fr (by assumption) (by assumption))
            (first
              | (go_at_call 23; refine (of_is 2 0 0 1 _ (by decide)).mono ?_; rintro e w18a ⟨R18a, c18a, rfl, hb18a⟩; have M18a := Lib.hid ((M17b.out.below (drewB _)).below hb18a))
              | (go_at_call 13; refine (m8_ask t p 2 0 0 0 0 false R18a 1 c18a M18a (by unfold maxLen; omega) PW F8).mono ?_; rintro e w18b ⟨rfl, hb18b⟩))
          rename_i P18b
          clear q0 q1 q2 q3 P17b
          obtain ⟨q0, q1, q2, q3⟩ := P18b.1
          have M18b := Lib.hid (M18a.out.below hb18b)
          clear hb18a hb18b M18a M17b P18b
          have H9 := HF.out
          clear HF F7 F8 HA
          by_cases he : t = u ∧ p = q
          · obtain ⟨rfl, rfl⟩ := he
            have hq := eq_parts w18b t t p p (by unfold maxLen; omega) PW.out (by unfold maxLen; omega) PW.out
            rw [decide_eq_true (And.intro rfl rfl)] at hq
            by_cases hz : zz = 0
            · obtain ⟨rfl, rfl⟩ := H9 (.inr hz)
              subst hz
              go_wp2_with (go_at_call 20; refine (fixed8_any _).mono ?_; rintro e w20 ⟨rfl, hb20⟩)
              all_goals
                go_ret
                exact ⟨rfl, (M18b.out.below hb20).2.1⟩
            · have z0 : ((zz : Int) == 0) = false := by simpa using hz
              have z1 : ¬ (zz : Int) = 0 := by simpa using hz
              clear H9
              go_wp2_with (go_at_call 20; refine (fixed8_any _).mono ?_; rintro e w20 ⟨rfl, hb20⟩)
              all_goals
                go_ret
                exact ⟨rfl, (M18b.out.below hb20).2.1⟩
          · obtain ⟨rfl, rfl⟩ := H9 (.inl (fun h => he ⟨h.2.1.symm, h.2.2.symm⟩))
            have hq := eq_parts w18b t u p q (by unfold maxLen; omega) PW.out (by unfold maxLen; omega) QW.out
            rw [decide_eq_false he] at hq
            go_wp2_with (go_at_call 20; refine (fixed8_any _).mono ?_; rintro e w20 ⟨rfl, hb20⟩)
            all_goals
              go_ret
              exact ⟨rfl, (M18b.out.below hb20).2.1⟩

set_option maxRecDepth 100000 in
set_option maxHeartbeats 1000000 in
theorem lifted (os : Os) (started : os.Started) (H : Type) (enc : TypeId × Value → H) :
    ReturnsInHanded {} Try.checked os 7 .any (Rows.dedupApartSpec.pre6 enc Try.prog Try.f7 Rows.dedupApartRow.domain false) (Rows.dedupApartSpec.post enc Try.prog Try.f7 false true false false) := by
  refine returnsInHanded_of_change (C := Try.checked) own started (by kernel_rfl) Try.func7
    (ChangeSpec.witness6 (enc := enc) (C := Try.checked) false ⟨#[], #[.slice none 0 0, .agg #[.string ByteArray.empty, .int .i64 0, .string ByteArray.empty, .int .i64 0]], []⟩ 8 (by kernel_rfl) (by kernel_rfl) (by kernel_rfl) (by kernel_rfl)) ?_
  intro W base args ds gs before hval0 hW _ _
  have hval : ∀ (j : Nat) t v, Try.f7.params[j]? = some t → args[j]? = some v → Value.okWide Try.prog W .any base t v := hval0
  have hW' := hW
  obtain ⟨p, q, hA0, hV, rfl, hfz, hnd⟩ := hW
  have hA : DataW.TrodAll enc Try.prog W 0 (fun _ => true) true Try.f7.params.toList args.toList ds p := hA0
  rw [Try.params7] at hA hval
  obtain ⟨v0, vs0, d0, ds0, p0, q0, hargs, rfl, rfl, h0, r0⟩ := trodAll_cons hA
  obtain ⟨v1, vs1, d1, ds1, p1, q1, rfl, rfl, rfl, h1, r1⟩ := trodAll_cons r0
  obtain ⟨rfl, rfl, rfl⟩ := trodAll_nil r1
  obtain rfl : args = #[v0, v1] := by cases args; simp_all
  obtain ⟨rfl, rfl⟩ := trodVars_none hV
  have k0 := h0
  have lt0 : ∀ x ∈ p0, x.block < W.heap.size := by obtain ⟨m, hm⟩ := k0; exact DataW.trod_lt m _ _ _ hm
  have k1 := h1
  have lt1 : ∀ x ∈ p1, x.block < W.heap.size := by obtain ⟨m, hm⟩ := k1; exact DataW.trod_lt m _ _ _ hm
  obtain ⟨A0, l0, c0, e0, R0⟩ := L8.open_nums (hval 0 26 v0 rfl rfl) h0
  subst e0
  obtain ⟨t1, p1, u1, q1, e1, R1, S1⟩ := L8.open_parts (hval 1 60 v1 rfl rfl) h1
  subst e1
  clear hA0 hval0
  refine (walk W A0 l0 c0 R0 t1 p1 u1 q1 R1 S1).mono fun e W' ⟨he, bel⟩ => ?_
  subst he
  exact ⟨_, rfl, _, _, _, [], _, [], hW', trodAll_mk1 (shut_bool Try.underlying4 _), (trodAll_cons_mk (Below.trod laidOut (by kernel_rfl) (of_decide_eq_true (by kernel_rfl)) k0 bel lt0) (trodAll_cons_mk (Below.trod laidOut (by kernel_rfl) (of_decide_eq_true (by kernel_rfl)) k1 bel lt1) trodAll_mk0)), rfl, bel.frame _, fun h => by cases h⟩

theorem over : Rows.dedupApartRow.holds Try.pinned (OpenSpec.ofChange Rows.dedupApartSpec) :=
  OpenClaim.holds_of_wide 7 Try.f7 rfl rfl rfl rfl rfl rfl rfl ⟨rfl, rfl, rfl, rfl, rfl⟩ rfl rfl rfl rfl rfl (by kernel_rfl) Try.func7 (by kernel_rfl)
    (of_decide_eq_true (by kernel_rfl)) (by unfold Func.isWrapper; first | (rw [if_pos (by decide +kernel)]; kernel_rfl) | (rw [if_neg (by decide +kernel)]; exact ⟨rfl, rfl⟩))
    (fun os started H enc _ => lifted os started H enc)

/-- the statement -/
theorem proved : Rows.DedupApartSaid :=
  over
#print axioms proved
end Go.Proofs.Ytajdcppajbnhiaa.dedupApart
