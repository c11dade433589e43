/-
  Proved: offsets rise by one, whatever goes meanwhile; what is appended is read at once, at the offset that was told; the end never goes back (of at most 30 calls). No condition.
-/
import Derived.Test.YtpagoeoilkbmjaaRows
import Derived.WalkKit
import Derived.ProofKit
import Derived.OpenShut
import Derived.ShutString
import Derived.ChangeOld
import Derived.Below
import Derived.Test.YtpagoeoilkbmjaaPlLaws
import Derived.Deep.QuietTactic
import Derived.BigQuiet
import Derived.LoopTactic
namespace Go.Proofs.Ytpagoeoilkbmjaa.plogOffsets
open Go.ChangeShapes Go.WideShapes Go.ChangeAt Go.RowKit
open Go.ChangeMaps (open_string shut_string)
open L3 L4 L5 L6

theorem own : ownKnob Try.prog.godebug = none := by kernel_rfl
theorem laidOut : laidOutB Try.prog = true := by kernel_rfl


set_option maxRecDepth 100000 in
set_option maxHeartbeats 16000000 in
theorem walk (w : World) (a0 : Int) (_ : (Lit.int .i64 a0).wf = true) (A1 : Option Addr) (l1 : List L6.Scr) (c1 : Nat) (R1 : IsScr w A1 l1) :
    Calls Try.prog 6 #[.int .i64 a0, .slice A1 l1.length c1] w fun e w' => e = .returned (.bool true) ∧ Below w.heap.size w w' := by
  obtain ⟨b, hbm⟩ : ∃ b, bits .and .i64 a0 63 = b := ⟨_, rfl⟩
  have hb := mask_le 63 (by decide) a0
  rw [show ((63 : Nat) : Int) = 63 from rfl, hbm] at hb
  obtain ⟨rm, hrm⟩ : ∃ rm : Nat, 1 + b = (rm : Int) := ⟨(1 + b).toNat, by omega⟩
  have NE : Hid (newE6 (rm : Int) = 0) := Lib.hid (by unfold newE6; rw [if_neg (by omega)])
  obtain ⟨n, hn⟩ : ∃ n, l1.length = n := ⟨_, rfl⟩
  obtain ⟨HOPS, HC, hnm⟩ := R1
  rw [hn] at hnm ⊢
  unfold maxLen at hnm
  have HN := Lib.hid hn
  clear hn
  go_enter Try.func6, Try.ntmps6
  go_wp2_with (go_at_call 25; refine (m6_new rm w w (Lib.hid (Below.refl _ _)) NE).mono ?_; rintro e w1 ⟨g, S1, rfl, hm1, _, _⟩; have M1 := Lib.hid hm1; clear hm1)
  clear hbm hrm hb
  go_loopw [7] (fun i wr => ∃ (j : Nat) (S : List Nat) (l : List Sg), j ≤ 30 ∧ i = .int .i64 j ∧ Hid (LogAt w wr rm g l S) ∧ l.length ≤ j + 1) (fun i _ => 30 - (intOf i).toNat)
  case atStart => exact ⟨0, S1, [sg0], by omega, rfl, M1, by decide⟩
  case round =>
    clear M1
    obtain ⟨j, S, l, hj, rfl, HL, hlen⟩ := hrel
    by_cases hlt : j < n ∧ j < 30
    · obtain ⟨h1, h2⟩ := hlt
      obtain ⟨og, oo, rfl, hog, hcells⟩ := HOPS.out (by rw [HN.out]; omega)
      obtain ⟨⟨kd, fr, nn, RA, rl, rc⟩, hr⟩ : ∃ r, l1[j]? = some r := ⟨_, List.getElem?_eq_getElem (by rw [HN.out]; omega)⟩
      have hold := HL.out.old
      obtain ⟨c0, c1', c2, c3⟩ := hcells j _ hr
      have d0 := (hold.cell (p := ⟨og, oo + j * 4, none⟩) hog).trans c0
      have d1 := (hold.cell (p := ⟨og, oo + j * 4 + 1, none⟩) hog).trans c1'
      have d2 := (hold.cell (p := ⟨og, oo + j * 4 + 2, none⟩) hog).trans c2
      have d3 := (hold.cell (p := ⟨og, oo + j * 4 + 3, none⟩) hog).trans c3
      obtain ⟨⟨⟨HRR, HRS, hrm⟩, hrc⟩, _, _, _⟩ := HC.out _ (List.mem_of_getElem? hr)
      dsimp only at d0 d1 d2 d3 HRR HRS hrm hrc
      obtain ⟨rn, hrn⟩ : ∃ rn, rl.length = rn := ⟨_, rfl⟩
      rw [hrn] at d3 hrm hrc
      have HRN := Lib.hid hrn
      obtain ⟨m, hm⟩ : ∃ m, (recsL rl).length = m := ⟨_, rfl⟩
      have hm70 : m ≤ 70 := by rw [← hm, recs_len]; omega
      have HM := Lib.hid hm
      have HSM : Hid (∀ r ∈ recsL rl, r.key.size ≤ maxLen ∧ r.val.size ≤ maxLen) := Lib.hid (fun r hr => by have := recs_small r hr; unfold maxLen; omega)
      obtain ⟨x0, hx0⟩ : ∃ x, startL l = x := ⟨_, rfl⟩
      obtain ⟨x1, hx1⟩ : ∃ x, endL l = x := ⟨_, rfl⟩
      have HX0 := Lib.hid hx0
      have HX1 := Lib.hid hx1
      have hlen' : l.length ≤ 1000 := by omega
      have j0 : (0 : Int) ≤ (j : Int) := by omega
      have j1 : (j : Int) < (n : Int) := by omega
      have j2 : (j : Int) < 30 := by omega
      clear hcells hr c0 c1' c2 c3 hrn hm hold hx0 hx1
      by_cases hk0 : kd = 0
      · subst hk0
        obtain ⟨x, hx⟩ : ∃ x, L6.appE rm l (recsL rl) = x := ⟨_, rfl⟩
        by_cases hx0' : x = 0
        · subst hx0'
          have HX := Lib.hid hx
          obtain ⟨l', hl'⟩ : ∃ l', appL rm (recsL rl) l = l' := ⟨_, rfl⟩
          have hln := app_len rm (recsL rl) l
          have hrd := read_appended HL.out.good HM.out
          have hst := app_start rm (recsL rl) HL.out.good.ne
          have hed := app_end rm (recsL rl) HL.out.good.ne
          have hse := start_end HL.out.good
          have h00 := start_zero HL.out.good
          have h11 := good_end (L6.app_good HL.out.good hx)
          rw [HM.out, HX1.out] at hed
          rw [HX0.out] at hst
          rw [HX0.out, HX1.out] at hse
          rw [HX0.out] at h00
          rw [hed] at h11
          rw [hl'] at hst hed hln hrd
          rw [HX1.out] at hrd
          have HL' := Lib.hid hl'
          have HA0 : Hid (startL l' = x0) := Lib.hid hst
          have HA1 : Hid (endL l' = x1 + (m : Int)) := Lib.hid hed
          have HRD := Lib.hid hrd
          have HRE : Hid (readE l' x1 = 0) := Lib.hid (readE_ok (by rw [hst]; exact hse) (by rw [hed]; omega))
          have hlen2 : l'.length ≤ 1000 := by omega
          have hlen3 : l'.length ≤ j + 1 + 1 := by omega
          have v1 : wrap64 (x1 + (m : Int)) = x1 + (m : Int) := by simp only [wrap64]; omega
          have v2 : ¬ x1 + (m : Int) < x1 := by omega
          have v3 : ¬ x0 < x0 := by omega
          have v4 : ¬ x1 + (m : Int) < x0 := by omega
          obtain ⟨h11a, h11b⟩ := h11
          clear hx hl' hln hrd hst hed
          go_wp2_with (first
            | (go_at_call 29; have _q := M4; refine (m6_read M4 hlen2 x1 m (numbered x1 (recsL rl)) m (by omega) HRE HRD (by rw [numbered_len, HM.out])).mono ?_; rintro e w5 ⟨A5, c5, rfl, ho5, hb5⟩; have M5 := Lib.hid (M4.out.below hb5); have O5 := Lib.hid ho5; have P5 := Lib.hid (own_below P4.out hb5); clear ho5)
            | (go_at_call 41; have _q := M3; refine (m6_span M3 hlen2 x0 (x1 + (m : Int)) HA0 HA1).mono ?_; rintro e w4 ⟨rfl, hb4⟩; have M4 := Lib.hid (M3.out.below hb4); have P4 := Lib.hid (own_below P3.out hb4))
            | (go_at_call 27; have _q := M2; refine (m6_append M2 (by omega) RA2 (recsL rl) m rc2 w2.heap.size (Lib.hid (recs_own HM.out O2.out)) (Lib.hid (fun z e hm => by have h1 := (own_blk O2.out z e).1; have h2 := Z1.out z hm; omega)) (Nat.le_refl _) HM.out (by unfold maxLen; omega) HSM HX).mono ?_; rw [HX1.out, HL'.out]; rintro e w3 ⟨rfl, S3, hm3, ho3, _⟩; have M3 := Lib.hid hm3; have P3 := Lib.hid (ho3.own O2.out (fun z e hm => by have h1 := (O2.out.lt z e).1; have h2 := Z1.out z hm; omega)); clear hm3 ho3)
            | (go_at_call 13; have _q := M1; refine (records_any RA rl rn rc w.heap.size _ (Lib.hid (HRR.out.below M1.out.old)) M1.out.old.size HRN.out hrm hrc HRS).mono ?_; rintro e w2 ⟨RA2, rc2, rfl, ho2, hb2⟩; rw [HM.out] at ho2 ⊢; have M2 := Lib.hid (M1.out.below hb2); have O2 := Lib.hid ho2; have Z1 := Lib.hid M1.out.lt; clear ho2)
            | (go_at_call 41; refine (m6_span (Lib.hid (HL.out.below (one_box _))) hlen' x0 x1 HX0 HX1).mono ?_; rintro e w1 ⟨rfl, hb1⟩; have q0 := hb1.cell (p := ⟨wr.heap.size, 0, none⟩) (by simp); have q1 := hb1.cell (p := ⟨wr.heap.size, 1, none⟩) (by simp); have q3 := hb1.cell (p := ⟨wr.heap.size, 3, none⟩) (by simp); simp at q0 q1 q3; have M1 := Lib.hid (HL.out.below ((one_box _).trans (hb1.mono (by simp))))))
          go_loopw [18] (fun i wi => ∃ t : Nat, t ≤ m ∧ i = .int .i64 t ∧ Below w5.heap.size w5 wi) (fun i _ => m - (intOf i).toNat)
          case atStart => exact ⟨0, by omega, rfl, Below.refl _ _⟩
          case round =>
            obtain ⟨t, ht, rfl, hbi⟩ := hrel
            have M6 := Lib.hid (M5.out.below hbi)
            by_cases htm : t < m
            · have o5 := own_below O5.out hbi
              have p5 := own_below P5.out hbi
              obtain ⟨xb, xc, hxv, _, _⟩ := o5.form (by omega)
              injection hxv with e1 e2 e3
              subst e1
              obtain ⟨yb, yc, hyv, _, _⟩ := p5.form (by omega)
              injection hyv with e1' e2' e3'
              subst e1'
              obtain ⟨⟨hk', key', tb', val'⟩, hf⟩ : ∃ s, (recsL rl)[t]? = some s := ⟨_, List.getElem?_eq_getElem (by rw [HM.out]; exact htm)⟩
              obtain ⟨d0, d1, d2, d3, d4⟩ := own_cells o5 (numbered_get (o := x1) hf)
              obtain ⟨g0, g1, g2, g3⟩ := own_recs p5 hf
              dsimp only at d0 d1 d2 d3 d4 g0 g1 g2 g3
              have u1 : IntKind.i64.wrap (x1 + (t : Int)) = x1 + (t : Int) := by rw [IntKind.wrap_i64]; omega
              have u2 : (0 : Int) ≤ (t : Int) := by omega
              have u3 : (t : Int) < (m : Int) := by omega
              clear hf o5 p5 e2 e3 e2' e3'
              go_wp2_with fail
              go_quiet (fail)
              go_wp2_with fail
              go_roundw
              case rel => exact ⟨t + 1, by omega, by go_num, drewN_below hbi _⟩
              case measure => simp [intOf]; omega
            · obtain rfl : t = m := by omega
              have tm : ¬ (t : Int) < (t : Int) := by omega
              clear htm
              go_wp2_with (go_at_call 41; refine (m6_span M6 hlen2 x0 (x1 + (t : Int)) HA0 HA1).mono ?_; rintro e w7 ⟨rfl, hb7⟩; have M7 := Lib.hid (M6.out.below hb7))
              go_roundw
              case rel => exact ⟨j + 1, S3, l', by omega, by go_num, M7, hlen3⟩
              case measure => simp [intOf]; omega
        · have HX := Lib.hid hx
          have hxn : (x != 0) = true := by simpa using hx0'
          have HXN := Lib.hid hx0'
          clear hx hx0'
          go_wp2_with (first
            | (go_at_call 41; have _q := M3; refine (m6_span M3 hlen' x0 x1 HX0 HX1).mono ?_; rintro e w4 ⟨rfl, hb4⟩; have M4 := Lib.hid (M3.out.below hb4))
            | (go_at_call 27; have _q := M2; refine (m6_append_no M2 (by omega) RA2 (recsL rl) m rc2 w2.heap.size x (Lib.hid (recs_own HM.out O2.out)) (Lib.hid (fun z e hm => by have h1 := (own_blk O2.out z e).1; have h2 := Z1.out z hm; omega)) (Nat.le_refl _) HM.out (by unfold maxLen; omega) HSM HX HXN.out).mono ?_; rintro e w3 ⟨rfl, hb3⟩; have M3 := Lib.hid (M2.out.below hb3))
            | (go_at_call 13; have _q := M1; refine (records_any RA rl rn rc w.heap.size _ (Lib.hid (HRR.out.below M1.out.old)) M1.out.old.size HRN.out hrm hrc HRS).mono ?_; rintro e w2 ⟨RA2, rc2, rfl, ho2, hb2⟩; rw [HM.out] at ho2 ⊢; have M2 := Lib.hid (M1.out.below hb2); have O2 := Lib.hid ho2; have Z1 := Lib.hid M1.out.lt; clear ho2)
            | (go_at_call 41; refine (m6_span (Lib.hid (HL.out.below (one_box _))) hlen' x0 x1 HX0 HX1).mono ?_; rintro e w1 ⟨rfl, hb1⟩; have q0 := hb1.cell (p := ⟨wr.heap.size, 0, none⟩) (by simp); have q1 := hb1.cell (p := ⟨wr.heap.size, 1, none⟩) (by simp); have q3 := hb1.cell (p := ⟨wr.heap.size, 3, none⟩) (by simp); simp at q0 q1 q3; have M1 := Lib.hid (HL.out.below ((one_box _).trans (hb1.mono (by simp))))))
          go_roundw
          case rel => exact ⟨j + 1, S, l, by omega, by go_num, M4, by omega⟩
          case measure => simp [intOf]; omega
      have u0 : (kd == 0) = false := by simpa using hk0
      clear hk0
      by_cases hk2 : kd = 2
      · subst hk2
        obtain ⟨d, hd⟩ : ∃ d, retainN l fr = d := ⟨_, rfl⟩
        have hdl : d < l.length := by rw [← hd]; exact retain_lt fr HL.out.good.ne
        obtain ⟨x2, hx2⟩ : ∃ x, startL (l.drop d) = x := ⟨_, rfl⟩
        have hge := drop_start HL.out.good hdl
        have hse := start_end (drop_good HL.out.good hdl)
        have HX2 := Lib.hid hx2
        have HX3 : Hid (endL (l.drop d) = x1) := Lib.hid ((drop_end hdl).trans HX1.out)
        rw [hx2, HX0.out] at hge
        rw [hx2, HX3.out] at hse
        have HD := Lib.hid hd
        have hlen2 : (l.drop d).length ≤ 1000 := by rw [List.length_drop]; omega
        have hlen3 : (l.drop d).length ≤ j + 1 + 1 := by rw [List.length_drop]; omega
        have v2 : ¬ x1 < x1 := by omega
        have v3 : ¬ x2 < x0 := by omega
        have v4 : ¬ x1 < x2 := by omega
        clear hd hx2
        go_wp2_with (first
          | (go_at_call 41; have _q := M3; refine (m6_span M3 hlen2 x2 x1 HX2 HX3).mono ?_; rintro e w4 ⟨rfl, hb4⟩; have M4 := Lib.hid (M3.out.below hb4))
          | (go_at_call 31; have _q := M1; refine (m6_retain M1 hlen' fr d HD).mono ?_; rintro e w3 ⟨rfl, S3, hm3, _, _⟩; have M3 := Lib.hid hm3; clear hm3)
          | (go_at_call 41; refine (m6_span (Lib.hid (HL.out.below (one_box _))) hlen' x0 x1 HX0 HX1).mono ?_; rintro e w1 ⟨rfl, hb1⟩; have q0 := hb1.cell (p := ⟨wr.heap.size, 0, none⟩) (by simp); have q1 := hb1.cell (p := ⟨wr.heap.size, 1, none⟩) (by simp); have q3 := hb1.cell (p := ⟨wr.heap.size, 3, none⟩) (by simp); simp at q0 q1 q3; have M1 := Lib.hid (HL.out.below ((one_box _).trans (hb1.mono (by simp))))))
        go_roundw
        case rel => exact ⟨j + 1, S3, l.drop d, by omega, by go_num, M4, hlen3⟩
        case measure => simp [intOf]; omega
      have u2 : (kd == 2) = false := by simpa using hk2
      clear hk2
      by_cases hk3 : kd = 3
      · subst hk3
        obtain ⟨l', hl'⟩ : ∃ l', (comp l).1 = l' := ⟨_, rfl⟩
        obtain ⟨y, hy⟩ : ∃ y, (comp l).2.2 = y := ⟨_, rfl⟩
        have hlk := comp_like l
        rw [hl'] at hlk
        have HX2 : Hid (startL l' = x0) := Lib.hid ((like_start hlk).trans HX0.out)
        have HX3 : Hid (endL l' = x1) := Lib.hid ((like_end hlk).trans HX1.out)
        have hse := start_end HL.out.good
        rw [HX0.out, HX1.out] at hse
        have HC := Lib.hid hl'
        have HY := Lib.hid hy
        have hlen2 : l'.length ≤ 1000 := by rw [hlk.len]; omega
        have hlen3 : l'.length ≤ j + 1 + 1 := by rw [hlk.len]; omega
        have v2 : ¬ x1 < x1 := by omega
        have v3 : ¬ x0 < x0 := by omega
        have v4 : ¬ x1 < x0 := by omega
        clear hl' hy hlk
        go_wp2_with (first
          | (go_at_call 41; have _q := M3; refine (m6_span M3 hlen2 x0 x1 HX2 HX3).mono ?_; rintro e w4 ⟨rfl, hb4⟩; have M4 := Lib.hid (M3.out.below hb4))
          | (go_at_call 33; have _q := M1; refine (m6_compact M1 hlen' l' y HC HY).mono ?_; rintro e w3 ⟨rfl, S3, hm3, _, _⟩; have M3 := Lib.hid hm3; clear hm3)
          | (go_at_call 41; refine (m6_span (Lib.hid (HL.out.below (one_box _))) hlen' x0 x1 HX0 HX1).mono ?_; rintro e w1 ⟨rfl, hb1⟩; have q0 := hb1.cell (p := ⟨wr.heap.size, 0, none⟩) (by simp); have q1 := hb1.cell (p := ⟨wr.heap.size, 1, none⟩) (by simp); have q3 := hb1.cell (p := ⟨wr.heap.size, 3, none⟩) (by simp); simp at q0 q1 q3; have M1 := Lib.hid (HL.out.below ((one_box _).trans (hb1.mono (by simp))))))
        go_roundw
        case rel => exact ⟨j + 1, S3, l', by omega, by go_num, M4, hlen3⟩
        case measure => simp [intOf]; omega
      have u3 : (kd == 3) = false := by simpa using hk3
      clear hk3
      have hse := start_end HL.out.good
      rw [HX0.out, HX1.out] at hse
      have v2 : ¬ x1 < x1 := by omega
      have v3 : ¬ x0 < x0 := by omega
      have v4 : ¬ x1 < x0 := by omega
      go_wp2_with (first
        | (go_at_call 41; have _q := M1; refine (m6_span M1 hlen' x0 x1 HX0 HX1).mono ?_; rintro e w4 ⟨rfl, hb4⟩; have M4 := Lib.hid (M1.out.below hb4))
        | (go_at_call 41; refine (m6_span (Lib.hid (HL.out.below (one_box _))) hlen' x0 x1 HX0 HX1).mono ?_; rintro e w1 ⟨rfl, hb1⟩; have q0 := hb1.cell (p := ⟨wr.heap.size, 0, none⟩) (by simp); have q1 := hb1.cell (p := ⟨wr.heap.size, 1, none⟩) (by simp); have q3 := hb1.cell (p := ⟨wr.heap.size, 3, none⟩) (by simp); simp at q0 q1 q3; have M1 := Lib.hid (HL.out.below ((one_box _).trans (hb1.mono (by simp))))))
      go_roundw
      case rel => exact ⟨j + 1, S, l, by omega, by go_num, M4, by omega⟩
      case measure => simp [intOf]; omega
    · have hd : n ≤ j ∨ (j < n ∧ 30 ≤ j) := by omega
      rcases hd with hd | ⟨hd1, hd2⟩
      · go_wp2_with (go_at_call 38; refine (fixed6_any _).mono ?_; rintro e wz ⟨rfl, hbz⟩)
        go_ret
        exact ⟨rfl, acc HL.out.old hbz⟩
      · go_wp2_with (go_at_call 38; refine (fixed6_any _).mono ?_; rintro e wz ⟨rfl, hbz⟩)
        go_ret
        exact ⟨rfl, acc HL.out.old hbz⟩

set_option maxRecDepth 100000 in
set_option maxHeartbeats 1000000 in
theorem lifted (os : Os) (started : os.Started) (H : Type) (enc : TypeId × Value → H) :
    ReturnsInHanded {} Try.checked os 6 .any (Rows.plogOffsetsSpec.pre6 enc Try.prog Try.f6 Rows.plogOffsetsRow.domain false) (Rows.plogOffsetsSpec.post enc Try.prog Try.f6 false true false false) := by
  refine returnsInHanded_of_change (C := Try.checked) own started (by kernel_rfl) Try.func6
    (ChangeSpec.witness6 (enc := enc) (C := Try.checked) false ⟨#[], #[.int .i64 0, .slice none 0 0], []⟩ 8 (by kernel_rfl) (by kernel_rfl) (by kernel_rfl) (by kernel_rfl)) ?_
  intro W base args ds gs before hval0 hW _ _
  have hval : ∀ (j : Nat) t v, Try.f6.params[j]? = some t → args[j]? = some v → Value.okWide Try.prog W .any base t v := hval0
  have hW' := hW
  obtain ⟨p, q, hA0, hV, rfl, hfz, hnd⟩ := hW
  have hA : DataW.TrodAll enc Try.prog W 0 (fun _ => true) true Try.f6.params.toList args.toList ds p := hA0
  rw [Try.params6] at hA hval
  obtain ⟨v0, vs0, d0, ds0, p0, q0, hargs, rfl, rfl, h0, r0⟩ := trodAll_cons hA
  obtain ⟨v1, vs1, d1, ds1, p1, q1, rfl, rfl, rfl, h1, r1⟩ := trodAll_cons r0
  obtain ⟨rfl, rfl, rfl⟩ := trodAll_nil r1
  obtain rfl : args = #[v0, v1] := by cases args; simp_all
  obtain ⟨rfl, rfl⟩ := trodVars_none hV
  have k0 := h0
  have lt0 : ∀ x ∈ p0, x.block < W.heap.size := by obtain ⟨m, hm⟩ := k0; exact DataW.trod_lt m _ _ _ hm
  have k1 := h1
  have lt1 : ∀ x ∈ p1, x.block < W.heap.size := by obtain ⟨m, hm⟩ := k1; exact DataW.trod_lt m _ _ _ hm
  obtain ⟨a0, e0, _, _, w0⟩ := open_int Try.underlying3 (hval 0 3 v0 rfl rfl) h0
  subst e0
  obtain ⟨A1, l1, c1, e1, R1⟩ := L6.open_scr (hval 1 50 v1 rfl rfl) h1
  subst e1
  clear hA0 hval0
  refine (walk W a0 w0 A1 l1 c1 R1).mono fun e W' ⟨he, bel⟩ => ?_
  subst he
  exact ⟨_, rfl, _, _, _, [], _, [], hW', trodAll_mk1 (shut_bool Try.underlying4 _), (trodAll_cons_mk (Below.trod laidOut (by kernel_rfl) (of_decide_eq_true (by kernel_rfl)) k0 bel lt0) (trodAll_cons_mk (Below.trod laidOut (by kernel_rfl) (of_decide_eq_true (by kernel_rfl)) k1 bel lt1) trodAll_mk0)), rfl, bel.frame _, fun h => by cases h⟩

theorem over : Rows.plogOffsetsRow.holds Try.pinned (OpenSpec.ofChange Rows.plogOffsetsSpec) :=
  OpenClaim.holds_of_wide 6 Try.f6 rfl rfl rfl rfl rfl rfl rfl ⟨rfl, rfl, rfl, rfl, rfl⟩ rfl rfl rfl rfl rfl (by kernel_rfl) Try.func6 (by kernel_rfl)
    (of_decide_eq_true (by kernel_rfl)) (by unfold Func.isWrapper; first | (rw [if_pos (by decide +kernel)]; kernel_rfl) | (rw [if_neg (by decide +kernel)]; exact ⟨rfl, rfl⟩))
    (fun os started H enc _ => lifted os started H enc)

/-- the statement -/
theorem proved : Rows.PlogOffsetsSaid :=
  over
#print axioms proved
end Go.Proofs.Ytpagoeoilkbmjaa.plogOffsets
