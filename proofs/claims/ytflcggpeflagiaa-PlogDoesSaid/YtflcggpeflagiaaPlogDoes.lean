/-
  Proved: whatever is appended, read, retained and compacted, in any order: each answer, and all segments, are as the document says; what is told is its owner's (of at most 30 calls, 70 records each). No condition.
-/
import Derived.Test.YtflcggpeflagiaaRows
import Derived.WalkKit
import Derived.ProofKit
import Derived.OpenShut
import Derived.ShutString
import Derived.ChangeOld
import Derived.Below
import Derived.Test.YtflcggpeflagiaaPlLaws
import Derived.Test.YtflcggpeflagiaaMPlSame
import Derived.DataShut
import Derived.Deep.QuietTactic
import Derived.BigQuiet
import Derived.LoopTactic
namespace Go.Proofs.Ytflcggpeflagiaa.plogDoes
open Go.ChangeShapes Go.WideShapes Go.ChangeAt Go.RowKit
open Go.ChangeMaps (open_string shut_string)
open L3 L4 L5 L6

theorem own : ownKnob Try.prog.godebug = none := by kernel_rfl
theorem laidOut : laidOutB Try.prog = true := by kernel_rfl


theorem own_turn {w : World} {base n c b t : Nat} {T : TypeId} {xs : List Value} (h : w.ownsRow base T 5 (.slice (some ⟨b, 0, none⟩) n c) n xs) (ht : t < n) :
    (∃ u, w.cell? ⟨b, t * 5, none⟩ = some u) ∧ w.frozen? ⟨b, t * 5, none⟩ = false := by
  have hlt : t * 5 < xs.length := by rw [h.1]; omega
  have q := h.cells (g := b) rfl (t * 5) _ (List.getElem?_eq_getElem hlt)
  rw [addr_add] at q
  exact ⟨⟨_, q⟩, h.frozenAt _⟩
theorem wf_le {n : Int} (h : (Lit.int .i64 n).wf = true) : n ≤ 9223372036854775807 := by
  exact ((Lit.wf_int_iff .i64 n).1 h).2
theorem duo_set {w W : World} {room g k ab t : Nat} {l1 l2 : List Sg} {S D : List Nat} {v : Value} (h : Duo w W room g k l1 l2 S D) (h1 : ∀ z ∈ S, z ≠ ab) (h2 : ∀ z ∈ D, z ≠ ab) (h3 : w.heap.size ≤ ab) : Duo w (W.setCell ⟨ab, t, none⟩ v) room g k l1 l2 S D := by
  have o : Only [ab] W (W.setCell ⟨ab, t, none⟩ v) := (Only.refl _ _).setCell (p := ⟨ab, t, none⟩) (.inl (by simp)) v
  exact ⟨h.log.only o (fun z hz => by rw [List.mem_singleton.1 hz]; exact h3) (fun z hz hm => h1 z hz (List.mem_singleton.1 hm)), h.doc.only o (fun z hz => by rw [List.mem_singleton.1 hz]; exact h3) (fun z hz hm => h2 z hz (List.mem_singleton.1 hm)), h.far⟩
theorem duo_retain' {w W : World} {room g k : Nat} {l l2 : List Sg} {S D : List Nat} (p : Hid (Duo w W room g k l l2 S D)) (hN : l.length ≤ 1000) (a : Int) (d : Nat) (hd : Hid (retainN l a = d)) :
    Calls Try.prog 13 #[.pointer (some ⟨g, 0, none⟩), .int .i64 a] W fun e W' => e = .returned (.int .i64 d) ∧ ∃ S', Duo w W' room g k (l.drop d) l2 S' D ∧ Only S W W' := by
  refine (m6_retain (Lib.hid p.out.log) hN a d hd).mono ?_
  rintro e W' ⟨he, ht⟩
  exact ⟨he, p.out.one ht⟩

set_option maxRecDepth 100000 in
set_option maxHeartbeats 16000000 in
theorem walk (w : World) (a0 : Int) (_ : (Lit.int .i64 a0).wf = true) (A1 : Option Addr) (l1 : List L6.Scr) (c1 : Nat) (R1 : IsScr w A1 l1) :
    Calls Try.prog 3 #[.int .i64 a0, .slice A1 l1.length c1] w fun e w' => e = .returned (.bool true) ∧ Below w.heap.size w w' := by
  obtain ⟨b, hbm⟩ : ∃ b, bits .and .i64 a0 63 = b := ⟨_, rfl⟩
  have hb := mask_le 63 (by decide) a0
  rw [show ((63 : Nat) : Int) = 63 from rfl, hbm] at hb
  obtain ⟨rm, hrm⟩ : ∃ rm : Nat, 1 + b = (rm : Int) := ⟨(1 + b).toNat, by omega⟩
  have rm1 : 1 ≤ rm := by omega
  have rm64 : rm ≤ 64 := by omega
  have NE : Hid (newE6 (rm : Int) = 0) := Lib.hid (by unfold newE6; rw [if_neg (by omega)])
  have SMV : Hid (∀ r ∈ [rkv 120 121], r.key.size ≤ maxLen ∧ r.val.size ≤ maxLen) := Lib.hid (by decide)
  obtain ⟨n, hn⟩ : ∃ n, l1.length = n := ⟨_, rfl⟩
  obtain ⟨HOPS, HC, hnm⟩ := R1
  rw [hn] at hnm ⊢
  unfold maxLen at hnm
  have HN := Lib.hid hn
  clear hn
  go_enter Try.func3, Try.ntmps3
  go_wp2_with (first
    | (go_at_call 6; have _q := M1; refine (duo_new rm1 rm64 M1).mono ?_; rintro e w2 ⟨k, D2, rfl, hp2⟩; have P2 := Lib.hid hp2; clear hp2)
    | (go_at_call 5; refine (m6_new rm w w (Lib.hid (Below.refl _ _)) NE).mono ?_; rintro e w1 ⟨g, S1, rfl, hm1, _, _⟩; have M1 := Lib.hid hm1; clear hm1))
  clear hbm hrm hb M1
  go_loopw [6, 10] (fun s i wr => ∃ (j g : Nat) (S D : List Nat) (l : List Sg), j ≤ 30 ∧ i = .int .i64 j ∧ s = .pointer (some ⟨g, 0, none⟩) ∧ Hid (Duo w wr rm g k l l S D) ∧ l.length ≤ j + 1) (fun _ i _ => 30 - (intOf i).toNat)
  case atStart => exact ⟨0, g, S1, D2, [sg0], by omega, rfl, rfl, P2, by decide⟩
  case round =>
    clear P2
    obtain ⟨j, g, S, D, l, hj, rfl, rfl, HB, hlen⟩ := hrel
    by_cases hlt : j < n ∧ j < 30
    · obtain ⟨h1, h2⟩ := hlt
      obtain ⟨og, oo, rfl, hog, hcells⟩ := HOPS.out (by rw [HN.out]; omega)
      obtain ⟨⟨kd, fr, nn, RA, rl, rc⟩, hr⟩ : ∃ r, l1[j]? = some r := ⟨_, List.getElem?_eq_getElem (by rw [HN.out]; omega)⟩
      have hold := HB.out.log.old
      obtain ⟨c0, c1', c2, c3⟩ := hcells j _ hr
      have d0 := (hold.cell (p := ⟨og, oo + j * 4, none⟩) hog).trans c0
      have d1 := (hold.cell (p := ⟨og, oo + j * 4 + 1, none⟩) hog).trans c1'
      have d2 := (hold.cell (p := ⟨og, oo + j * 4 + 2, none⟩) hog).trans c2
      have d3 := (hold.cell (p := ⟨og, oo + j * 4 + 3, none⟩) hog).trans c3
      obtain ⟨⟨⟨HRR, HRS, hrm⟩, hrc⟩, _, _, hwn⟩ := HC.out _ (List.mem_of_getElem? hr)
      dsimp only at d0 d1 d2 d3 HRR HRS hrm hrc hwn
      obtain ⟨rn, hrn⟩ : ∃ rn, rl.length = rn := ⟨_, rfl⟩
      rw [hrn] at d3 hrm hrc
      have HRN := Lib.hid hrn
      obtain ⟨m, hm⟩ : ∃ m, (recsL rl).length = m := ⟨_, rfl⟩
      have hm70 : m ≤ 70 := by rw [← hm, recs_len]; omega
      have HM := Lib.hid hm
      have HSM : Hid (∀ r ∈ recsL rl, r.key.size ≤ maxLen ∧ r.val.size ≤ maxLen) := Lib.hid (fun r hr => by have := recs_small r hr; unfold maxLen; omega)
      have HG := Lib.hid HB.out.log.good
      have hnn : nn ≤ 9223372036854775807 := wf_le hwn
      have hlen' : l.length ≤ 1000 := by omega
      have P1 : Hid (Duo w (wr.alloc (.cells #[.int .i64 kd, .int .i64 fr, .int .i64 nn, .slice RA rn rc] 32)) rm g k l l S D) := Lib.hid (HB.out.below (one_box _))
      have HSW := Lib.hid HB.out.log.lt
      have HB1 : Hid ((wr.alloc (.cells #[.int .i64 kd, .int .i64 fr, .int .i64 nn, .slice RA rn rc] 32)).cell? ⟨wr.heap.size, 1, none⟩ = some (.int .i64 fr)) := Lib.hid ((cell_of_row _ _ 1 _ _ _ (heap_alloc_new _ _)).trans rfl)
      have HDW := Lib.hid HB.out.doc.lt
      have HWW := Lib.hid hold.size
      have j0 : (0 : Int) ≤ (j : Int) := by omega
      have j1 : (j : Int) < (n : Int) := by omega
      have j2 : (j : Int) < 30 := by omega
      clear hcells hr c0 c1' c2 c3 hrn hm hold hwn
      by_cases hk0 : kd = 0
      · subst hk0
        obtain ⟨x, hx⟩ : ∃ x, L6.appE rm l (recsL rl) = x := ⟨_, rfl⟩
        obtain ⟨en, hen⟩ : ∃ en, endL l = en := ⟨_, rfl⟩
        have HEN := Lib.hid hen
        clear hen
        by_cases hx0' : x = 0
        · subst hx0'
          have HX := Lib.hid hx
          obtain ⟨l', hl'⟩ : ∃ l', appL rm (recsL rl) l = l' := ⟨_, rfl⟩
          have hln := app_len rm (recsL rl) l
          rw [hl'] at hln
          have HL' := Lib.hid hl'
          have hlen2 : l'.length ≤ 1000 := by omega
          have hlen3 : l'.length ≤ j + 1 + 1 := by omega
          clear hx hl' hln
          go_wp2_with (first
            | (go_at_call 19; have _q := PS; refine (duo_same PS hlen2).mono ?_; rintro e ws ⟨rfl, hbs⟩; have PZ := Lib.hid (PS.out.below hbs))
            | (go_at_call 9; have _q := P3; refine (duo_rappend P3 HG (by omega) RA2 (recsL rl) m rc2 _ R3 (Lib.hid (fun z e => (AP.out z e).2)) hB3 HM.out (by omega) HSM HX en HEN).mono ?_; rw [HL'.out]; rintro e w4 ⟨rfl, D', hp4⟩; have PS := Lib.hid hp4; clear hp4)
            | (go_at_call 8; have _q := P2; refine (duo_append P2 (by omega) RA2 (recsL rl) m rc2 w2.heap.size R2 AP (Nat.le_refl _) HM.out (by unfold maxLen; omega) HSM HX en HEN).mono ?_; rw [HL'.out]; rintro e w3 ⟨rfl, hr3, hB3, S', hp3⟩; have P3 := Lib.hid hp3; have R3 := Lib.hid hr3; clear hp3 hr3)
            | (go_at_call 7; refine (records_any RA rl rn rc w.heap.size _ (Lib.hid (HRR.out.below P1.out.log.old)) P1.out.log.old.size HRN.out hrm hrc HRS).mono ?_; rintro e w2 ⟨RA2, rc2, rfl, ho2, hb2⟩; rw [HM.out] at ho2 ⊢; have P2 := Lib.hid (P1.out.below hb2); have R2 := Lib.hid (recs_own HM.out ho2); have AP : Hid (∀ z, blk RA2 = some z → z ∉ S ∧ z ∉ D) := Lib.hid (fun z e => ⟨fun hm => (by have h1 := (own_blk ho2 z e).1; have h2 := P1.out.log.lt z hm; omega), fun hm => (by have h1 := (own_blk ho2 z e).1; have h2 := P1.out.doc.lt z hm; omega)⟩); clear ho2))
          go_roundw
          case rel => exact ⟨j + 1, g, S', D', l', by omega, by go_num, rfl, PZ, hlen3⟩
          case measure => simp [intOf]; omega
        · have HX := Lib.hid hx
          have hxn : (x != 0) = true := by simpa using hx0'
          have HXN := Lib.hid hx0'
          have hlen2 := hlen'
          have hlen3 : l.length ≤ j + 1 + 1 := by omega
          clear hx hx0'
          go_wp2_with (first
            | (go_at_call 19; have _q := PS; refine (duo_same PS hlen2).mono ?_; rintro e ws ⟨rfl, hbs⟩; have PZ := Lib.hid (PS.out.below hbs))
            | (go_at_call 9; have _q := P3; refine (duo_rappend_no P3 HG (by omega) RA2 (recsL rl) m rc2 _ x R3 (Lib.hid (fun z e => (AP.out z e).2)) hB3 HM.out (by omega) HSM HX HXN.out).mono ?_; rintro e w4 ⟨rfl, hp4⟩; have PS := Lib.hid hp4; clear hp4)
            | (go_at_call 8; have _q := P2; refine (duo_append_no P2 (by omega) RA2 (recsL rl) m rc2 w2.heap.size x R2 AP (Nat.le_refl _) HM.out (by unfold maxLen; omega) HSM HX HXN.out).mono ?_; rintro e w3 ⟨rfl, hr3, hB3, hp3⟩; have P3 := Lib.hid hp3; have R3 := Lib.hid hr3; clear hp3 hr3)
            | (go_at_call 7; refine (records_any RA rl rn rc w.heap.size _ (Lib.hid (HRR.out.below P1.out.log.old)) P1.out.log.old.size HRN.out hrm hrc HRS).mono ?_; rintro e w2 ⟨RA2, rc2, rfl, ho2, hb2⟩; rw [HM.out] at ho2 ⊢; have P2 := Lib.hid (P1.out.below hb2); have R2 := Lib.hid (recs_own HM.out ho2); have AP : Hid (∀ z, blk RA2 = some z → z ∉ S ∧ z ∉ D) := Lib.hid (fun z e => ⟨fun hm => (by have h1 := (own_blk ho2 z e).1; have h2 := P1.out.log.lt z hm; omega), fun hm => (by have h1 := (own_blk ho2 z e).1; have h2 := P1.out.doc.lt z hm; omega)⟩); clear ho2))
          go_roundw
          case rel => exact ⟨j + 1, g, S, D, l, by omega, by go_num, rfl, PZ, hlen3⟩
          case measure => simp [intOf]; omega
      have u0 : (kd == 0) = false := by simpa using hk0
      clear hk0
      by_cases hk1 : kd = 1
      · subst hk1
        obtain ⟨x, hx⟩ : ∃ x, readE l fr = x := ⟨_, rfl⟩
        obtain ⟨MX, hMX⟩ : ∃ MX, readX l fr nn = MX := ⟨_, rfl⟩
        obtain ⟨mr, hmr⟩ : ∃ mr, MX.length = mr := ⟨_, rfl⟩
        have hmr6 : mr ≤ 64000 := by rw [← hmr, ← hMX]; exact readX_len HG.out hlen' fr nn
        have HX := Lib.hid hx
        have HMX := Lib.hid hMX
        have HMR := Lib.hid hmr
        have hlen2 := hlen'
        have hlen3 : l.length ≤ j + 1 + 1 := by omega
        clear hx hMX hmr
        go_wp2_with (first
          | (go_at_call 12; have _q := P3; refine (found6_same A2 A3 MX mr c2 c3 _ _ (Lib.hid (reads_own HMR.out O23.out)) (Lib.hid (reads_own HMR.out O3.out)) (Nat.le_refl _) HMR.out (by unfold maxLen; omega)).mono ?_; rintro e w4 ⟨rfl, hb4⟩; have P4 := Lib.hid (P3.out.below hb4); have O4 := Lib.hid (own_below O23.out hb4))
          | (go_at_call 11; have _q := P2; refine (duo_rreadx P2 HG hlen' fr nn x MX mr HX HMX HMR.out).mono ?_; rintro e w3 ⟨A3, c3, rfl, ho3, hb3⟩; have P3 := Lib.hid (P2.out.below hb3); have O3 := Lib.hid ho3; have O23 := Lib.hid (own_below O2.out hb3); clear ho3)
          | (go_at_call 10; have _q := P1; refine (duo_readx P1 hlen' fr nn x MX mr hnn HX HMX HMR.out).mono ?_; rintro e w2 ⟨A2, c2, rfl, ho2, hb2⟩; have P2 := Lib.hid (P1.out.below hb2); have O2 := Lib.hid ho2; have q1 := (hb2.cell (p := ⟨wr.heap.size, 1, none⟩) (by simp)); have q2 := (hb2.cell (p := ⟨wr.heap.size, 2, none⟩) (by simp)); simp at q1 q2; clear ho2))
        clear q1 q2
        go_loopw [21] (fun i wi => ∃ (t : Nat) (xs : List Value), t ≤ mr ∧ i = .int .i64 t ∧ Hid (wi.ownsRow (wr.heap.size + 1) 43 5 (.slice A2 mr c2) mr xs) ∧ Hid (Duo w wi rm g k l l S D)) (fun i _ => mr - (intOf i).toNat)
        case atStart => exact ⟨0, _, by omega, rfl, (by simpa using O4), P4⟩
        case round =>
          obtain ⟨t, xs, ht, rfl, hown, HPI⟩ := hrel
          by_cases htl : t < mr
          · obtain ⟨ab, ac, hv, hab, _⟩ := hown.out.form (by omega)
            injection hv with e1 e2 e3
            subst e1 e3
            obtain ⟨⟨u, hu⟩, hf⟩ := own_turn hown.out htl
            have HST := Lib.hid (hown.out.stored (t * 5) (.int .i64 99)).1
            have HP2 : Hid (Duo w (wr.setCell ⟨ab, t * 5, none⟩ (.int .i64 99)) rm g k l l S D) := Lib.hid (duo_set HPI.out (fun z hz => by have := HSW.out z hz; omega) (fun z hz => by have := HDW.out z hz; omega) (Nat.le_trans HWW.out (by omega)))
            have t0 : (0 : Int) ≤ (t : Int) := by omega
            have t1 : (t : Int) < (mr : Int) := by omega
            have hac := own_cap hown.out
            go_wp2_with fail
            go_roundw
            case rel => exact ⟨t + 1, _, by omega, by go_num, HST, HP2⟩
            case measure => simp [intOf]; omega
          · have PS := HPI
            have t1 : ¬ (t : Int) < (mr : Int) := by omega
            clear htl
            go_wp2_with (go_at_call 19; have _q := PS; refine (duo_same PS hlen2).mono ?_; rintro e ws ⟨rfl, hbs⟩; have PZ := Lib.hid (PS.out.below hbs))
            go_roundw
            case rel => exact ⟨j + 1, g, S, D, l, by omega, by go_num, rfl, PZ, hlen3⟩
            case measure => simp [intOf]; omega
      have u1 : (kd == 1) = false := by simpa using hk1
      clear hk1
      by_cases hk2 : kd = 2
      · subst hk2
        obtain ⟨d, hd⟩ : ∃ d, retainN l fr = d := ⟨_, rfl⟩
        have hdl : d < l.length := by rw [← hd]; exact retain_lt fr HG.out.ne
        have HD := Lib.hid hd
        have hlen2 : (l.drop d).length ≤ 1000 := by rw [List.length_drop]; omega
        have hlen3 : (l.drop d).length ≤ j + 1 + 1 := by rw [List.length_drop]; omega
        have HL0 := Lib.hid HG.out.ne
        clear hd hdl
        go_wp2_with (first
          | (go_at_call 19; have _q := PS; refine (duo_same PS hlen2).mono ?_; rintro e ws ⟨rfl, hbs⟩; have PZ := Lib.hid (PS.out.below hbs))
          | (go_at_call 14; have _q := P2; refine (duo_rretain P2 HL0.out hlen' fr d HD).mono ?_; rintro e w3 ⟨rfl, D', hp3⟩; have PS := Lib.hid hp3; clear hp3)
          | (go_at_call 13; have _q := P1; refine (duo_retain' P1 hlen' fr d HD).mono ?_; rintro e w2 ⟨rfl, S', hp2, ho2⟩; have P2 := Lib.hid hp2; have q1 := ho2.cell (p := ⟨wr.heap.size, 1, none⟩) HB1.out (fun e => by have := HSW.out _ e; simp at this); clear hp2 ho2))
        go_roundw
        case rel => exact ⟨j + 1, g, S', D', l.drop d, by omega, by go_num, rfl, PZ, hlen3⟩
        case measure => simp [intOf]; omega
      have u2 : (kd == 2) = false := by simpa using hk2
      clear hk2
      by_cases hk3 : kd = 3
      · subst hk3
        obtain ⟨l', hl'⟩ : ∃ l', (comp l).1 = l' := ⟨_, rfl⟩
        obtain ⟨y, hy⟩ : ∃ y, (comp l).2.2 = y := ⟨_, rfl⟩
        have hlk := comp_len l
        rw [hl'] at hlk
        have HC := Lib.hid hl'
        have HY := Lib.hid hy
        have hlen2 : l'.length ≤ 1000 := by rw [hlk]; omega
        have hlen3 : l'.length ≤ j + 1 + 1 := by rw [hlk]; omega
        clear hl' hy hlk
        go_wp2_with (first
          | (go_at_call 19; have _q := PS; refine (duo_same PS hlen2).mono ?_; rintro e ws ⟨rfl, hbs⟩; have PZ := Lib.hid (PS.out.below hbs))
          | (go_at_call 16; have _q := P2; refine (duo_rcompact P2 HG hlen' l' y HC HY).mono ?_; rintro e w3 ⟨rfl, D', hp3⟩; have PS := Lib.hid hp3; clear hp3)
          | (go_at_call 15; have _q := P1; refine (duo_compact P1 hlen' l' y HC HY).mono ?_; rintro e w2 ⟨rfl, S', hp2⟩; have P2 := Lib.hid hp2; clear hp2))
        go_roundw
        case rel => exact ⟨j + 1, g, S', D', l', by omega, by go_num, rfl, PZ, hlen3⟩
        case measure => simp [intOf]; omega
      have u3 : (kd == 3) = false := by simpa using hk3
      clear hk3
      by_cases hk4 : kd = 4
      · subst hk4
        have hlen2 := hlen'
        have hlen3 : l.length ≤ j + 1 + 1 := by omega
        go_wp2_with (first
          | (go_at_call 19; have _q := PS; refine (duo_same PS hlen2).mono ?_; rintro e ws ⟨rfl, hbs⟩; have PZ := Lib.hid (PS.out.below hbs))
          | (go_at_call 15; have _q := T5; refine (trio_compact T5 hlo5).mono ?_; rintro e w6 ⟨d6, rfl, hp6⟩; have PS := Lib.hid hp6; clear hp6)
          | (go_at_call 13; have _q := T4; refine (trio_retain T4 hlo4 _).mono ?_; rintro e w5 ⟨d5, lo5, So5, rfl, hl5, ht5⟩; have T5 := Lib.hid ht5; have hlo5 : lo5.length ≤ 1000 := (by omega); clear ht5)
          | (go_at_call 8; have _q := T3; refine (trio_append (Lib.hid (T3.out.below (one_box _))) (by omega) (some ⟨w3.heap.size, 0, none⟩) [rkv 120 121] 1 1 (w3.heap.size + 1) (Lib.hid (reads_rows (heap_alloc_new w3 _) rfl)) (Lib.hid (fun z e hm => by have := T3.out.old.lt z hm; have e' : w3.heap.size = z := Option.some.inj e; omega)) (by simp) rfl (by decide) SMV).mono ?_; rintro e w4 ⟨a4, x4, lo4, So4, rfl, hl4, ht4⟩; have T4 := Lib.hid ht4; have hlo4 : lo4.length ≤ 1000 := (by omega); clear ht4)
          | (go_at_call 18; have _q := T2; refine (key_any ⟨#[120]⟩ ⟨#[121]⟩ _).mono ?_; rintro e w3 ⟨rfl, hb3⟩; have T3 := Lib.hid (T2.out.below hb3))
          | (go_at_call 17; have _q := P1; refine (duo_copy P1 hlen').mono ?_; rintro e w2 ⟨g2, S2, rfl, ht2⟩; have T2 := Lib.hid ht2; clear ht2))
        go_roundw
        case rel => exact ⟨j + 1, g2, S2, D, l, by omega, by go_num, rfl, PZ, hlen3⟩
        case measure => simp [intOf]; omega
      have u4 : (kd == 4) = false := by simpa using hk4
      clear hk4
      have hlen2 := hlen'
      have hlen3 : l.length ≤ j + 1 + 1 := by omega
      go_wp2_with (first
        | (go_at_call 19; refine (duo_same P1 hlen2).mono ?_; rintro e ws ⟨rfl, hbs⟩; have PZ := Lib.hid (P1.out.below hbs)))
      go_roundw
      case rel => exact ⟨j + 1, g, S, D, l, by omega, by go_num, rfl, PZ, hlen3⟩
      case measure => simp [intOf]; omega
    · have hd : n ≤ j ∨ (j < n ∧ 30 ≤ j) := by omega
      rcases hd with hd | ⟨hd1, hd2⟩
      · go_wp2_with (go_at_call 20; refine (fixed6_any _).mono ?_; rintro e wz ⟨rfl, hbz⟩)
        go_ret
        exact ⟨rfl, acc HB.out.log.old hbz⟩
      · go_wp2_with (go_at_call 20; refine (fixed6_any _).mono ?_; rintro e wz ⟨rfl, hbz⟩)
        go_ret
        exact ⟨rfl, acc HB.out.log.old hbz⟩

set_option maxRecDepth 100000 in
set_option maxHeartbeats 1000000 in
theorem lifted (os : Os) (started : os.Started) (H : Type) (enc : TypeId × Value → H) :
    ReturnsInHanded {} Try.checked os 3 .any (Rows.plogDoesSpec.pre6 enc Try.prog Try.f3 Rows.plogDoesRow.domain false) (Rows.plogDoesSpec.post enc Try.prog Try.f3 false true false false) := by
  refine returnsInHanded_of_change (C := Try.checked) own started (by kernel_rfl) Try.func3
    (ChangeSpec.witness6 (enc := enc) (C := Try.checked) false ⟨#[], #[.int .i64 0, .slice none 0 0], []⟩ 8 (by kernel_rfl) (by kernel_rfl) (by kernel_rfl) (by kernel_rfl)) ?_
  intro W base args ds gs before hval0 hW _ _
  have hval : ∀ (j : Nat) t v, Try.f3.params[j]? = some t → args[j]? = some v → Value.okWide Try.prog W .any base t v := hval0
  have hW' := hW
  obtain ⟨p, q, hA0, hV, rfl, hfz, hnd⟩ := hW
  have hA : DataW.TrodAll enc Try.prog W 0 (fun _ => true) true Try.f3.params.toList args.toList ds p := hA0
  rw [Try.params3] at hA hval
  obtain ⟨v0, vs0, d0, ds0, p0, q0, hargs, rfl, rfl, h0, r0⟩ := trodAll_cons hA
  obtain ⟨v1, vs1, d1, ds1, p1, q1, rfl, rfl, rfl, h1, r1⟩ := trodAll_cons r0
  obtain ⟨rfl, rfl, rfl⟩ := trodAll_nil r1
  obtain rfl : args = #[v0, v1] := by cases args; simp_all
  obtain ⟨rfl, rfl⟩ := trodVars_none hV
  have k0 := h0
  have lt0 : ∀ x ∈ p0, x.block < W.heap.size := by obtain ⟨m, hm⟩ := k0; exact DataW.trod_lt m _ _ _ hm
  have k1 := h1
  have lt1 : ∀ x ∈ p1, x.block < W.heap.size := by obtain ⟨m, hm⟩ := k1; exact DataW.trod_lt m _ _ _ hm
  obtain ⟨a0, e0, _, _, w0⟩ := open_int Try.underlying3 (hval 0 3 v0 rfl rfl) h0
  subst e0
  obtain ⟨A1, l1, c1, e1, R1⟩ := L6.open_scr (hval 1 22 v1 rfl rfl) h1
  subst e1
  clear hA0 hval0
  refine (walk W a0 w0 A1 l1 c1 R1).mono fun e W' ⟨he, bel⟩ => ?_
  subst he
  exact ⟨_, rfl, _, _, _, [], _, [], hW', trodAll_mk1 (shut_bool Try.underlying4 _), (trodAll_cons_mk (Below.trod laidOut (by kernel_rfl) (of_decide_eq_true (by kernel_rfl)) k0 bel lt0) (trodAll_cons_mk (Below.trod laidOut (by kernel_rfl) (of_decide_eq_true (by kernel_rfl)) k1 bel lt1) trodAll_mk0)), rfl, bel.frame _, fun h => by cases h⟩

theorem over : Rows.plogDoesRow.holds Try.pinned (OpenSpec.ofChange Rows.plogDoesSpec) :=
  OpenClaim.holds_of_wide 3 Try.f3 rfl rfl rfl rfl rfl rfl rfl ⟨rfl, rfl, rfl, rfl, rfl⟩ rfl rfl rfl rfl rfl (by kernel_rfl) Try.func3 (by kernel_rfl)
    (of_decide_eq_true (by kernel_rfl)) (by unfold Func.isWrapper; first | (rw [if_pos (by decide +kernel)]; kernel_rfl) | (rw [if_neg (by decide +kernel)]; exact ⟨rfl, rfl⟩))
    (fun os started H enc _ => lifted os started H enc)

/-- the statement -/
theorem proved : Rows.PlogDoesSaid :=
  over
#print axioms proved
end Go.Proofs.Ytflcggpeflagiaa.plogDoes
