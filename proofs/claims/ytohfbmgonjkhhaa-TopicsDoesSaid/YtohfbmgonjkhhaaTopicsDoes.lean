/-
  Whatever topics are made, grown and dropped, in any order: each answer, and all topics, are as the document says; what is told is its owner's.
-/
import Derived.Test.YtohfbmgonjkhhaaRows
import Derived.WalkKit
import Derived.ProofKit
import Derived.OpenShut
import Derived.ShutString
import Derived.ChangeOld
import Derived.Below
import Derived.Test.YtohfbmgonjkhhaaTpBoth
import Derived.Deep.RegionHeld3
import Derived.Deep.DeepCutAuto
import Derived.Deep.CutBlock
import Derived.Outline
import Derived.LoopTactic
import Derived.IntWalk
namespace Go.Proofs.Ytohfbmgonjkhhaa.topicsDoes
open Go.ChangeShapes Go.WideShapes Go.ChangeAt Go.RowKit Go.Deep
open Go.ChangeMaps (open_string shut_string)
open L3 L4 L9

theorem own : ownKnob Try.prog.godebug = none := by kernel_rfl
theorem laidOut : laidOutB Try.prog = true := by kernel_rfl

theorem mask_le (m : Nat) (hm : m < 9223372036854775808) (x : Int) : 0 ≤ bits .and .i64 x (m : Int) ∧ bits .and .i64 x (m : Int) ≤ m := by
  have e : (BitVec.ofInt 64 x &&& BitVec.ofInt 64 (m : Int)).toNat ≤ m := by
    rw [BitVec.toNat_and]
    refine Nat.le_trans Nat.and_le_right ?_
    rw [BitVec.ofInt_natCast, BitVec.toNat_ofNat, Nat.mod_eq_of_lt (by omega)]
    exact Nat.le_refl _
  show 0 ≤ IntKind.i64.wrap ((BitVec.ofInt 64 x &&& BitVec.ofInt 64 (m : Int)).toNat : Int) ∧ IntKind.i64.wrap ((BitVec.ofInt 64 x &&& BitVec.ofInt 64 (m : Int)).toNat : Int) ≤ m
  rw [IntWalk.i64_in _ (by omega)]
  omega
/-- what lies between two rounds: names -/
structure NL (W wr : World) (ns : List ByteArray) (A : Option Addr) (i c : Nat) : Prop where
  row : wr.ownsRow W.heap.size 9 1 (.slice A i c) i (texts ns)
  len : ns.length = i
  bel : Below W.heap.size W wr
theorem st_new {W w1 : World} {g b : Nat} (h : LC W w1 g b 0 []) : ST W (w1.alloc (.cells #[.slice none 0 0] 29)) g b 0 w1.heap.size none 0 [] [] :=
  ⟨h.below (one_box' _), ⟨heap_alloc_new _ _, ⟨rfl, .inl ⟨rfl, rfl⟩⟩⟩, fun _ => rfl, h.bel.size⟩
set_option maxRecDepth 100000 in
set_option maxHeartbeats 16000000 in
theorem walk (W : World) (A0 : Option Addr) (l0 : List L9.Op) (c0 : Nat) (R0 : IsOps W A0 l0) (A1 : Option Addr) (l1 : List ByteArray) (c1 : Nat) (R1 : IsTexts W A1 l1) :
    Calls Try.prog 3 #[.slice A0 l0.length c0, .slice A1 l1.length c1] W fun e w' => e = .returned (.bool true) ∧ Below W.heap.size W w' := by
  have HB0 : Hid (Below W.heap.size W W) := Lib.hid (Below.refl _ _)
  obtain ⟨m, hm⟩ : ∃ m, l0.length = m := ⟨_, rfl⟩
  obtain ⟨ln, hln⟩ : ∃ m, l1.length = m := ⟨_, rfl⟩
  obtain ⟨HT, HSZ, hml⟩ := R0
  obtain ⟨HT1, HS1, hml1⟩ := R1
  rw [hm] at hml
  rw [hln] at hml1
  rw [hm, hln]
  unfold maxLen at hml hml1
  have HL0 := Lib.hid hm
  have HL1 := Lib.hid hln
  obtain ⟨i0, hi0, hz0, hz1, hz2⟩ := info_parts strInfo9
  clear hm hln
  go_enter Try.func3, Try.ntmps3
  go_upto_block 0 with (go_at_call 8; refine (m9_new W W HB0).mono ?_; rintro e w0 ⟨g, bb, rfl, m1, h1, -⟩; have M0 := Lib.hid m1; clear m1 h1)
  obtain ⟨w2, hw2⟩ : ∃ w2, w0.alloc (.cells #[.slice none 0 0] 29) = w2 := ⟨_, rfl⟩
  obtain ⟨k, hk⟩ : ∃ k, w0.heap.size = k := ⟨_, rfl⟩
  have hs2 := st_new M0.out
  rw [hw2, hk] at hs2
  have S2 := Lib.hid hs2
  try rw [hw2]
  try rw [hk]
  have hk2 : w2.heap.size = k + 1 := by rw [← hw2, ← hk]; simp
  clear hs2 hw2 hk M0 HB0
  go_cut [7, 8] from 24 to 41 (fun v7 v8 wc => ∃ (ns : List ByteArray) (A : Option Addr) (n c : Nat), v7 = .slice A n c ∧ n ≤ 12 ∧ Hid (NL w2 wc ns A n c))
  case first =>
    go_wp2_with fail
    go_loopw [7, 8] (fun s p wr => ∃ (i c : Nat) (A : Option Addr), i ≤ ln ∧ i ≤ 12 ∧ p = .int .i64 i ∧ s = .slice A i c ∧ Hid (NL w2 wr ((l1.take i).map cutB) A i c)) (fun _ p _ => 12 - (intOf p).toNat)
    case atStart => exact ⟨0, 0, _, Nat.zero_le _, by omega, rfl, rfl, Lib.hid ⟨by rw [← hk2]; exact World.ownsRow_made w2 #[] 0 (Nat.le_refl _) (by unfold maxLen; omega) rfl, rfl, one_box' _⟩⟩
    case round =>
      obtain ⟨i, c, A, hi, hi12, rfl, rfl, HP⟩ := hrel
      by_cases hlt : i < ln ∧ i < 12
      · obtain ⟨h1, h2⟩ := hlt
        obtain ⟨og, oo, rfl, hog, hcs⟩ := HT1.out (by rw [HL1.out]; omega)
        obtain ⟨t, hst⟩ : ∃ y, l1[i]? = some y := ⟨l1[i]'(by rw [HL1.out]; exact h1), List.getElem?_eq_getElem _⟩
        have e0 := hcs i _ hst
        have d0 := ((S2.out.lc.bel.trans (HP.out.bel.mono S2.out.size)).cell (p := ⟨og, oo + i, none⟩) hog).trans e0
        have HTS : Hid (t.size ≤ maxLen) := Lib.hid (HS1.out _ (List.mem_of_getElem? hst))
        obtain ⟨u, hu⟩ : ∃ u, cutB t = u := ⟨_, rfl⟩
        have HU := Lib.hid hu
        have HNX : Hid ((l1.take (i + 1)).map cutB = (l1.take i).map cutB ++ [u]) := Lib.hid (by rw [List.take_add_one, hst, List.map_append, ← hu]; rfl)
        have HSZ2 := Lib.hid HP.out.bel.size
        have HROW := Lib.hid HP.out.row
        have p0 : (0 : Int) ≤ (i : Int) := by omega
        have p1 : (i : Int) < (ln : Int) := by omega
        have p2 : (i : Int) < 12 := by omega
        clear hcs hst e0 hu
        go_wp2_with (first
          | (at_builtin; refine wpList_append_own _ rfl _ _ 23 rfl w2.heap.size 9 i0 _ 1 16 Try.underlying23 hi0 hz0 hz1 hz2 rfl (by decide) (.slice A i c) i _ (by rfl) (HROW.out.alloc _) ⟨_, 0, none⟩ 1 1 [.string u] (by rfl) (by rfl) (World.news_of_block (cs := #[.string u]) (t := 9) (fr := (0, 0)) (heap_alloc_new _ _)) (by simp [Value.oneCell']) (by unfold maxLen; omega) (by omega) (by have := HSZ2.out; simp; omega) ?_; intro v4 w4 hown4 hgrow4 _; have HB4 : Hid (Below w2.heap.size w2 w4) := Lib.hid ((HP.out.bel.alloc HSZ2.out _).grown hgrow4 (by have := HSZ2.out; simp; omega) (fun z e => (HROW.out.lt z e).1)); obtain ⟨A4, c4, rfl⟩ := own_len hown4; have HO4 := Lib.hid hown4; clear hown4 hgrow4)
          | (go_at_call 9; refine (cut_is _ t u HTS.out HU).mono ?_; rintro e wz ⟨rfl, hwz⟩; obtain rfl := hwz.symm))
        go_roundw
        case rel => exact ⟨i + 1, c4, A4, by omega, by omega, by go_num, rfl, Lib.hid ⟨by rw [HNX.out]; unfold texts; rw [List.map_append]; exact HO4.out, by rw [HNX.out, List.length_append, HP.out.len]; rfl, HB4.out⟩⟩
        case measure => simp [intOf]; omega
      · have hd : ln ≤ i ∨ (i < ln ∧ 12 ≤ i) := by omega
        rcases hd with hd | ⟨hd1, hd2⟩
        · have p1 : ¬ (i : Int) < (ln : Int) := by omega
          go_wp2_with fail
          go_meet
          exact ⟨_, _, _, _, rfl, hi12, HP⟩
        · have p1 : (i : Int) < (ln : Int) := by omega
          have p2 : ¬ (i : Int) < 12 := by omega
          go_wp2_with fail
          go_meet
          exact ⟨_, _, _, _, rfl, hi12, HP⟩
  case rest =>
    obtain ⟨ns, An, nn, cn, rfl, hn12, HN⟩ := hcut
    have S3 : Hid (ST W wc g bb 0 k none 0 [] []) := Lib.hid (S2.out.below HN.out.bel)
    have HNL := Lib.hid HN.out.len
    have HNR := Lib.hid HN.out.row
    clear HN
    go_wp2_with fail
    go_loopw [5, 9] (fun v5 p wr => ∃ (j g bb N : Nat) (A : Option Addr) (cap : Nat) (Q : List Pt), v5 = .pointer (some ⟨g, 0, none⟩) ∧ j ≤ m ∧ j ≤ 60 ∧ N ≤ j ∧ p = .int .i64 j ∧ Hid (ST W wr g bb N k A cap Q Q) ∧ Hid (wr.ownsRow w2.heap.size 9 1 (.slice An nn cn) nn (texts ns))) (fun _ p _ => 60 - (intOf p).toNat)
    case atStart => exact ⟨0, g, bb, 0, none, 0, [], rfl, Nat.zero_le _, by omega, Nat.zero_le _, rfl, S3, HNR⟩
    case round =>
      clear S3 HNR S2
      obtain ⟨j, g, bb, N, A, cap, Q, rfl, hj, hj60, hNj, rfl, SR, HNR⟩ := hrel
      by_cases hlt : j < m ∧ j < 60
      · obtain ⟨h1, h2⟩ := hlt
        obtain ⟨og, oo, rfl, hog, hcs⟩ := HT.out (by rw [HL0.out]; omega)
        obtain ⟨⟨kd, s, n⟩, hst⟩ : ∃ y : L9.Op, l0[j]? = some y := ⟨l0[j]'(by rw [HL0.out]; exact h1), List.getElem?_eq_getElem _⟩
        obtain ⟨e0, e1, e2⟩ := hcs j _ hst
        dsimp only at e0 e1 e2
        have d0 := (SR.out.lc.bel.cell (p := ⟨og, oo + j * 3, none⟩) hog).trans e0
        have d1 := (SR.out.lc.bel.cell (p := ⟨og, oo + j * 3 + 1, none⟩) hog).trans e1
        have d2 := (SR.out.lc.bel.cell (p := ⟨og, oo + j * 3 + 2, none⟩) hog).trans e2
        have HTS : Hid (s.size ≤ maxLen) := Lib.hid (HSZ.out _ (List.mem_of_getElem? hst))
        obtain ⟨v, hv⟩ : ∃ v, cutB s = v := ⟨_, rfl⟩
        have HV := Lib.hid hv
        have HVS : Hid (v.size ≤ 281474976710656) := Lib.hid (by rw [← hv]; have := cutB_size s; omega)
        have HVM : Hid (v.size ≤ maxLen) := Lib.hid (by rw [← hv]; have := cutB_size s; unfold maxLen; omega)
        have j0 : (0 : Int) ≤ (j : Int) := by omega
        have j1 : (j : Int) < (m : Int) := by omega
        have j2 : (j : Int) < 60 := by omega
        clear hcs hst hv e0 e1 e2
        go_upto_block 4 with (go_at_call 9; refine (cut_is _ s v HTS.out HV).mono ?_; rintro e wz ⟨rfl, hwz⟩; obtain rfl := hwz.symm)
        obtain ⟨W4, hW4⟩ : ∃ W4, wr.alloc (.cells #[.int .i64 kd, .string s, .int .i64 n] 32) = W4 := ⟨_, rfl⟩
        obtain ⟨ob, hob⟩ : ∃ b, wr.heap.size = b := ⟨_, rfl⟩
        have HBX : Hid (W4.heap[ob]? = some (.cells #[.int .i64 kd, .string s, .int .i64 n] 32 (0, 0))) := Lib.hid (by rw [← hW4, ← hob]; exact heap_alloc_new _ _)
        have S4 : Hid (ST W W4 g bb N k A cap Q Q) := Lib.hid (by rw [← hW4]; exact SR.out.below (one_box' _))
        have HN4 : Hid (W4.ownsRow w2.heap.size 9 1 (.slice An nn cn) nn (texts ns)) := Lib.hid (by rw [← hW4]; exact own_below HNR.out (one_box' _))
        have HG := Lib.hid S4.out.lc.good
        rw [hW4, hob]
        clear hW4 hob d0 d1 d2 SR HNR hwz HT HSZ
        have q0 : W4.cell? ⟨ob, 0, none⟩ = some (.int .i64 kd) := (cell_of_row _ _ 0 _ _ _ HBX.out).trans rfl
        have q2 : W4.cell? ⟨ob, 2, none⟩ = some (.int .i64 n) := (cell_of_row _ _ 2 _ _ _ HBX.out).trans rfl
        go_cut [5, 12, 13, 14] from 61 to 104 (fun v5 v12 v13 v14 wc => ∃ (g' bb' N' : Nat) (A' : Option Addr) (cap' : Nat) (Q' : List Pt) (x : Int), v5 = .pointer (some ⟨g', 0, none⟩) ∧ v12 = .int .i64 x ∧ v13 = .int .i64 x ∧ N' ≤ j + 1 ∧ Hid (ST W wc g' bb' N' k A' cap' Q' Q') ∧ Hid (KS W4 wc))
        case first =>
          by_cases k0 : kd = 0
          · subst k0
            go_wp2_with (first
              | (go_at_call 11; have _q := S5; refine (s9_rmake v n (makeE Q v n) (makeQ Q v n) S5 HG HVM.out (Lib.hid rfl) (Lib.hid rfl)).mono ?_; rintro e w6 ⟨rfl, A6, c6, s6, k6⟩; have S6 := Lib.hid s6; have HK := Lib.hid (HK5.out.trans k6))
              | (go_at_call 10; refine (s9_make v n (makeE Q v n) (makeQ Q v n) S4 (by omega) HVS.out (Lib.hid rfl) (Lib.hid rfl)).mono ?_; rintro e w5 ⟨rfl, s5, k5⟩; have S5 := Lib.hid s5; have HK5 := Lib.hid k5; have q2' := (cell_of_row _ _ 2 _ _ _ (k5.2 _ _ _ _ HBX.out (by decide) (by decide))).trans rfl))
            go_meet
            exact ⟨_, _, _, _, _, _, _, rfl, rfl, rfl, by omega, S6, HK⟩
          · have k0' : (kd == 0) = false := by simpa using k0
            by_cases k1 : kd = 1
            · subst k1
              clear k0 k0'
              go_wp2_with (first
                | (go_at_call 13; have _q := S5; refine (s9_rgrow v n (growE Q v n) (growQ Q v n) S5 HG (Lib.hid rfl) (Lib.hid rfl)).mono ?_; rintro e w6 ⟨rfl, A6, c6, s6, k6⟩; have S6 := Lib.hid s6; have HK := Lib.hid (HK5.out.trans k6))
                | (go_at_call 12; refine (s9_grow v n (growE Q v n) (growQ Q v n) S4 (by omega) HVS.out (Lib.hid rfl) (Lib.hid rfl)).mono ?_; rintro e w5 ⟨rfl, s5, k5⟩; have S5 := Lib.hid s5; have HK5 := Lib.hid k5; have q2' := (cell_of_row _ _ 2 _ _ _ (k5.2 _ _ _ _ HBX.out (by decide) (by decide))).trans rfl))
              go_meet
              exact ⟨_, _, _, _, _, _, _, rfl, rfl, rfl, by omega, S6, HK⟩
            · have k1' : (kd == 1) = false := by simpa using k1
              by_cases k2 : kd = 2
              · subst k2
                clear k0 k0' k1 k1'
                go_wp2_with (first
                  | (go_at_call 15; have _q := S5; refine (s9_rdrop v (dropE Q v) (dropQ Q v) S5 HG (Lib.hid rfl) (Lib.hid rfl)).mono ?_; rintro e w6 ⟨rfl, A6, c6, s6, k6⟩; have S6 := Lib.hid s6; have HK := Lib.hid (HK5.out.trans k6))
                  | (go_at_call 14; refine (s9_drop v (dropE Q v) (dropQ Q v) S4 HVM.out (Lib.hid rfl) (Lib.hid rfl)).mono ?_; rintro e w5 ⟨rfl, s5, k5⟩; have S5 := Lib.hid s5; have HK5 := Lib.hid k5; have q2' := (cell_of_row _ _ 2 _ _ _ (k5.2 _ _ _ _ HBX.out (by decide) (by decide))).trans rfl))
                go_meet
                exact ⟨_, _, _, _, _, _, _, rfl, rfl, rfl, by omega, S6, HK⟩
              · have k2' : (kd == 2) = false := by simpa using k2
                by_cases k3 : kd = 3
                · subst k3
                  clear k0 k0' k1 k1' k2 k2'
                  go_wp2_with (first
                    | (go_at_call 10; have _q := S6; refine (s9_was_make ⟨#[111, 116, 104, 101, 114]⟩ 1 S6 C6 HNB.out (by omega) (by decide)).mono ?_; rintro e w7 ⟨rfl, s7, k7⟩; have S7 := Lib.hid s7; have HK := Lib.hid (HK6.out.trans k7))
                    | (go_at_call 14; have _q := S5; refine (s9_was_drop v S5 C5 HNB.out HVM.out).mono ?_; rintro e w6 ⟨rfl, s6, l6, k6⟩; have S6 := Lib.hid s6; have C6 := Lib.hid l6; have HK6 := Lib.hid (HK5.out.trans k6))
                    | (go_at_call 16; refine (s9_copy S4).mono ?_; rintro e w5 ⟨g5, b5, rfl, s5, l5, nb5, k5⟩; have S5 := Lib.hid s5; have C5 := Lib.hid l5; have HNB := Lib.hid nb5; have HK5 := Lib.hid k5))
                  go_meet
                  exact ⟨_, _, _, _, _, _, _, rfl, rfl, rfl, by omega, S7, HK⟩
                · have k3' : (kd == 3) = false := by simpa using k3
                  clear k0 k1 k2 k3
                  go_wp2_with fail
                  go_meet
                  exact ⟨_, _, _, _, _, _, _, rfl, rfl, rfl, by omega, S4, Lib.hid (KS.refl _)⟩
        case rest =>
          obtain ⟨g', bb', N', A', cap', Q', x, rfl, rfl, rfl, hN', S6, HK⟩ := hcut
          have HN6 := Lib.hid (KS.texts HN4.out HK.out)
          have q2' : wc.cell? ⟨ob, 2, none⟩ = some (.int .i64 n) := (cell_of_row _ _ 2 _ _ _ (HK.out.2 _ _ _ _ HBX.out (by decide) (by decide))).trans rfl
          clear q0 q2 HG S4 HN4 HBX HK
          go_upto_region 33 with fail
          obtain ⟨W7, hW7⟩ : ∃ W7, wc.alloc (.cells #[.string v, .int .i64 n] 37) = W7 := ⟨_, rfl⟩
          obtain ⟨pb, hpb⟩ : ∃ b, wc.heap.size = b := ⟨_, rfl⟩
          have HPX : Hid (W7.heap[pb]? = some (.cells #[.string v, .int .i64 n] 37 (0, 0))) := Lib.hid (by rw [← hW7, ← hpb]; exact heap_alloc_new _ _)
          have S7 : Hid (ST W W7 g' bb' N' k A' cap' Q' Q') := Lib.hid (by rw [← hW7]; exact S6.out.below (one_box' _))
          have HN7 : Hid (W7.ownsRow w2.heap.size 9 1 (.slice An nn cn) nn (texts ns)) := Lib.hid (by rw [← hW7]; exact own_below HN6.out (one_box' _))
          rw [hW7, hpb]
          clear hW7 hpb q2' S6 HN6
          go_upto_region 34 with (go_at_call 17; refine (s9_list S7).mono ?_; rintro e w8 ⟨A8, c8, rfl, r8, o8, h8⟩; have R8 := Lib.hid r8; have H8 := Lib.hid h8; have O8 := Lib.hid (sh_own o8); clear r8 o8 h8)
          have S8 := Lib.hid (S7.out.below H8.out)
          have HG8 := Lib.hid S8.out.lc.good
          have HT8 := Lib.hid (own_texts (own_below HN7.out H8.out) HNL.out (own_lt (own_below HN7.out H8.out)))
          obtain ⟨y, hy⟩ : ∃ y, numOf Q' v = y := ⟨_, rfl⟩
          have HY := Lib.hid hy
          obtain ⟨hv, hhv⟩ : ∃ h, hasP Q' v n = h := ⟨_, rfl⟩
          have HHV := Lib.hid hhv
          obtain ⟨P, hP⟩ : ∃ P, partsQ Q' ns = P := ⟨_, rfl⟩
          have HP := Lib.hid hP
          have HPL : Hid (P.length ≤ 64) := Lib.hid (by rw [← hP]; have h1 := parts_len (Q := Q') (fun y hy => (HG8.out.fit y hy).2.2) ns; have h2 := HG8.out.len; omega)
          have hb0 : (hv != hv) = false := by cases hv <;> rfl
          have r0 := S8.out.doc.c0
          have r1 : w8.cell? ⟨pb, 0, none⟩ = some (.string v) := (cell_of_row _ _ 0 _ _ _ ((H8.out.block _ (Array.getElem?_eq_some_iff.1 HPX.out).1).trans HPX.out)).trans rfl
          have r2 : w8.cell? ⟨pb, 1, none⟩ = some (.int .i64 n) := (cell_of_row _ _ 1 _ _ _ ((H8.out.block _ (Array.getElem?_eq_some_iff.1 HPX.out).1).trans HPX.out)).trans rfl
          have hS := And.intro (And.intro r0 (And.intro r1 r2)) (Below.refl w8.heap.size w8)
          clear hy hhv hP
          go_region_held3 (fun w' => (w'.cell? ⟨k, 0, none⟩ = some (.slice A' Q'.length cap') ∧ w'.cell? ⟨pb, 0, none⟩ = some (.string v) ∧ w'.cell? ⟨pb, 1, none⟩ = some (.int .i64 n)) ∧ Below w8.heap.size w8 w')
            (first | assumption | exact keep3 hS (drewB9 _) | exact keep3 (by assumption) (by assumption) | exact keep3 (by assumption) (drewB9 _))
            (first
              | (go_at_call 23; refine (s9_alike P A24 A25 c24 c25 (by have := HPL.out; omega) R24b R25).mono ?_; rintro e w26 ⟨rfl, hb26⟩)
              | (go_at_call 25; refine (s9_rparts ns P nn cn An (Lib.hid (S8.out.below B24.out)) HG8 (Lib.hid ((HT8.out.below B24.out).mono B24.out.size)) HNL (by omega) HP).mono ?_; rintro e w25 ⟨A25, c25, rfl, r25, hb25⟩; have R25 := Lib.hid r25; have R24b := Lib.hid (reads_keep R24.out (KeepC.below hb25) hb25.size); have B25 : Hid (Below w8.heap.size w8 w25) := Lib.hid (B24.out.trans (hb25.mono B24.out.size)))
              | (go_at_call 24; refine (s9_parts ns P nn cn An (Lib.hid (S8.out.below B23.out)) (Lib.hid ((HT8.out.below B23.out).mono B23.out.size)) HNL (by omega) HP).mono ?_; rintro e w24 ⟨A24, c24, rfl, r24, hb24⟩; have R24 := Lib.hid r24; have B24 : Hid (Below w8.heap.size w8 w24) := Lib.hid (B23.out.trans (hb24.mono B23.out.size)))
              | (go_at_call 22; refine (rhas_is v n hv (Lib.hid (S8.out.below B22.out).doc) rfl (by have := HG8.out.len; omega) (Lib.hid HG8.out.rise) HHV).mono ?_; rintro e w23 ⟨rfl, hb23⟩; have B23 : Hid (Below w8.heap.size w8 w23) := Lib.hid (B22.out.trans (hb23.mono B22.out.size)))
              | (go_at_call 21; refine (m9_has v n hv (Lib.hid (S8.out.below B21.out).lc) HVM.out HHV).mono ?_; rintro e w22 ⟨rfl, hb22⟩; have B22 : Hid (Below w8.heap.size w8 w22) := Lib.hid (B21.out.trans (hb22.mono B21.out.size)))
              | (go_at_call 20; refine (rn_is v y (Lib.hid (S8.out.below B21.out).doc) rfl (by have := HG8.out.len; omega) (Lib.hid HG8.out.rise) HY).mono ?_; rintro e wz ⟨rfl, hwz⟩; obtain rfl := hwz.symm)
              | (go_at_call 19; refine (m9_n v y (Lib.hid (S8.out.below B21.out).lc) HVM.out HY).mono ?_; rintro e wz ⟨rfl, hwz⟩; obtain rfl := hwz.symm)
              | (go_at_call 18; refine (s9_same Q' A8 A' c8 cap' (by have := HG8.out.len; omega) (Lib.hid ((R8.out.below (drewB9 _)).mono (drewB9 _).size)) (Lib.hid ((S8.out.doc.reads.below (drewB9 _)).mono (drewB9 _).size))).mono ?_; rintro e w21 ⟨rfl, hb21⟩; have B21 : Hid (Below w8.heap.size w8 w21) := Lib.hid ((drewB9 _).trans (hb21.mono (drewB9 _).size))))
          all_goals
            rename_i hh
            have HBN := Lib.hid hh.2
            clear hh hS r0 r1 r2
            go_wp2_with fail
            go_loopw [17] (fun p wr => ∃ i : Nat, i ≤ Q'.length ∧ p = .int .i64 i ∧ Hid (Below W7.heap.size W7 wr) ∧ Hid (SH wr W7.heap.size A8 Q'.length)) (fun p _ => Q'.length - (intOf p).toNat)
            case atStart => exact ⟨0, Nat.zero_le _, rfl, Lib.hid (H8.out.trans (HBN.out.mono H8.out.size)), Lib.hid (O8.out.below HBN.out)⟩
            case round =>
              obtain ⟨i, hi, rfl, HW, HS⟩ := hrel
              by_cases hil : i < Q'.length
              · obtain ⟨gl, _, rfl, _⟩ := HS.out (by omega)
                obtain ⟨hgl, hfr, z, hz⟩ := HS.out.cell hil
                have HZ := Lib.hid hgl
                have hq8 : Q'.length ≤ 8 := HG8.out.len
                have i1 : (0 : Int) ≤ (i : Int) := by omega
                have i2 : (i : Int) < (Q'.length : Int) := by omega
                clear hgl
                go_wp2_with fail
                go_roundw
                case rel => exact ⟨i + 1, by omega, by go_num, Lib.hid (HW.out.setCell (p := ⟨gl, i * 2 + 1, none⟩) HZ.out _), Lib.hid (HS.out.set _ _)⟩
                case measure => simp [intOf]; omega
              · have i2 : ¬ (i : Int) < (Q'.length : Int) := by omega
                go_wp2_with fail
                go_roundw
                case rel => exact ⟨j + 1, g', bb', N', A', cap', Q', rfl, by omega, by omega, hN', by go_num, Lib.hid (S7.out.below HW.out), Lib.hid (own_below HN7.out HW.out)⟩
                case measure => simp [intOf]; omega
      · have hd : m ≤ j ∨ (j < m ∧ 60 ≤ j) := by omega
        rcases hd with hd | ⟨hd1, hd2⟩
        · have j1 : ¬ (j : Int) < (m : Int) := by omega
          go_wp2_with (go_at_call 26; have _q := SR; refine (fixed9_any _).mono ?_; rintro e w20 ⟨rfl, h20⟩)
          go_ret
          exact ⟨rfl, (SR.out.below h20).lc.bel⟩
        · have j1 : (j : Int) < (m : Int) := by omega
          have j2 : ¬ (j : Int) < 60 := by omega
          go_wp2_with (go_at_call 26; have _q := SR; refine (fixed9_any _).mono ?_; rintro e w20 ⟨rfl, h20⟩)
          go_ret
          exact ⟨rfl, (SR.out.below h20).lc.bel⟩

set_option maxRecDepth 100000 in
set_option maxHeartbeats 1000000 in
theorem lifted (os : Os) (started : os.Started) (H : Type) (enc : TypeId × Value → H) :
    ReturnsInHanded {} Try.checked os 3 .any (Rows.topicsDoesSpec.pre6 enc Try.prog Try.f3 Rows.topicsDoesRow.domain false) (Rows.topicsDoesSpec.post enc Try.prog Try.f3 false true false false) := by
  refine returnsInHanded_of_change (C := Try.checked) own started (by kernel_rfl) Try.func3
    (ChangeSpec.witness6 (enc := enc) (C := Try.checked) false ⟨#[], #[.slice none 0 0, .slice none 0 0], []⟩ 8 (by kernel_rfl) (by kernel_rfl) (by kernel_rfl) (by kernel_rfl)) ?_
  intro W base args ds gs before hval0 hW _ _
  have hval : ∀ (j : Nat) t v, Try.f3.params[j]? = some t → args[j]? = some v → Value.okWide Try.prog W .any base t v := hval0
  have hW' := hW
  obtain ⟨p, q, hA0, hV, rfl, hfz, hnd⟩ := hW
  have hA : DataW.TrodAll enc Try.prog W 0 (fun _ => true) true Try.f3.params.toList args.toList ds p := hA0
  rw [Try.params3] at hA hval
  obtain ⟨v0, vs0, d0, ds0, p0, q0, hargs, rfl, rfl, h0, r0⟩ := trodAll_cons hA
  obtain ⟨v1, vs1, d1, ds1, p1, q1, rfl, rfl, rfl, h1, r1⟩ := trodAll_cons r0
  obtain ⟨rfl, rfl, rfl⟩ := trodAll_nil r1
  obtain rfl : args = #[v0, v1] := by cases args; simp_all
  obtain ⟨rfl, rfl⟩ := trodVars_none hV
  have k0 := h0
  have lt0 : ∀ x ∈ p0, x.block < W.heap.size := by obtain ⟨m, hm⟩ := k0; exact DataW.trod_lt m _ _ _ hm
  have k1 := h1
  have lt1 : ∀ x ∈ p1, x.block < W.heap.size := by obtain ⟨m, hm⟩ := k1; exact DataW.trod_lt m _ _ _ hm
  obtain ⟨A0, l0, c0, e0, R0⟩ := L9.open_ops (hval 0 22 v0 rfl rfl) h0
  subst e0
  obtain ⟨A1, l1, c1, e1, R1⟩ := L9.open_texts (hval 1 23 v1 rfl rfl) h1
  subst e1
  clear hA0 hval0
  refine (walk W A0 l0 c0 R0 A1 l1 c1 R1).mono fun e W' ⟨he, bel⟩ => ?_
  subst he
  exact ⟨_, rfl, _, _, _, [], _, [], hW', trodAll_mk1 (shut_bool Try.underlying4 _), (trodAll_cons_mk (Below.trod laidOut (by kernel_rfl) (of_decide_eq_true (by kernel_rfl)) k0 bel lt0) (trodAll_cons_mk (Below.trod laidOut (by kernel_rfl) (of_decide_eq_true (by kernel_rfl)) k1 bel lt1) trodAll_mk0)), rfl, bel.frame _, fun h => by cases h⟩

theorem over : Rows.topicsDoesRow.holds Try.pinned (OpenSpec.ofChange Rows.topicsDoesSpec) :=
  OpenClaim.holds_of_wide 3 Try.f3 rfl rfl rfl rfl rfl rfl rfl ⟨rfl, rfl, rfl, rfl, rfl⟩ rfl rfl rfl rfl rfl (by kernel_rfl) Try.func3 (by kernel_rfl)
    (of_decide_eq_true (by kernel_rfl)) (by unfold Func.isWrapper; first | (rw [if_pos (by decide +kernel)]; kernel_rfl) | (rw [if_neg (by decide +kernel)]; exact ⟨rfl, rfl⟩))
    (fun os started H enc _ => lifted os started H enc)

/-- the statement -/
theorem proved : Rows.TopicsDoesSaid :=
  over
#print axioms proved
end Go.Proofs.Ytohfbmgonjkhhaa.topicsDoes
