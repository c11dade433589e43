/-
  Whatever chunks are taken, in any order (at most 60, of at most 8, each cut): each answer, which ones are missing, and the whole, are what the document says; a copy goes its own way, and what is told is its owner's. No condition.
-/
import Derived.Test.YtlemcijgjebekaaRows
import Derived.WalkKit
import Derived.ProofKit
import Derived.OpenShut
import Derived.ShutString
import Derived.ChangeOld
import Derived.Below
import Derived.Test.YtlemcijgjebekaaMRcJoin2
import Derived.Test.YtlemcijgjebekaaChOpenC
import Derived.Test.YtlemcijgjebekaaMChFix
import Derived.Deep.DeepCutAuto
import Derived.Deep.RegionHeld3
namespace Go.Proofs.Ytlemcijgjebekaa.chunksJoins
open Go.ChangeShapes Go.WideShapes Go.ChangeAt Go.RowKit Go.Deep
open Go.ChangeMaps (open_string shut_string)
open L3 L4 L5 L7

theorem own : ownKnob Try.prog.godebug = none := by kernel_rfl
theorem laidOut : laidOutB Try.prog = true := by kernel_rfl

theorem mask_le (m : Nat) (hm : m < 9223372036854775808) (x : Int) : 0 ≤ bits .and .i64 x (m : Int) ∧ bits .and .i64 x (m : Int) ≤ m := by
  have e : (BitVec.ofInt 64 x &&& BitVec.ofInt 64 (m : Int)).toNat ≤ m := by
    rw [BitVec.toNat_and]
    refine Nat.le_trans Nat.and_le_right ?_
    rw [BitVec.ofInt_natCast, BitVec.toNat_ofNat, Nat.mod_eq_of_lt (by omega)]
    exact Nat.le_refl _
  show 0 ≤ IntKind.i64.wrap ((BitVec.ofInt 64 x &&& BitVec.ofInt 64 (m : Int)).toNat : Int) ∧ IntKind.i64.wrap ((BitVec.ofInt 64 x &&& BitVec.ofInt 64 (m : Int)).toNat : Int) ≤ m
  rw [IntWalk.i64_in _ (by omega)]
  omega

theorem keepc {w w' : World} {p : Addr} {v : Value} (h : w.cell? p = some v) (b : Below w.heap.size w w') : w'.cell? p = some v := (b.cell (p := p) (World.block_lt_of_cell? _ _ h)).trans h
set_option maxRecDepth 100000 in
set_option maxHeartbeats 16000000 in
theorem walk (w : World) (a0' : Int) (w0 : (Lit.int .u64 a0').wf = true) (A1 : Option Addr) (l1 : List Ck) (c1 : Nat) (R1 : IsCks w A1 l1) (a2 : Int) (_w2 : (Lit.int .i64 a2).wf = true) :
    Calls Try.prog 10 #[.int .u64 a0', .slice A1 l1.length c1, .int .i64 a2] w fun e w' => e = .returned (.bool true) ∧ Below w.heap.size w w' := by
  have h00 : 0 ≤ a0' ∧ a0' < 18446744073709551616 := by have := w0; simp [Lit.wf, IntKind.min, IntKind.max, IntKind.bits, IntKind.signed] at this; omega
  obtain ⟨a0, rfl⟩ : ∃ d : Nat, a0' = (d : Int) := ⟨a0'.toNat, by omega⟩
  obtain ⟨n1, hn1⟩ : ∃ n, l1.length = n := ⟨_, rfl⟩
  have hn1m : n1 ≤ 9223372036854775807 := by have := R1.2.2; unfold maxLen at this; omega
  have HN1 := Lib.hid hn1
  rw [hn1]
  have HC1 := R1.1
  have HS1 := R1.2.1
  clear hn1 R1 w0 h00
  go_enter Try.func10, Try.ntmps10
  go_wp2_with (go_at_call 50; refine (new_any a0 _).mono ?_; rintro e w1 ⟨g, bm, rfl, hj1, hg1, hm1, hb1⟩)
  have X0 : Hid (QX w (w1.alloc (.cells #[.int .u64 a0, .slice none 0 0] 85)) g bm w1.heap.size a0 none 0 0 [] [] 0) := Lib.hid (by
    have lg := hj1.lt
    have lb := hj1.has.lt
    exact ⟨hj1.below (one_box _), ⟨heap_alloc_new w1 _, ⟨0, World.ownsRow_nil _ _ _ _⟩, rfl, by simp [blk]⟩, rel_nil, hb1.alloc hb1.size _, hg1, hm1, hb1.size, by omega, by omega, fun k e => (by cases e), Nat.le_refl _, ⟨by simp, by simp⟩⟩)
  obtain ⟨g2, hg2⟩ : ∃ g2, w1.heap.size = g2 := ⟨_, rfl⟩
  rw [hg2] at X0 ⊢
  clear hj1 hg1 hm1
  go_loopw [7, 9] (fun jv iv wr => ∃ (i g bm n c : Nat) (A : Option Addr) (m : Js) (L : List Ck), i ≤ 60 ∧ iv = .int .i64 i ∧ jv = .pointer (some ⟨g, 0, none⟩) ∧ Hid (QX w wr g bm g2 a0 A n c m L i)) (fun _ iv _ => 60 - (intOf iv).toNat)
  case atStart => exact ⟨0, g, bm, 0, 0, none, [], [], by omega, rfl, rfl, X0⟩
  case round =>
    obtain ⟨i, g, bm, n, c, A, m, L, hi, rfl, rfl, HX⟩ := hrel
    clear X0 hb1 hg2
    have i0 : (0 : Int) ≤ (i : Int) := by omega
    by_cases hgo : i < n1 ∧ i < 60
    · obtain ⟨hgo1, hgo2⟩ := hgo
      have i1 : (i : Int) < (n1 : Int) := by omega
      have i2 : (i : Int) < 60 := by omega
      obtain ⟨⟨ci, cn, cd, cb⟩, hc⟩ : ∃ x, l1[i]? = some x := ⟨_, List.getElem?_eq_getElem (by rw [HN1.out]; exact hgo1)⟩
      obtain ⟨gl, go, rfl, hgl, hcell⟩ := HC1.out (by rw [HN1.out]; omega)
      obtain ⟨e0, e1, e2, e3⟩ := hcell i _ hc
      have hck := HS1.out _ (List.mem_of_getElem? hc)
      dsimp only at e0 e1 e2 e3
      have f0 := (HX.out.b.cell (p := ⟨gl, go + i * 4, none⟩) hgl).trans e0
      have f1 := (HX.out.b.cell (p := ⟨gl, go + i * 4 + 1, none⟩) hgl).trans e1
      have f2 := (HX.out.b.cell (p := ⟨gl, go + i * 4 + 2, none⟩) hgl).trans e2
      have f3 := (HX.out.b.cell (p := ⟨gl, go + i * 4 + 3, none⟩) hgl).trans e3
      have zcb : cb.size ≤ 9223372036854775807 := by have := hck.2; unfold maxLen at this; exact this
      obtain ⟨b, hb⟩ : ∃ b, cb.extract 0 (min (cb.size : Int) 100).toNat = b := ⟨_, rfl⟩
      have hbz : b.size ≤ 100 := by rw [← hb, ByteArray.size_extract]; omega
      obtain ⟨y0, y1⟩ := mask_le 7 (by decide) cn
      obtain ⟨nn, hnn⟩ : ∃ nn : Int, bits .and .i64 cn 7 = nn := ⟨_, rfl⟩
      rw [show ((7 : Nat) : Int) = 7 from rfl, hnn] at y0 y1
      obtain ⟨nk, hnk⟩ : ∃ nk : Int, 1 + nn = nk := ⟨_, rfl⟩
      have hnk8 : nk ≤ 8 := by omega
      obtain ⟨E, m2, htm⟩ : ∃ E m2, takeM a0 m ⟨ci, nk, cd, b⟩ = (E, m2) := ⟨_, _, rfl⟩
      have HTM := Lib.hid htm
      have HSM : Hid (Small m2) := Lib.hid (HX.out.sm.take htm hbz hnk8)
      have HLT : Hid (g < wr.heap.size ∧ bm < wr.heap.size) := Lib.hid ⟨HX.out.j.lt, HX.out.j.has.lt⟩
      have X1 : Hid (QX w (wr.alloc (.cells #[.int .i64 ci, .int .i64 nk, .int .u64 cd, .string b] 71)) g bm g2 a0 A n c m L i) := Lib.hid (HX.out.below (one_box _))
      have EE : (E != E) = false := by simp
      clear e0 e1 e2 e3 hcell hc hck htm
      go_upto_if 63 with (first
        | (go_at_call 52; have _q := hl3; refine (rtake_is w3 g2 a0 A n c L m m2 ci nk cd b E (Lib.hid (X1.out.k1 hl3)) (Lib.hid X1.out.r) (by have := X1.out.hn; omega) HTM).mono ?_; rintro e w4 ⟨rfl, hr4⟩)
        | (go_at_call 51; refine (ctake_is _ g bm a0 m m2 ci nk cd b E (Lib.hid X1.out.j) HTM).mono ?_; rintro e w3 ⟨rfl, hj3, hl3⟩; obtain ⟨x0, x1, x2, x3, _, _, _, _⟩ := row_facts ((hl3.block wr.heap.size (by simp) (by have := HLT.out; simp; omega)).trans (heap_alloc_new wr _))))
      obtain ⟨A4, n4, c4, L4', hx4⟩ := QX.took (E := E) X1.out hj3 hl3 HSM.out ⟨rfl, hr4⟩
      have X4 := Lib.hid hx4
      clear hx4 hr4 hj3 hl3 x0 x1 x2 x3 f0 f1 f2 f3 hb hnn hnk
      go_cut [7, 12] (fun jv wv wc => CutP w wc jv g2 a0 A4 n4 c4 m2 L4' (i + 1))
      case first =>
        obtain ⟨E6, m6, ht6⟩ : ∃ E m6, takeM a0 m2 ⟨0, 1, a0, ⟨#[111, 116, 104, 101, 114]⟩⟩ = (E, m6) := ⟨_, _, rfl⟩
        have hs6 := HSM.out.take ht6 (by show (⟨#[111, 116, 104, 101, 114]⟩ : ByteArray).size ≤ 100; decide) (by show (1 : Int) ≤ 8; decide)
        obtain ⟨⟨s7, q7⟩, m7, hw7⟩ : ∃ a m7, wholeM a0 m6 = (a, m7) := ⟨_, _, rfl⟩
        have H6 := Lib.hid ht6
        have S6 := Lib.hid hs6
        have H7 := Lib.hid hw7
        clear ht6 hs6 hw7
        go_wp2_with (first
          | (go_at_call 54; have _q := hl6; refine (cwhole_is w6 g bm a0 m6 m7 s7 q7 (Lib.hid hj6) (by have := S6.out.1; omega) (Lib.hid S6.out.joins) H7).mono ?_; rintro e w7 ⟨rfl, hj7, hl7⟩)
          | (go_at_call 51; have _q := hb5; refine (ctake_is w5 g bm a0 m2 m6 0 1 a0 ⟨#[111, 116, 104, 101, 114]⟩ E6 (Lib.hid (X4.out.j.below hb5)) H6).mono ?_; rintro e w6 ⟨rfl, hj6, hl6⟩)
          | (go_at_call 53; refine (ccopy_is w4 g bm a0 m2 (Lib.hid X4.out.j)).mono ?_; rintro e w5 ⟨g5, bm5, rfl, hj5, hg5, hm5, hb5⟩))
        all_goals go_meet
        all_goals first
          | exact ⟨_, _, rfl, X4.out.copied hb5 hj5 hg5 hm5 hl6 hl7⟩
          | exact ⟨_, _, rfl, X4.out⟩
      case rest =>
        obtain ⟨g5, bm5, rfl, hx5⟩ := hcut
        have X5 := Lib.hid hx5
        clear hx5 X4 X1 HLT HX
        obtain ⟨q, hq⟩ : ∃ q, (missing m2).length = q := ⟨_, rfl⟩
        have hq2 : q ≤ 8 := by have h1 := missing_len m2; have h2 := HSM.out.1; omega
        have HQ := Lib.hid hq
        clear hq
        obtain ⟨⟨s9, q9⟩, m9, hw9⟩ : ∃ a m9, wholeM a0 m2 = (a, m9) := ⟨_, _, rfl⟩
        have HS9 : Hid (Small m9) := Lib.hid (HSM.out.whole hw9)
        have HW9 := Lib.hid hw9
        have SS : (s9.toList == s9.toList) = true := by simp
        have QQ : (q9 != q9) = false := by simp
        clear hw9
        go_wp2_with (first
          | (go_at_call 56; refine (same_q (Lib.hid (ownq_below O6.out hb7)) P7 HQ.out (by omega)).mono ?_; rintro e w8 ⟨rfl, hb8⟩; have hx8 := hb7.trans (hb8.mono hb7.size); have B8 := Lib.hid (hb6.trans (hx8.mono hb6.size)); have O8 := Lib.hid ((O6.out.row N6.out).below hx8))
          | (go_at_call 57; have _q := X6; refine (rmiss_q X6 HQ (by omega)).mono ?_; rintro e w7 ⟨A7, c7, rfl, hp7, hb7⟩; have P7 := Lib.hid hp7; clear hp7)
          | (go_at_call 55; refine (miss_q X5 HQ).mono ?_; rintro e w6 ⟨A6, c6, rfl, ho6, hn6, hb6⟩; have X6 := Lib.hid (X5.out.below hb6); have O6 := Lib.hid ho6; have N6 := Lib.hid hn6; clear ho6 hn6))
        clear hb6 hb7 hb8 hx8 O6 P7 X6 N6
        obtain ⟨wo, hwo⟩ : ∃ wo, wo = wr := ⟨_, rfl⟩
        rw [← hwo] at *
        go_loopw [14] (fun xv wq => ∃ x : Nat, x ≤ q ∧ xv = .int .i64 x ∧ Hid (Below wc.heap.size wc wq) ∧ Hid (RowQ wq A6 q wc.heap.size)) (fun xv _ => q - (intOf xv).toNat)
        case atStart => exact ⟨0, by omega, rfl, B8, O8⟩
        case round =>
          obtain ⟨x, hx, rfl, HB9, HRW⟩ := hrel
          have x0 : (0 : Int) ≤ (x : Int) := by omega
          by_cases hxq : x < q
          · have hx1 : (x : Int) < (q : Int) := by omega
            obtain ⟨a6, row, rfl, hrow, hrs, hra⟩ := HRW.out (by omega)
            obtain ⟨v, hv⟩ := cell_in hrow (by omega : x < row.size)
            have hf := frozen_of_row _ _ x _ _ hrow
            have HRO := Lib.hid hrow
            clear hrow
            go_wp2_with fail
            go_roundw
            case rel => exact ⟨x + 1, by omega, by go_num, Lib.hid (HB9.out.setCell (p := ⟨a6, x, none⟩) hra _), Lib.hid (fun _ => ⟨a6, _, rfl, heap_setCell_same _ a6 x _ _ _ HRO.out, by simp; omega, hra⟩)⟩
            case measure => simp [intOf]; omega
          · have hx1 : ¬ (x : Int) < (q : Int) := by omega
            have X9 := Lib.hid (X5.out.below HB9.out)
            clear HB9 HRW B8 O8 X5
            go_wp2_with (first
              | (go_at_call 58; have _q := hl10; refine (rwhole_is w10 g2 a0 A4 n4 c4 L4' m2 m9 s9 q9 (Lib.hid (X9.out.k1 hl10)) (Lib.hid X9.out.r) (by have := X9.out.hn; omega) (by have := HSM.out.1; omega) (Lib.hid HSM.out.joins) HW9).mono ?_; rintro e w11 ⟨rfl, hr11⟩)
              | (go_at_call 54; refine (cwhole_is _ g5 bm5 a0 m2 m9 s9 q9 (Lib.hid X9.out.j) (by have := HSM.out.1; omega) (Lib.hid HSM.out.joins) HW9).mono ?_; rintro e w10 ⟨rfl, hj10, hl10⟩))
            all_goals first
              | (revert hr11
                 revert hl10
                 revert hj10
                 intro hj10 hl10 hr11
                 obtain ⟨A9, n9, c9, L9, x9⟩ := QX.wholed (s := s9) (q := q9) X9.out hj10 hl10 HS9.out ⟨rfl, hr11⟩
                 have X10 := Lib.hid x9
                 clear x9
                 go_roundw
                 (case rel => exact ⟨i + 1, g5, bm5, n9, c9, A9, m9, L9, by omega, by go_num, rfl, X10⟩)
                 (case measure => simp [intOf]; omega))
              | (go_roundw
                 (case rel => exact ⟨i + 1, g5, bm5, n4, c4, A4, m2, L4', by omega, by go_num, rfl, X9⟩)
                 (case measure => simp [intOf]; omega))
    · by_cases hb : i < n1
      · have h1 : (i : Int) < (n1 : Int) := by omega
        have h2 : ¬ (i : Int) < 60 := by omega
        clear hgo hb
        go_wp2_with (go_at_call 42; refine (fixed7_any _).mono ?_; rintro e w9 ⟨rfl, hb9⟩)
        go_ret
        exact ⟨rfl, HX.out.b.trans (hb9.mono HX.out.b.size)⟩
      · have h1 : ¬ (i : Int) < (n1 : Int) := by omega
        clear hgo hb
        go_wp2_with (go_at_call 42; refine (fixed7_any _).mono ?_; rintro e w9 ⟨rfl, hb9⟩)
        go_ret
        exact ⟨rfl, HX.out.b.trans (hb9.mono HX.out.b.size)⟩


set_option maxRecDepth 100000 in
set_option maxHeartbeats 1000000 in
theorem lifted (os : Os) (started : os.Started) (H : Type) (enc : TypeId × Value → H) :
    ReturnsInHanded {} Try.checked os 10 .any (Rows.chunksJoinsSpec.pre6 enc Try.prog Try.f10 Rows.chunksJoinsRow.domain false) (Rows.chunksJoinsSpec.post enc Try.prog Try.f10 false true false false) := by
  refine returnsInHanded_of_change (C := Try.checked) own started (by kernel_rfl) Try.func10
    (ChangeSpec.witness6 (enc := enc) (C := Try.checked) false ⟨#[], #[.int .u64 0, .slice none 0 0, .int .i64 0], []⟩ 8 (by kernel_rfl) (by kernel_rfl) (by kernel_rfl) (by kernel_rfl)) ?_
  intro W base args ds gs before hval0 hW _ _
  have hval : ∀ (j : Nat) t v, Try.f10.params[j]? = some t → args[j]? = some v → Value.okWide Try.prog W .any base t v := hval0
  have hW' := hW
  obtain ⟨p, q, hA0, hV, rfl, hfz, hnd⟩ := hW
  have hA : DataW.TrodAll enc Try.prog W 0 (fun _ => true) true Try.f10.params.toList args.toList ds p := hA0
  rw [Try.params10] at hA hval
  obtain ⟨v0, vs0, d0, ds0, p0, q0, hargs, rfl, rfl, h0, r0⟩ := trodAll_cons hA
  obtain ⟨v1, vs1, d1, ds1, p1, q1, rfl, rfl, rfl, h1, r1⟩ := trodAll_cons r0
  obtain ⟨v2, vs2, d2, ds2, p2, q2, rfl, rfl, rfl, h2, r2⟩ := trodAll_cons r1
  obtain ⟨rfl, rfl, rfl⟩ := trodAll_nil r2
  obtain rfl : args = #[v0, v1, v2] := by cases args; simp_all
  obtain ⟨rfl, rfl⟩ := trodVars_none hV
  have k0 := h0
  have lt0 : ∀ x ∈ p0, x.block < W.heap.size := by obtain ⟨m, hm⟩ := k0; exact DataW.trod_lt m _ _ _ hm
  have k1 := h1
  have lt1 : ∀ x ∈ p1, x.block < W.heap.size := by obtain ⟨m, hm⟩ := k1; exact DataW.trod_lt m _ _ _ hm
  have k2 := h2
  have lt2 : ∀ x ∈ p2, x.block < W.heap.size := by obtain ⟨m, hm⟩ := k2; exact DataW.trod_lt m _ _ _ hm
  obtain ⟨a0, e0, _, _, w0⟩ := open_int Try.underlying67 (hval 0 67 v0 rfl rfl) h0
  subst e0
  obtain ⟨A1, l1, c1, e1, R1⟩ := L7.open_cks (hval 1 72 v1 rfl rfl) h1
  subst e1
  obtain ⟨a2, e2, _, _, w2⟩ := open_int Try.underlying3 (hval 2 3 v2 rfl rfl) h2
  subst e2
  clear hA0 hval0
  refine (walk W a0 w0 A1 l1 c1 R1 a2 w2).mono fun e W' ⟨he, bel⟩ => ?_
  subst he
  exact ⟨_, rfl, _, _, _, [], _, [], hW', trodAll_mk1 (shut_bool Try.underlying4 _), (trodAll_cons_mk (Below.trod laidOut (by kernel_rfl) (of_decide_eq_true (by kernel_rfl)) k0 bel lt0) (trodAll_cons_mk (Below.trod laidOut (by kernel_rfl) (of_decide_eq_true (by kernel_rfl)) k1 bel lt1) (trodAll_cons_mk (Below.trod laidOut (by kernel_rfl) (of_decide_eq_true (by kernel_rfl)) k2 bel lt2) trodAll_mk0))), rfl, bel.frame _, fun h => by cases h⟩

theorem over : Rows.chunksJoinsRow.holds Try.pinned (OpenSpec.ofChange Rows.chunksJoinsSpec) :=
  OpenClaim.holds_of_wide 10 Try.f10 rfl rfl rfl rfl rfl rfl rfl ⟨rfl, rfl, rfl, rfl, rfl⟩ rfl rfl rfl rfl rfl (by kernel_rfl) Try.func10 (by kernel_rfl)
    (of_decide_eq_true (by kernel_rfl)) (by unfold Func.isWrapper; first | (rw [if_pos (by decide +kernel)]; kernel_rfl) | (rw [if_neg (by decide +kernel)]; exact ⟨rfl, rfl⟩))
    (fun os started H enc _ => lifted os started H enc)

/-- the statement -/
theorem proved : Rows.ChunksJoinsSaid :=
  over
#print axioms proved
end Go.Proofs.Ytlemcijgjebekaa.chunksJoins
