/-
  Whatever marks are put, raised and dropped, in any order: each answer, and all marks, are as the document says; what is told is its owner's.
-/
import Derived.Test.YtcpfihagcmadcaaRows
import Derived.WalkKit
import Derived.ProofKit
import Derived.OpenShut
import Derived.ShutString
import Derived.ChangeOld
import Derived.Below
import Derived.Test.YtcpfihagcmadcaaOfFixed
import Derived.Test.YtcpfihagcmadcaaOfBoth
import Derived.Deep.RegionHeld3
import Derived.Deep.DeepCutAuto
import Derived.Deep.CutBlock
import Derived.LoopTactic
import Derived.IntWalk
namespace Go.Proofs.Ytcpfihagcmadcaa.offsetsDoes
open Go.ChangeShapes Go.WideShapes Go.ChangeAt Go.RowKit Go.Deep
open Go.ChangeMaps (open_string shut_string)
open L3 L4 L12

theorem own : ownKnob Try.prog.godebug = none := by kernel_rfl
theorem laidOut : laidOutB Try.prog = true := by kernel_rfl

theorem st_new {W w1 : World} {g b : Nat} (h : LT W w1 g b 0 []) : ST W (w1.alloc (.cells #[.slice none 0 0] 28)) g b 0 w1.heap.size (w1.heap.size + 1) none 0 [] [] :=
  ⟨h.below (one_box' _), ⟨heap_alloc_new _ _, ⟨rfl, .inl ⟨rfl, rfl⟩⟩⟩, fun _ => rfl, h.bel.size, by simp [bk]⟩
theorem drewB12 (w : World) : Below w.heap.size w w.drew := (Below.refl _ _).drew
theorem keep5 {W w1 w2 : World} {a a0 a1 a2 a3 : Addr} {v v0 v1 v2 v3 : Value} (h : (w1.cell? a = some v ∧ w1.cell? a0 = some v0 ∧ w1.cell? a1 = some v1 ∧ w1.cell? a2 = some v2 ∧ w1.cell? a3 = some v3) ∧ Below W.heap.size W w1) (hb : Below w1.heap.size w1 w2) :
    (w2.cell? a = some v ∧ w2.cell? a0 = some v0 ∧ w2.cell? a1 = some v1 ∧ w2.cell? a2 = some v2 ∧ w2.cell? a3 = some v3) ∧ Below W.heap.size W w2 :=
  ⟨⟨cell_at hb h.1.1, cell_at hb h.1.2.1, cell_at hb h.1.2.2.1, cell_at hb h.1.2.2.2.1, cell_at hb h.1.2.2.2.2⟩, h.2.trans (hb.mono h.2.size)⟩
set_option maxRecDepth 100000 in
set_option maxHeartbeats 16000000 in
theorem walk (W : World) (A0 : Option Addr) (l0 : List Oc) (c0 : Nat) (RO : Hid (OpsO W W.heap.size A0 l0)) (SO : Hid (∀ r ∈ l0, SizeR r.m)) (Z0 : l0.length ≤ maxLen) :
    Calls Try.prog 3 #[.slice A0 l0.length c0] W fun e w' => e = .returned (.bool true) ∧ Below W.heap.size W w' := by
  have HB0 : Hid (Below W.heap.size W W) := Lib.hid (Below.refl _ _)
  obtain ⟨m, hm⟩ : ∃ m, l0.length = m := ⟨_, rfl⟩
  have Z1 := Z0
  unfold maxLen at Z1
  rw [hm] at Z1 ⊢
  have HL0 := Lib.hid hm
  clear hm Z0
  go_enter Try.func3, Try.ntmps3
  go_upto_region 2 with (go_at_call 5; refine (m_new W W HB0).mono ?_; rintro e w0 ⟨g, bb, rfl, m1, -, -, -⟩; have M0 := Lib.hid m1; clear m1)
  obtain ⟨w2, hw2⟩ : ∃ w2, w0.alloc (.cells #[.slice none 0 0] 28) = w2 := ⟨_, rfl⟩
  obtain ⟨k, hk⟩ : ∃ k, w0.heap.size = k := ⟨_, rfl⟩
  have hs2 := st_new M0.out
  rw [hw2, hk] at hs2
  have S2 := Lib.hid hs2
  rw [hw2, hk]
  clear hs2 hw2 hk M0 HB0
  go_wp2_with fail
  go_loopw [3, 5] (fun v3 pp wr => ∃ (j g bb : Nat) (A : Option Addr) (cap : Nat) (Q : List Mr), v3 = .pointer (some ⟨g, 0, none⟩) ∧ j ≤ m ∧ j ≤ 80 ∧ Q.length ≤ j ∧ pp = .int .i64 j ∧ Hid (∃ X, ST W wr g bb j k X A cap Q Q)) (fun _ pp _ => 80 - (intOf pp).toNat)
  case atStart => exact ⟨0, g, bb, none, 0, [], rfl, Nat.zero_le _, by omega, Nat.le_refl _, rfl, Lib.hid ⟨_, S2.out⟩⟩
  case round =>
    clear S2
    obtain ⟨j, g, bb, A, cap, Q, rfl, hj, hj80, hQ, rfl, SX⟩ := hrel
    obtain ⟨X, sx⟩ := SX.out
    have SR := Lib.hid sx
    clear sx SX
    by_cases hlt : j < m ∧ j < 80
    · obtain ⟨h1, h2⟩ := hlt
      obtain ⟨og, oo, rfl, hog, hcs⟩ := RO.out (by rw [HL0.out]; omega)
      obtain ⟨⟨kd, ⟨gr, t, p, o⟩⟩, hst⟩ : ∃ st, l0[j]? = some st := ⟨l0[j]'(by rw [HL0.out]; exact h1), List.getElem?_eq_getElem _⟩
      obtain ⟨x0, x1, x2, x3, x4⟩ := hcs j _ hst
      have d0 := cell_at SR.out.lt.bel x0
      have d1 := cell_at SR.out.lt.bel x1
      have d2 := cell_at SR.out.lt.bel x2
      have d3 := cell_at SR.out.lt.bel x3
      have d4 := cell_at SR.out.lt.bel x4
      dsimp only at d0 d1 d2 d3 d4
      obtain ⟨z0, z1, z2, z3⟩ := SO.out _ (List.mem_of_getElem? hst)
      dsimp only at z0 z1 z2 z3
      obtain ⟨cg, hcg⟩ : ∃ c, cutB gr = c := ⟨_, rfl⟩
      obtain ⟨ct, hct⟩ : ∃ c, cutB t = c := ⟨_, rfl⟩
      have HCG := Lib.hid hcg
      have HCT := Lib.hid hct
      have ZG : Hid (cg.size ≤ maxLen) := Lib.hid (by rw [← hcg]; have := cutB_size gr; unfold maxLen; omega)
      have ZT : Hid (ct.size ≤ maxLen) := Lib.hid (by rw [← hct]; have := cutB_size t; unfold maxLen; omega)
      have HP := Lib.hid z2
      have HO := Lib.hid z3
      have j0 : (0 : Int) ≤ (j : Int) := by omega
      have j1 : (j : Int) < (m : Int) := by omega
      have j2 : (j : Int) < 80 := by omega
      have hQ1 : Q.length ≤ 1000000 := by omega
      have ltA : og < wr.heap.size := Nat.lt_of_lt_of_le hog SR.out.size
      clear hst hcs x0 x1 x2 x3 x4 z2 z3 hcg hct
      go_upto_region 8 with (go_at_call 6; refine (cut_is _ gr t cg ct p o z0 z1 HCG HCT).mono ?_; rintro e w4 ⟨rfl, hb4⟩; have HB4 := Lib.hid hb4; clear hb4)
      obtain ⟨bx, hbx⟩ : ∃ b, w4.heap.size = b := ⟨_, rfl⟩
      obtain ⟨w5, hw5⟩ : ∃ W5, w4.alloc (.cells #[.string cg, .string ct, .int .i64 p, .int .i64 o] 32) = W5 := ⟨_, rfl⟩
      have X5 : Hid (Box w5 bx ⟨cg, ct, p, o⟩) := Lib.hid (by rw [← hw5, ← hbx]; exact heap_alloc_new _ _)
      have S5 : Hid (ST W w5 g bb j k bx A cap Q Q) := Lib.hid (by rw [← hw5]; exact ((SR.out.below HB4.out).apart (Nat.le_of_eq hbx)).below (one_box' _))
      have HG := Lib.hid S5.out.lt.good
      have d0' := cell_at ((HB4.out).trans ((one_box' (w := w4) (.cells #[.string cg, .string ct, .int .i64 p, .int .i64 o] 32)).mono HB4.out.size)) d0
      rw [hw5] at d0'
      rw [hw5, hbx]
      clear hw5 hbx d0 d1 d2 d3 d4 SR HB4 
      obtain ⟨b0, b1, b2, b3⟩ := row4 X5.out
      dsimp only at b0 b1 b2 b3
      have ltA5 : og < w5.heap.size := Nat.lt_of_lt_of_le hog S5.out.size
      go_upto_block 2 with fail
      go_cut [3, 7, 8, 9] (fun v3 v7 v8 _ wc => ∃ (g' bb' : Nat) (A' : Option Addr) (cap' : Nat) (Q' : List Mr) (x : Int), v3 = .pointer (some ⟨g', 0, none⟩) ∧ v7 = .int .i64 x ∧ v8 = .int .i64 x ∧ Q'.length ≤ j + 1 ∧ Hid (ST W wc g' bb' (j + 1) k bx A' cap' Q' Q') ∧ Hid (Box wc bx ⟨cg, ct, p, o⟩))
      case first =>
        as_aux_lemma =>
        by_cases k0 : kd = 0
        · subst k0
          obtain ⟨x, hx⟩ : ∃ x, putE Q ⟨cg, ct, p, o⟩ = x := ⟨_, rfl⟩
          obtain ⟨Q2, hq2⟩ : ∃ Q2, putQ Q ⟨cg, ct, p, o⟩ = Q2 := ⟨_, rfl⟩
          have HX := Lib.hid hx
          have HQ2 := Lib.hid hq2
          have HLQ : Hid (Q2.length ≤ j + 1) := Lib.hid (by rw [← hq2]; have := len_put Q ⟨cg, ct, p, o⟩; omega)
          clear hx hq2
          go_wp2_with (first
            | (go_at_call 8; have _q := S6; refine (s_rput cg ct p o x Q2 Q.length S6 X6 HG (Lib.hid rfl) hQ1 ZG ZT HX HQ2).mono ?_; rintro e w7 ⟨rfl, A7, c7, s7, x7⟩; have S7 := Lib.hid s7; have X7 := Lib.hid x7; clear s7 x7)
            | (go_at_call 7; refine (s_put cg ct p o x Q2 S5 X5 (by omega) ZG ZT HP HX HQ2).mono ?_; rintro e w6 ⟨rfl, s6, x6⟩; have S6 := Lib.hid s6; have X6 := Lib.hid x6; obtain ⟨b0, b1, b2, b3⟩ := row4 x6; dsimp only at b0 b1 b2 b3; clear s6 x6))
          go_meet
          exact ⟨_, _, _, _, _, _, rfl, rfl, rfl, HLQ.out, S7, X7⟩
        · have k0' : (kd == 0) = false := by simpa using k0
          by_cases k1 : kd = 1
          · subst k1
            obtain ⟨x, hx⟩ : ∃ x, raiseN Q ct p o = x := ⟨_, rfl⟩
            obtain ⟨Q2, hq2⟩ : ∃ Q2, raiseQ Q ct p o = Q2 := ⟨_, rfl⟩
            have HX := Lib.hid hx
            have HQ2 := Lib.hid hq2
            have HLQ : Hid (Q2.length ≤ j + 1) := Lib.hid (by rw [← hq2, len_raise]; omega)
            clear hx hq2 k0 k0'
            go_wp2_with (first
              | (go_at_call 10; have _q := S6; refine (s_rraise ct p o x Q2 Q.length S6 X6 (Lib.hid rfl) hQ1 HX HQ2).mono ?_; rintro e w7 ⟨rfl, A7, c7, s7, x7⟩; have S7 := Lib.hid s7; have X7 := Lib.hid x7; clear s7 x7)
              | (go_at_call 9; refine (s_raise ct p o x Q2 Q.length S5 X5 (by omega) HO (Lib.hid rfl) hQ1 HX HQ2).mono ?_; rintro e w6 ⟨rfl, s6, x6⟩; have S6 := Lib.hid s6; have X6 := Lib.hid x6; obtain ⟨b0, b1, b2, b3⟩ := row4 x6; dsimp only at b0 b1 b2 b3; clear s6 x6))
            go_meet
            exact ⟨_, _, _, _, _, _, rfl, rfl, rfl, HLQ.out, S7, X7⟩
          · have k1' : (kd == 1) = false := by simpa using k1
            by_cases k2 : kd = 2
            · subst k2
              obtain ⟨x, hx⟩ : ∃ x, dropN Q cg = x := ⟨_, rfl⟩
              obtain ⟨Q2, hq2⟩ : ∃ Q2, dropQ Q cg = Q2 := ⟨_, rfl⟩
              have HX := Lib.hid hx
              have HQ2 := Lib.hid hq2
              have HLQ : Hid (Q2.length ≤ j + 1) := Lib.hid (by rw [← hq2]; have := len_drop Q cg; omega)
              clear hx hq2 k0 k0' k1 k1'
              go_wp2_with (first
                | (go_at_call 12; have _q := S6; refine (s_rdrop cg x Q2 Q.length S6 X6 (Lib.hid rfl) hQ1 HX HQ2).mono ?_; rintro e w7 ⟨rfl, A7, c7, s7, x7⟩; have S7 := Lib.hid s7; have X7 := Lib.hid x7; clear s7 x7)
                | (go_at_call 11; refine (s_drop cg x Q2 Q.length S5 X5 (Lib.hid rfl) hQ1 HX HQ2).mono ?_; rintro e w6 ⟨rfl, s6, x6⟩; have S6 := Lib.hid s6; have X6 := Lib.hid x6; obtain ⟨b0, b1, b2, b3⟩ := row4 x6; dsimp only at b0 b1 b2 b3; clear s6 x6))
              go_meet
              exact ⟨_, _, _, _, _, _, rfl, rfl, rfl, HLQ.out, S7, X7⟩
            · have k2' : (kd == 2) = false := by simpa using k2
              have HLQ : Hid (Q.length ≤ j + 1) := Lib.hid (by omega)
              by_cases k3 : kd = 3
              · subst k3
                clear k0 k0' k1 k1' k2 k2'
                go_wp2_with (first
                  | (go_at_call 11; have _q := C7; refine (s_was_drop cg S7 X7 C7 HNB.out (by have := len_put Q ⟨⟨#[111, 116, 104, 101, 114]⟩, ct, p, 0⟩; omega)).mono ?_; rintro e w8 ⟨rfl, s8, x8⟩; have S8 := Lib.hid s8; have X8 := Lib.hid x8; clear s8 x8)
                  | (go_at_call 7; have _q := C6; refine (s_was_put ⟨#[111, 116, 104, 101, 114]⟩ ct p 0 S6 X6 C6 HNB.out (by omega) (Lib.hid (by decide)) ZT HP).mono ?_; rintro e w7 ⟨rfl, s7, l7, x7⟩; have S7 := Lib.hid s7; have C7 := Lib.hid l7; have X7 := Lib.hid x7; obtain ⟨b0, b1, b2, b3⟩ := row4 x7; dsimp only at b0 b1 b2 b3; clear s7 l7 x7)
                  | (go_at_call 13; refine (s_copy S5 X5).mono ?_; rintro e w6 ⟨g6, b6, rfl, s6, l6, nb6, x6⟩; have S6 := Lib.hid s6; have C6 := Lib.hid l6; have HNB := Lib.hid nb6; have X6 := Lib.hid x6; obtain ⟨b0, b1, b2, b3⟩ := row4 x6; dsimp only at b0 b1 b2 b3; clear s6 l6 nb6 x6))
                go_meet
                exact ⟨_, _, _, _, _, _, rfl, rfl, rfl, HLQ.out, Lib.hid (S8.out.mono (Nat.le_succ _)), X8⟩
              · have k3' : (kd == 3) = false := by simpa using k3
                clear k0 k1 k2 k3
                go_wp2_with fail
                go_meet
                exact ⟨_, _, _, _, _, _, rfl, rfl, rfl, HLQ.out, Lib.hid (S5.out.mono (Nat.le_succ _)), X5⟩
      case rest =>
        as_aux_lemma =>
        obtain ⟨g', bb', A', cap', Q', x, rfl, rfl, rfl, hQ2, S6, X6⟩ := hcut
        obtain ⟨w6, rfl⟩ : ∃ x, x = wc := ⟨_, rfl⟩
        clear b0 b1 b2 b3 S5 X5 HG d0'
        obtain ⟨b0, b1, b2, b3⟩ := row4 X6.out
        dsimp only at b0 b1 b2 b3
        obtain ⟨L, hL⟩ : ∃ L, Q'.length = L := ⟨_, rfl⟩
        have HL := Lib.hid hL
        have hL1 : L ≤ 1000000 := by omega
        have hb0 : ∀ b : Bool, (b != b) = false := fun b => by cases b <;> rfl
        obtain ⟨at1, hat1⟩ : ∃ x, atR Q' cg ct p = x := ⟨_, rfl⟩
        obtain ⟨is1, his1⟩ : ∃ x, isR Q' cg ct p = x := ⟨_, rfl⟩
        obtain ⟨y, hy⟩ : ∃ x, behindR Q' cg ct p o = x := ⟨_, rfl⟩
        have HAT := Lib.hid hat1
        have HIS := Lib.hid his1
        have HY := Lib.hid hy
        have HG2 := Lib.hid S6.out.lt.good
        clear hat1 his1 hy
        go_upto_region 28 with (first
          | (go_at_call 15; have _q := B61; refine (rget_is cg ct p at1 is1 L (Lib.hid (S6.out.below B61.out).doc) HL hL1 HAT HIS).mono ?_; rintro e w7 ⟨rfl, hb7⟩; have HB7 : Hid (Below w6.heap.size w6 w7) := Lib.hid (B61.out.trans (hb7.mono B61.out.size)); clear hb7)
          | (go_at_call 14; refine (m_get cg ct p at1 is1 (Lib.hid S6.out.lt) ZG ZT HP HAT HIS).mono ?_; rintro e w61 ⟨rfl, hb6⟩; have B61 := Lib.hid hb6; have b0 := cell_at hb6 b0; have b1 := cell_at hb6 b1; have b2 := cell_at hb6 b2; clear hb6))
        have S7 := Lib.hid (S6.out.below HB7.out)
        have X7 := Lib.hid (X6.out.below HB7.out)
        clear S6 X6 b0 b1 b2 b3
        go_upto_region 29 with (go_at_call 16; refine (m_list L (Lib.hid S7.out.lt) HL hL1).mono ?_; rintro e w8 ⟨A8, c8, rfl, o8, h8⟩; have R8 := Lib.hid (own_reads o8 HL.out (own_lt o8)); have H8 := Lib.hid h8; have O8 := Lib.hid (sh_own HL.out o8); clear o8 h8)
        have S8 := Lib.hid (S7.out.below H8.out)
        obtain ⟨b0, b1, b2, b3⟩ := row4 (X7.out.below H8.out)
        dsimp only at b0 b1 b2 b3
        have r0 := S8.out.doc.c0
        rw [HL.out] at r0
        have n0' := hb0 is1
        have hS := And.intro (And.intro r0 (And.intro b0 (And.intro b1 (And.intro b2 b3)))) (Below.refl w8.heap.size w8)
        clear hL hb0
        go_region_held3 (fun w' => (w'.cell? ⟨k, 0, none⟩ = some (.slice A' L cap') ∧ w'.cell? ⟨bx, 0, none⟩ = some (.string cg) ∧ w'.cell? ⟨bx, 1, none⟩ = some (.string ct) ∧ w'.cell? ⟨bx, 2, none⟩ = some (.int .i64 p) ∧ w'.cell? ⟨bx, 3, none⟩ = some (.int .i64 o)) ∧ Below w8.heap.size w8 w')
          (first | assumption | exact keep5 hS (drewB12 _) | exact keep5 (by assumption) (by assumption) | exact keep5 (by assumption) (drewB12 _))
          (first
            | (go_at_call 19; have _q := B22; refine (rbehind_is cg ct p o y L (Lib.hid (S8.out.below B22.out).doc) HG2 HL hL1 HY).mono ?_; rintro e w23 ⟨rfl, hb23⟩; have B23 : Hid (Below w8.heap.size w8 w23) := Lib.hid (B22.out.trans (hb23.mono B22.out.size)))
            | (go_at_call 18; have _q := B21; refine (m_behind cg ct p o y (Lib.hid (S8.out.below B21.out).lt) ZG ZT HP HY).mono ?_; rintro e w22 ⟨rfl, hb22⟩; have B22 : Hid (Below w8.heap.size w8 w22) := Lib.hid (B21.out.trans (hb22.mono B21.out.size)))
            | (go_at_call 17; refine (rsame_is _ A8 A' Q' L c8 cap' (Lib.hid ((R8.out.below (drewB12 _)).mono (drewB12 _).size)) (Lib.hid ((S8.out.doc.reads.below (drewB12 _)).mono (drewB12 _).size)) HL hL1).mono ?_; rintro e w21 ⟨rfl, hb21⟩; have B21 : Hid (Below w8.heap.size w8 w21) := Lib.hid ((drewB12 _).trans (hb21.mono (drewB12 _).size))))
        all_goals
          rename_i hh
          have HBN := Lib.hid hh.2
          clear hh hS r0 b0 b1 b2 b3
          go_wp2_with fail
          go_loopw [15] (fun p wr => ∃ i : Nat, i ≤ L ∧ p = .int .i64 i ∧ Hid (Below w7.heap.size w7 wr) ∧ Hid (SH wr w7.heap.size A8 L)) (fun p _ => L - (intOf p).toNat)
          case atStart => exact ⟨0, Nat.zero_le _, rfl, Lib.hid (H8.out.trans (HBN.out.mono H8.out.size)), Lib.hid (O8.out.below HBN.out)⟩
          case round =>
            obtain ⟨i, hi, rfl, HW, HS⟩ := hrel
            by_cases hil : i < L
            · obtain ⟨gl, _, rfl, _⟩ := HS.out (by omega)
              obtain ⟨hgl, hfr, z, hz⟩ := HS.out.cell hil
              have HZ := Lib.hid hgl
              have i1 : (0 : Int) ≤ (i : Int) := by omega
              have i2 : (i : Int) < (L : Int) := by omega
              clear hgl
              go_wp2_with fail
              go_roundw
              case rel => exact ⟨i + 1, by omega, by go_num, Lib.hid (HW.out.setCell (p := ⟨gl, i * 4 + 3, none⟩) HZ.out _), Lib.hid (HS.out.set _ _)⟩
              case measure => simp [intOf]; omega
            · have i2 : ¬ (i : Int) < (L : Int) := by omega
              go_wp2_with fail
              go_roundw
              case rel => exact ⟨j + 1, g', bb', A', cap', Q', rfl, by omega, by omega, hQ2, by go_num, Lib.hid ⟨_, S7.out.below HW.out⟩⟩
              case measure => simp [intOf]; omega
    · have hd : m ≤ j ∨ (j < m ∧ 80 ≤ j) := by omega
      rcases hd with hd | ⟨hd1, hd2⟩
      · have j1 : ¬ (j : Int) < (m : Int) := by omega
        go_wp2_with (go_at_call 20; have _q := SR; refine (fixed12_any _).mono ?_; rintro e w20 ⟨rfl, h20⟩)
        go_ret
        exact ⟨rfl, (SR.out.below h20).lt.bel⟩
      · have j1 : (j : Int) < (m : Int) := by omega
        have j2 : ¬ (j : Int) < 80 := by omega
        go_wp2_with (go_at_call 20; have _q := SR; refine (fixed12_any _).mono ?_; rintro e w20 ⟨rfl, h20⟩)
        go_ret
        exact ⟨rfl, (SR.out.below h20).lt.bel⟩

set_option maxRecDepth 100000 in
set_option maxHeartbeats 1000000 in
theorem lifted (os : Os) (started : os.Started) (H : Type) (enc : TypeId × Value → H) :
    ReturnsInHanded {} Try.checked os 3 .any (Rows.offsetsDoesSpec.pre6 enc Try.prog Try.f3 Rows.offsetsDoesRow.domain false) (Rows.offsetsDoesSpec.post enc Try.prog Try.f3 false true false false) := by
  refine returnsInHanded_of_change (C := Try.checked) own started (by kernel_rfl) Try.func3
    (ChangeSpec.witness6 (enc := enc) (C := Try.checked) false ⟨#[], #[.slice none 0 0], []⟩ 8 (by kernel_rfl) (by kernel_rfl) (by kernel_rfl) (by kernel_rfl)) ?_
  intro W base args ds gs before hval0 hW _ _
  have hval : ∀ (j : Nat) t v, Try.f3.params[j]? = some t → args[j]? = some v → Value.okWide Try.prog W .any base t v := hval0
  have hW' := hW
  obtain ⟨p, q, hA0, hV, rfl, hfz, hnd⟩ := hW
  have hA : DataW.TrodAll enc Try.prog W 0 (fun _ => true) true Try.f3.params.toList args.toList ds p := hA0
  rw [Try.params3] at hA hval
  obtain ⟨v0, vs0, d0, ds0, p0, q0, hargs, rfl, rfl, h0, r0⟩ := trodAll_cons hA
  obtain ⟨rfl, rfl, rfl⟩ := trodAll_nil r0
  obtain rfl : args = #[v0] := by cases args; simp_all
  obtain ⟨rfl, rfl⟩ := trodVars_none hV
  have k0 := h0
  have lt0 : ∀ x ∈ p0, x.block < W.heap.size := by obtain ⟨m, hm⟩ := k0; exact DataW.trod_lt m _ _ _ hm
  obtain ⟨A0, l0, c0, e0, R0, S0, Z0⟩ := L12.open_ops (hval 0 22 v0 rfl rfl) h0
  subst e0
  clear hA0 hval0
  refine (walk W A0 l0 c0 R0 S0 Z0).mono fun e W' ⟨he, bel⟩ => ?_
  subst he
  exact ⟨_, rfl, _, _, _, [], _, [], hW', trodAll_mk1 (shut_bool Try.underlying4 _), (trodAll_cons_mk (Below.trod laidOut (by kernel_rfl) (of_decide_eq_true (by kernel_rfl)) k0 bel lt0) trodAll_mk0), rfl, bel.frame _, fun h => by cases h⟩

theorem over : Rows.offsetsDoesRow.holds Try.pinned (OpenSpec.ofChange Rows.offsetsDoesSpec) :=
  OpenClaim.holds_of_wide 3 Try.f3 rfl rfl rfl rfl rfl rfl rfl ⟨rfl, rfl, rfl, rfl, rfl⟩ rfl rfl rfl rfl rfl (by kernel_rfl) Try.func3 (by kernel_rfl)
    (of_decide_eq_true (by kernel_rfl)) (by unfold Func.isWrapper; first | (rw [if_pos (by decide +kernel)]; kernel_rfl) | (rw [if_neg (by decide +kernel)]; exact ⟨rfl, rfl⟩))
    (fun os started H enc _ => lifted os started H enc)

/-- the statement -/
theorem proved : Rows.OffsetsDoesSaid :=
  over
#print axioms proved
end Go.Proofs.Ytcpfihagcmadcaa.offsetsDoes
