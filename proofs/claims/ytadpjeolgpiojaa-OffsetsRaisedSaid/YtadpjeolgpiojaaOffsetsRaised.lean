/-
  Behind Raise no mark of the partition is below the offset; as many were raised as were below; others are as they were.
-/
import Derived.Test.YtadpjeolgpiojaaRows
import Derived.WalkKit
import Derived.ProofKit
import Derived.OpenShut
import Derived.ShutString
import Derived.ChangeOld
import Derived.Below
import Derived.Test.YtadpjeolgpiojaaOfFixed
import Derived.LoopTactic
import Derived.IntWalk
import Derived.Deep.Cut
import Derived.Deep.CutBlock
namespace Go.Proofs.Ytadpjeolgpiojaa.offsetsRaised
open Go.ChangeShapes Go.WideShapes Go.ChangeAt Go.RowKit Go.Deep
open Go.ChangeMaps (open_string shut_string)
open L3 L4 L12

theorem own : ownKnob Try.prog.godebug = none := by kernel_rfl
theorem laidOut : laidOutB Try.prog = true := by kernel_rfl

theorem mask_le (m : Nat) (hm : m < 9223372036854775808) (x : Int) : 0 ≤ bits .and .i64 x (m : Int) ∧ bits .and .i64 x (m : Int) ≤ m := by
  have e : (BitVec.ofInt 64 x &&& BitVec.ofInt 64 (m : Int)).toNat ≤ m := by
    rw [BitVec.toNat_and]
    refine Nat.le_trans Nat.and_le_right ?_
    rw [BitVec.ofInt_natCast, BitVec.toNat_ofNat, Nat.mod_eq_of_lt (by omega)]
    exact Nat.le_refl _
  show 0 ≤ IntKind.i64.wrap ((BitVec.ofInt 64 x &&& BitVec.ofInt 64 (m : Int)).toNat : Int) ∧ IntKind.i64.wrap ((BitVec.ofInt 64 x &&& BitVec.ofInt 64 (m : Int)).toNat : Int) ≤ m
  rw [IntWalk.i64_in _ (by omega)]
  omega
def upN (t : ByteArray) (p least : Int) (m : Mr) : Mr := if raiseB t p least m = true then upTo m least else m
theorem raise_twice (Q : List Mr) (t : ByteArray) (p least : Int) : raiseN (raiseQ Q t p least) t p least = 0 := by
  unfold raiseN raiseQ
  split
  · rename_i h
    have : (raiseQ0 Q t p least).filter (raiseB t p least) = [] := by
      rw [List.filter_eq_nil_iff]
      intro x hx
      obtain ⟨z, hz, rfl⟩ := List.mem_map.1 hx
      split
      · unfold raiseB upTo; simp
      · assumption
    rw [this]; rfl
  · rfl
theorem filter_next {α : Type} (P : α → Bool) {Q : List α} {j : Nat} {m : α} (h : Q[j]? = some m) : ((Q.take (j + 1)).filter P).length = ((Q.take j).filter P).length + (if P m = true then 1 else 0) := by
  rw [List.take_add_one, h, Option.toList_some, List.filter_append, List.length_append]
  congr 1
  cases e : P m <;> simp [e]
theorem raise_off {t : ByteArray} {p least : Int} {g2 t2 : ByteArray} {p2 o2 : Int} (h : raiseB t p least ⟨g2, t2, p2, o2⟩ = false) : t2 ≠ t ∨ (t2 = t ∧ p2 ≠ p) ∨ (t2 = t ∧ p2 = p ∧ ¬ o2 < least) := by
  unfold raiseB at h
  rw [Bool.and_eq_false_iff, decide_eq_false_iff_not, decide_eq_false_iff_not] at h
  dsimp only at h
  by_cases a : t2 = t
  · by_cases a' : p2 = p
    · refine .inr (.inr ⟨a, a', ?_⟩)
      rcases h with q | q
      · exact absurd ⟨a, a'⟩ q
      · exact q
    · exact .inr (.inl ⟨a, a'⟩)
  · exact .inl a
theorem ltBase {W B w : World} {g b N : Nat} {Q : List Mr} (h : LT B w g b N Q) (hb : Below W.heap.size W B) : LT W w g b N Q :=
  ⟨h.tab, h.good, Nat.le_trans hb.size h.hg, Nat.le_trans hb.size h.hb, hb.trans (h.bel.mono hb.size)⟩
theorem ltCell {W w : World} {g b N bx i : Nat} {Q : List Mr} {u : Value} (h : LT W w g b N Q) (hx : W.heap.size ≤ bx) (hg : g ≠ bx) (hb : b ≠ bx) : LT W (w.setCell ⟨bx, i, none⟩ u) g b N Q :=
  ⟨h.tab.at (Below.heap_setCell _ _ _ _ hg) (Below.heap_setCell _ _ _ _ hb), h.good, h.hg, h.hb, h.bel.setCell hx _⟩
set_option maxRecDepth 100000 in
set_option maxHeartbeats 16000000 in
theorem walk (W : World) (A0 : Option Addr) (l0 : List Oc) (c0 : Nat) (RO0 : Hid (OpsO W W.heap.size A0 l0)) (SO : Hid (∀ r ∈ l0, SizeR r.m)) (Z0 : l0.length ≤ maxLen) (t1 : ByteArray) (n1 : Int) (ST : Hid (t1.size ≤ maxLen)) (_ : Hid ((Lit.int .i64 n1).wf = true)) (a2 : Int) (_ : (Lit.int .i64 a2).wf = true) :
    Calls Try.prog 6 #[.slice A0 l0.length c0, .agg #[.string t1, .int .i64 n1], .int .i64 a2] W fun e w' => e = .returned (.bool true) ∧ Below W.heap.size W w' := by
  obtain ⟨n0, hn0⟩ : ∃ n, l0.length = n := ⟨_, rfl⟩
  have HN := Lib.hid hn0
  have Z1 := Z0
  unfold maxLen at Z1
  rw [hn0] at Z1 ⊢
  obtain ⟨y, hy, y0, y1⟩ : ∃ y : Int, bits .and .i64 a2 65535 = y ∧ 0 ≤ y ∧ y ≤ 65535 := ⟨_, rfl, mask_le 65535 (by decide) a2⟩
  have HYL : Hid (y ≤ 1099511627776) := Lib.hid (by omega)
  have HYW : Hid ((Lit.int .i64 y).wf = true) := Lib.hid (WalkArith.wf_i64 (by omega))
  obtain ⟨c, hc⟩ : ∃ c, t1.extract 0 (min (t1.size : Int) 40).toNat = c := ⟨_, rfl⟩
  have hst := ST.out
  unfold maxLen at hst
  have m0 : (0 : Int) ≤ min (t1.size : Int) 40 := by omega
  have m1 : min (t1.size : Int) 40 ≤ (t1.size : Int) := by omega
  have m2 : (min (t1.size : Int) 40).toNat ≤ t1.size := by omega
  obtain ⟨bx, hbx⟩ : ∃ bx, W.heap.size = bx := ⟨_, rfl⟩
  obtain ⟨WZ, hWZ⟩ : ∃ WZ, W.alloc (.cells #[.string t1, .int .i64 n1] 30) = WZ := ⟨_, rfl⟩
  have HBZ : Hid (Below W.heap.size W WZ) := Lib.hid (by rw [← hWZ]; exact one_box' _)
  have PROW : Hid (WZ.heap[bx]? = some (.cells #[.string t1, .int .i64 n1] 30 (0, 0))) := Lib.hid (by rw [← hWZ, ← hbx]; exact part_row W t1 n1)
  have PL : Hid (bx < WZ.heap.size) := Lib.hid (by rw [← hWZ, ← hbx]; simp)
  have HBX : Hid (W.heap.size ≤ bx) := Lib.hid (by omega)
  have RO : Hid (OpsO WZ WZ.heap.size A0 l0) := Lib.hid (RO0.out.keepC (KeepC.below HBZ.out) HBZ.out.size)
  have HEQ := Lib.hid hWZ
  have HBE := Lib.hid hbx
  have HB0 : Hid (Below WZ.heap.size WZ WZ) := Lib.hid (Below.refl _ _)
  clear hn0 Z0 y0 y1 hbx hWZ
  go_enter Try.func6, Try.ntmps6
  go_upto_region 1 with (fail)
  rw [HEQ.out, HBE.out]
  go_wp2_with (go_at_call 9; refine (m_new WZ WZ HB0).mono ?_; rintro e wz ⟨gt, bb, rfl, mz, -, -, -⟩; have M0 := Lib.hid mz; clear mz)
  have HNG : Hid (gt ≠ bx) := Lib.hid (by have := M0.out.hg; have := PL.out; omega)
  have HNB : Hid (bb ≠ bx) := Lib.hid (by have := M0.out.hb; have := PL.out; omega)
  go_loopw [8] (fun i wr => ∃ (k : Nat) (Q : List Mr), k ≤ n0 ∧ k ≤ 80 ∧ i = .int .i64 k ∧ Q.length ≤ k ∧ Hid (LT WZ wr gt bb k Q)) (fun i _ => n0 - (intOf i).toNat)
  case atStart => exact ⟨0, [], Nat.zero_le _, Nat.zero_le _, rfl, Nat.le_refl _, M0⟩
  case round =>
    obtain ⟨k, Q, hk, hk6, rfl, hQ, HM⟩ := hrel
    by_cases hlt : k < n0 ∧ k < 80
    · obtain ⟨hlt, hlt6⟩ := hlt
      obtain ⟨ga, oo, rfl, hga, hcells⟩ := RO.out (by rw [HN.out]; omega)
      obtain ⟨⟨kind, ⟨gr, t, p, o⟩⟩, hst⟩ : ∃ st, l0[k]? = some st := ⟨l0[k]'(by rw [HN.out]; exact hlt), List.getElem?_eq_getElem _⟩
      obtain ⟨c0, c1, c2, c3, c4⟩ := hcells k _ hst
      have d1 := cell_at HM.out.bel c1
      have d2 := cell_at HM.out.bel c2
      have d3 := cell_at HM.out.bel c3
      have d4 := cell_at HM.out.bel c4
      dsimp only at d1 d2 d3 d4
      obtain ⟨z0, z1, z2, z3⟩ := SO.out _ (List.mem_of_getElem? hst)
      dsimp only at z0 z1 z2 z3
      obtain ⟨cg, hcg⟩ : ∃ c, cutB gr = c := ⟨_, rfl⟩
      obtain ⟨ct, hct⟩ : ∃ c, cutB t = c := ⟨_, rfl⟩
      have HCG := Lib.hid hcg
      have HCT := Lib.hid hct
      have ZG : Hid (cg.size ≤ maxLen) := Lib.hid (by rw [← hcg]; have := cutB_size gr; unfold maxLen; omega)
      have ZT : Hid (ct.size ≤ maxLen) := Lib.hid (by rw [← hct]; have := cutB_size t; unfold maxLen; omega)
      have HP := Lib.hid z2
      obtain ⟨x, hx⟩ : ∃ x, putE Q ⟨cg, ct, p, o⟩ = x := ⟨_, rfl⟩
      obtain ⟨Q2, hq2⟩ : ∃ Q2, putQ Q ⟨cg, ct, p, o⟩ = Q2 := ⟨_, rfl⟩
      have HX := Lib.hid hx
      have HQ2 := Lib.hid hq2
      have hl2 : Q2.length ≤ k + 1 := by rw [← hq2]; have := len_put Q ⟨cg, ct, p, o⟩; omega
      have k0 : (0 : Int) ≤ (k : Int) := by omega
      have k1 : (k : Int) < (n0 : Int) := by omega
      have k6 : (k : Int) < 80 := by omega
      have kN : k ≤ 1000000 := by omega
      have ltA : ga < wr.heap.size := Nat.lt_of_lt_of_le hga HM.out.bel.size
      clear hst hcells c0 c1 c2 c3 c4 z2 z3 hcg hct hx hq2
      go_wp2_with (first
        | (go_at_call 11; have _q := HB2; refine (m_put cg ct p o x Q2 (Lib.hid (HM.out.below HB2.out)) kN ZG ZT HP HX HQ2).mono ?_; rintro e w3 ⟨rfl, m3, -, -⟩; have M3 := Lib.hid m3; clear m3)
        | (go_at_call 10; refine (cut_is _ gr t cg ct p o z0 z1 HCG HCT).mono ?_; rintro e w2 ⟨rfl, hb2⟩; have HB2 := Lib.hid hb2; clear hb2))
      go_roundw
      case rel => exact ⟨k + 1, Q2, by omega, by omega, by go_num, hl2, M3⟩
      case measure => simp [intOf]; omega
    · have hor : ¬ k < n0 ∨ (k < n0 ∧ ¬ k < 80) := by omega
      obtain ⟨kb, hkb⟩ : ∃ kb, k = kb := ⟨_, rfl⟩
      rcases hor with h1 | ⟨h1, h2⟩
      · have q1 : ¬ (k : Int) < (n0 : Int) := by omega
        clear hlt h1 hkb
        obtain ⟨L, hL⟩ : ∃ L, Q.length = L := ⟨_, rfl⟩
        have HL := Lib.hid hL
        have hLk : L ≤ 80 := by omega
        have hL1 : L ≤ 1000000 := by omega
        have kN : k ≤ 1000000 := by omega
        obtain ⟨rn, hrn⟩ : ∃ x, raiseN Q c n1 y = x := ⟨_, rfl⟩
        obtain ⟨Q2, hq2⟩ : ∃ Q2, raiseQ Q c n1 y = Q2 := ⟨_, rfl⟩
        have HRN := Lib.hid hrn
        have HQ2 := Lib.hid hq2
        have HL2 : Hid (Q2.length = L) := Lib.hid (by rw [← hq2, len_raise, hL])
        have HX3 : Hid (raiseN Q2 c n1 y = 0) := Lib.hid (by rw [← hq2]; exact raise_twice Q c n1 y)
        obtain ⟨Q3, hq3⟩ : ∃ Q3, raiseQ Q2 c n1 y = Q3 := ⟨_, rfl⟩
        have HQ3 := Lib.hid hq3
        have RN : Hid (rn = ((Q.filter (raiseB c n1 y)).length : Int)) := Lib.hid (by rw [← hrn]; unfold raiseN; rw [if_pos HYL.out])
        have Q2M : Hid (Q2 = Q.map (upN c n1 y)) := Lib.hid (by rw [← hq2]; unfold raiseQ; rw [if_pos HYL.out]; rfl)
        clear hL hrn hq2 hq3 hQ hk hk6
        have WROW := Lib.hid ((HM.out.bel.block bx PL.out).trans PROW.out)
        have p0 := (cell_of_row _ _ 0 _ _ _ WROW.out).trans rfl
        have pf := frozen_of_row _ _ 0 _ _ WROW.out
        go_upto_region 9 with (fail)
        obtain ⟨w5, hw5⟩ : ∃ w5, wr.setCell ⟨bx, 0, none⟩ (.string c) = w5 := ⟨_, rfl⟩
        have hs5 := heap_setCell_same _ _ 0 _ _ (.string c) WROW.out
        have HM5 : Hid (LT W w5 gt bb k Q) := Lib.hid (by rw [← hw5]; exact ltCell (ltBase HM.out HBZ.out) HBX.out HNG.out HNB.out)
        rw [hw5] at hs5 ⊢
        have e0 : w5.cell? ⟨bx, 0, none⟩ = some (.string c) := (cell_of_row _ _ 0 _ _ _ hs5).trans rfl
        have e1 : w5.cell? ⟨bx, 1, none⟩ = some (.int .i64 n1) := (cell_of_row _ _ 1 _ _ _ hs5).trans rfl
        clear hw5 hs5 p0 pf
        go_wp2_with (first
          | (go_at_call 20; have _q := M7; refine (m_list L M7 HL2 hL1).mono ?_; rintro e w8 ⟨A8, c8, rfl, o8, h8⟩; have M8 := Lib.hid (M7.out.below h8); have R8 := Lib.hid (own_reads o8 HL2.out (own_lt o8)); have R6b := Lib.hid (R6.out.keepC (KeepC.below h8) h8.size); have e0 := cell_at h8 e0; have e1 := cell_at h8 e1; clear o8 h8)
          | (go_at_call 13; have _q := M6; refine (m_raise c n1 y rn Q2 L M6 kN HYW HL hL1 HRN HQ2).mono ?_; rintro e w7 ⟨rfl, m7, k7, o7⟩; have M7 := Lib.hid m7; have R6 := Lib.hid (R5.out.keepC k7 o7.size); have e0 := k7 _ _ e0; have e1 := k7 _ _ e1; clear m7 k7 o7)
          | (go_at_call 20; have _q := HM5; refine (m_list L HM5 HL hL1).mono ?_; rintro e w6 ⟨A6, c6, rfl, o6, h6⟩; have M6 := Lib.hid (HM5.out.below h6); have R5 := Lib.hid (own_reads o6 HL.out (own_lt o6)); have e0 := cell_at h6 e0; have e1 := cell_at h6 e1; clear o6 h6))
        have E0 := Lib.hid e0
        have E1 := Lib.hid e1
        clear e0 e1 q1
        try clear q2
        go_loopw [14, 10] (fun i v wr => ∃ j bl : Nat, j ≤ L ∧ i = .int .i64 j ∧ v = .int .i64 bl ∧ Hid (((Q.take j).filter (raiseB c n1 y)).length = bl) ∧ Hid (Below w8.heap.size w8 wr)) (fun i _ _ => L - (intOf i).toNat)
        case atStart => exact ⟨0, 0, Nat.zero_le _, rfl, rfl, Lib.hid rfl, Lib.hid (Below.refl _ _)⟩
        case round =>
          obtain ⟨j, bl, hj, rfl, rfl, HNJ, HBJ⟩ := hrel
          have hbl : bl ≤ j := by rw [← HNJ.out]; exact Nat.le_trans (List.length_filter_le _ _) (by rw [List.length_take]; omega)
          by_cases hlt : j < L
          · obtain ⟨⟨g2, t2, p2, o2⟩, hst⟩ : ∃ st, Q[j]? = some st := ⟨Q[j]'(by rw [HL.out]; exact hlt), List.getElem?_eq_getElem _⟩
            obtain ⟨ga, oa, rfl, hga, hca⟩ := R6b.out (by rw [HL.out]; omega)
            obtain ⟨x0, x1, x2, x3⟩ := hca j _ hst
            have d0 := cell_at HBJ.out x0
            have d1 := cell_at HBJ.out x1
            have d2 := cell_at HBJ.out x2
            have d3 := cell_at HBJ.out x3
            dsimp only at d0 d1 d2 d3
            have hst2 : Q2[j]? = some (upN c n1 y ⟨g2, t2, p2, o2⟩) := by rw [Q2M.out, List.getElem?_map, hst]; rfl
            obtain ⟨gb, ob, rfl, hgb, hcb⟩ := R8.out (by rw [HL2.out]; omega)
            have hMA := hcb j _ hst2
            have hNN := filter_next (raiseB c n1 y) hst
            rw [HNJ.out] at hNN
            obtain ⟨H, hH⟩ : ∃ H, wr.heap.size = H := ⟨_, rfl⟩
            obtain ⟨W2, hW2⟩ : ∃ W2, wr.alloc (.cells #[.string g2, .string t2, .int .i64 p2, .int .i64 o2] 32) = W2 := ⟨_, rfl⟩
            have hb2 : Below w8.heap.size w8 W2 := by rw [← hW2]; exact HBJ.out.alloc HBJ.out.size _
            have hr2 : W2.heap[H]? = some (.cells #[.string g2, .string t2, .int .i64 p2, .int .i64 o2] 32 (0, 0)) := by rw [← hW2, ← hH]; exact box_row wr g2 t2 p2 o2
            obtain ⟨b0, b1, b2, b3⟩ := row4 hr2
            have e0 := cell_at hb2 E0.out
            have e1 := cell_at hb2 E1.out
            have hH8 : w8.heap.size ≤ H := by rw [← hH]; exact HBJ.out.size
            have HEQ2 := Lib.hid hW2
            have HH := Lib.hid hH
            have HW2 := Lib.hid hb2
            have HR2 := Lib.hid hr2
            have HH8 := Lib.hid hH8
            have HMA := Lib.hid hMA
            have j0 : (0 : Int) ≤ (j : Int) := by omega
            have j1 : (j : Int) < (L : Int) := by omega
            clear x0 x1 x2 x3 hca hst hst2 hcb hMA hW2 hH hb2 hr2 hH8
            cases hrb : raiseB c n1 y ⟨g2, t2, p2, o2⟩ with
            | true =>
              have HNX : Hid (((Q.take (j + 1)).filter (raiseB c n1 y)).length = bl + 1) := Lib.hid (by rw [hNN, if_pos hrb])
              have HM2 : Hid (MarkAt w8 gb (ob + j * 4) ⟨g2, t2, p2, y⟩) := Lib.hid (by have := HMA.out; unfold upN at this; rw [if_pos hrb] at this; exact this)
              obtain ⟨⟨rfl, rfl⟩, hlo⟩ : (t2 = c ∧ p2 = n1) ∧ o2 < y := by
                unfold raiseB at hrb; simpa using hrb
              have w1' : wrap64 ((bl : Int) + 1) = ((bl + 1 : Nat) : Int) := by simp only [wrap64]; omega
              have f33 := frozen_of_row _ _ 3 _ _ HR2.out
              clear hrb hNN HMA
              go_upto_region 19 with (fail)
              rw [HEQ2.out, HH.out]
              go_upto_region 22 with (fail)
              obtain ⟨W3, hW3⟩ : ∃ W3, W2.setCell ⟨H, 3, none⟩ (.int .i64 y) = W3 := ⟨_, rfl⟩
              have hr3 := heap_setCell_same _ _ 3 _ _ (.int .i64 y) HR2.out
              have hb3 : Below w8.heap.size w8 (W2.setCell ⟨H, 3, none⟩ (.int .i64 y)) := HW2.out.setCell HH8.out _
              rw [hW3] at hr3 hb3 ⊢
              obtain ⟨v0, v1, v2, v3⟩ := row4 hr3
              have u0 := cell_at hb3 HM2.out.c0
              have u1 := cell_at hb3 HM2.out.c1
              have u2 := cell_at hb3 HM2.out.c2
              have u3 := cell_at hb3 HM2.out.c3
              dsimp only at u0 u1 u2 u3
              have HW3 := Lib.hid hb3
              clear hr3 hb3 hW3 b0 b1 b2 b3 e0 e1 f33 d0 d1 d2 d3
              go_quiet (fail)
              go_wp2_with fail
              go_roundw
              case rel => exact ⟨j + 1, bl + 1, by omega, by go_num, by go_num, HNX, Lib.hid (drewN_below HW3.out _)⟩
              case measure => simp [intOf]; omega
            | false =>
              have HNX : Hid (((Q.take (j + 1)).filter (raiseB c n1 y)).length = bl) := Lib.hid (by rw [hNN, if_neg (by rw [hrb]; simp), Nat.add_zero])
              have HM2 : Hid (MarkAt w8 gb (ob + j * 4) ⟨g2, t2, p2, o2⟩) := Lib.hid (by have := HMA.out; unfold upN at this; rw [if_neg (by rw [hrb]; simp)] at this; exact this)
              have hor := raise_off hrb
              have u0 := cell_at HW2.out HM2.out.c0
              have u1 := cell_at HW2.out HM2.out.c1
              have u2 := cell_at HW2.out HM2.out.c2
              have u3 := cell_at HW2.out HM2.out.c3
              dsimp only at u0 u1 u2 u3
              clear hrb hNN HMA
              rcases hor with hne | ⟨rfl, hne⟩ | ⟨rfl, rfl, hne⟩
              · have t1' : (t2.toList == c.toList) = false := bytes_off hne
                clear hne
                go_upto_region 19 with (fail)
                rw [HEQ2.out, HH.out]
                go_wp2_with fail
                go_quiet (fail)
                go_wp2_with fail
                go_roundw
                case rel => exact ⟨j + 1, bl, by omega, by go_num, rfl, HNX, Lib.hid (drewN_below HW2.out _)⟩
                case measure => simp [intOf]; omega
              · have t1' : (p2 == n1) = false := by simpa using hne
                clear hne
                go_upto_region 19 with (fail)
                rw [HEQ2.out, HH.out]
                go_wp2_with fail
                go_quiet (fail)
                go_wp2_with fail
                go_roundw
                case rel => exact ⟨j + 1, bl, by omega, by go_num, rfl, HNX, Lib.hid (drewN_below HW2.out _)⟩
                case measure => simp [intOf]; omega
              · have t1' : ¬ o2 < y := hne
                clear hne
                go_upto_region 19 with (fail)
                rw [HEQ2.out, HH.out]
                go_wp2_with fail
                go_quiet (fail)
                go_wp2_with fail
                go_roundw
                case rel => exact ⟨j + 1, bl, by omega, by go_num, rfl, HNX, Lib.hid (drewN_below HW2.out _)⟩
                case measure => simp [intOf]; omega
          · obtain rfl : j = L := by omega
            have hbn : rn = (bl : Int) := by
              have := HNJ.out
              rw [List.take_of_length_le (by rw [HL.out]; exact Nat.le_refl _)] at this
              rw [RN.out, this]
            subst hbn
            have M9 := Lib.hid (M8.out.below HBJ.out)
            have e0 := cell_at HBJ.out E0.out
            have e1 := cell_at HBJ.out E1.out
            clear hlt
            go_wp2_with (first
              | (go_at_call 24; have _q := M10; refine (fixed12_any _).mono ?_; rintro e w11 ⟨rfl, h11⟩; have H11 := Lib.hid h11; clear h11)
              | (go_at_call 13; have _q := M9; refine (m_raise c n1 y 0 Q3 j M9 kN HYW HL2 hL1 HX3 HQ3).mono ?_; rintro e w10 ⟨rfl, m10, k10, o10⟩; have M10 := Lib.hid m10; clear m10 k10 o10))
            go_ret
            exact ⟨rfl, M10.out.bel.trans (H11.out.mono M10.out.bel.size)⟩
      · have q1 : (k : Int) < (n0 : Int) := by omega
        have q2 : ¬ (k : Int) < 80 := by omega
        clear hlt h1 h2 hkb
        obtain ⟨L, hL⟩ : ∃ L, Q.length = L := ⟨_, rfl⟩
        have HL := Lib.hid hL
        have hLk : L ≤ 80 := by omega
        have hL1 : L ≤ 1000000 := by omega
        have kN : k ≤ 1000000 := by omega
        obtain ⟨rn, hrn⟩ : ∃ x, raiseN Q c n1 y = x := ⟨_, rfl⟩
        obtain ⟨Q2, hq2⟩ : ∃ Q2, raiseQ Q c n1 y = Q2 := ⟨_, rfl⟩
        have HRN := Lib.hid hrn
        have HQ2 := Lib.hid hq2
        have HL2 : Hid (Q2.length = L) := Lib.hid (by rw [← hq2, len_raise, hL])
        have HX3 : Hid (raiseN Q2 c n1 y = 0) := Lib.hid (by rw [← hq2]; exact raise_twice Q c n1 y)
        obtain ⟨Q3, hq3⟩ : ∃ Q3, raiseQ Q2 c n1 y = Q3 := ⟨_, rfl⟩
        have HQ3 := Lib.hid hq3
        have RN : Hid (rn = ((Q.filter (raiseB c n1 y)).length : Int)) := Lib.hid (by rw [← hrn]; unfold raiseN; rw [if_pos HYL.out])
        have Q2M : Hid (Q2 = Q.map (upN c n1 y)) := Lib.hid (by rw [← hq2]; unfold raiseQ; rw [if_pos HYL.out]; rfl)
        clear hL hrn hq2 hq3 hQ hk hk6
        have WROW := Lib.hid ((HM.out.bel.block bx PL.out).trans PROW.out)
        have p0 := (cell_of_row _ _ 0 _ _ _ WROW.out).trans rfl
        have pf := frozen_of_row _ _ 0 _ _ WROW.out
        go_upto_region 9 with (fail)
        obtain ⟨w5, hw5⟩ : ∃ w5, wr.setCell ⟨bx, 0, none⟩ (.string c) = w5 := ⟨_, rfl⟩
        have hs5 := heap_setCell_same _ _ 0 _ _ (.string c) WROW.out
        have HM5 : Hid (LT W w5 gt bb k Q) := Lib.hid (by rw [← hw5]; exact ltCell (ltBase HM.out HBZ.out) HBX.out HNG.out HNB.out)
        rw [hw5] at hs5 ⊢
        have e0 : w5.cell? ⟨bx, 0, none⟩ = some (.string c) := (cell_of_row _ _ 0 _ _ _ hs5).trans rfl
        have e1 : w5.cell? ⟨bx, 1, none⟩ = some (.int .i64 n1) := (cell_of_row _ _ 1 _ _ _ hs5).trans rfl
        clear hw5 hs5 p0 pf
        go_wp2_with (first
          | (go_at_call 20; have _q := M7; refine (m_list L M7 HL2 hL1).mono ?_; rintro e w8 ⟨A8, c8, rfl, o8, h8⟩; have M8 := Lib.hid (M7.out.below h8); have R8 := Lib.hid (own_reads o8 HL2.out (own_lt o8)); have R6b := Lib.hid (R6.out.keepC (KeepC.below h8) h8.size); have e0 := cell_at h8 e0; have e1 := cell_at h8 e1; clear o8 h8)
          | (go_at_call 13; have _q := M6; refine (m_raise c n1 y rn Q2 L M6 kN HYW HL hL1 HRN HQ2).mono ?_; rintro e w7 ⟨rfl, m7, k7, o7⟩; have M7 := Lib.hid m7; have R6 := Lib.hid (R5.out.keepC k7 o7.size); have e0 := k7 _ _ e0; have e1 := k7 _ _ e1; clear m7 k7 o7)
          | (go_at_call 20; have _q := HM5; refine (m_list L HM5 HL hL1).mono ?_; rintro e w6 ⟨A6, c6, rfl, o6, h6⟩; have M6 := Lib.hid (HM5.out.below h6); have R5 := Lib.hid (own_reads o6 HL.out (own_lt o6)); have e0 := cell_at h6 e0; have e1 := cell_at h6 e1; clear o6 h6))
        have E0 := Lib.hid e0
        have E1 := Lib.hid e1
        clear e0 e1 q1
        try clear q2
        go_loopw [14, 10] (fun i v wr => ∃ j bl : Nat, j ≤ L ∧ i = .int .i64 j ∧ v = .int .i64 bl ∧ Hid (((Q.take j).filter (raiseB c n1 y)).length = bl) ∧ Hid (Below w8.heap.size w8 wr)) (fun i _ _ => L - (intOf i).toNat)
        case atStart => exact ⟨0, 0, Nat.zero_le _, rfl, rfl, Lib.hid rfl, Lib.hid (Below.refl _ _)⟩
        case round =>
          obtain ⟨j, bl, hj, rfl, rfl, HNJ, HBJ⟩ := hrel
          have hbl : bl ≤ j := by rw [← HNJ.out]; exact Nat.le_trans (List.length_filter_le _ _) (by rw [List.length_take]; omega)
          by_cases hlt : j < L
          · obtain ⟨⟨g2, t2, p2, o2⟩, hst⟩ : ∃ st, Q[j]? = some st := ⟨Q[j]'(by rw [HL.out]; exact hlt), List.getElem?_eq_getElem _⟩
            obtain ⟨ga, oa, rfl, hga, hca⟩ := R6b.out (by rw [HL.out]; omega)
            obtain ⟨x0, x1, x2, x3⟩ := hca j _ hst
            have d0 := cell_at HBJ.out x0
            have d1 := cell_at HBJ.out x1
            have d2 := cell_at HBJ.out x2
            have d3 := cell_at HBJ.out x3
            dsimp only at d0 d1 d2 d3
            have hst2 : Q2[j]? = some (upN c n1 y ⟨g2, t2, p2, o2⟩) := by rw [Q2M.out, List.getElem?_map, hst]; rfl
            obtain ⟨gb, ob, rfl, hgb, hcb⟩ := R8.out (by rw [HL2.out]; omega)
            have hMA := hcb j _ hst2
            have hNN := filter_next (raiseB c n1 y) hst
            rw [HNJ.out] at hNN
            obtain ⟨H, hH⟩ : ∃ H, wr.heap.size = H := ⟨_, rfl⟩
            obtain ⟨W2, hW2⟩ : ∃ W2, wr.alloc (.cells #[.string g2, .string t2, .int .i64 p2, .int .i64 o2] 32) = W2 := ⟨_, rfl⟩
            have hb2 : Below w8.heap.size w8 W2 := by rw [← hW2]; exact HBJ.out.alloc HBJ.out.size _
            have hr2 : W2.heap[H]? = some (.cells #[.string g2, .string t2, .int .i64 p2, .int .i64 o2] 32 (0, 0)) := by rw [← hW2, ← hH]; exact box_row wr g2 t2 p2 o2
            obtain ⟨b0, b1, b2, b3⟩ := row4 hr2
            have e0 := cell_at hb2 E0.out
            have e1 := cell_at hb2 E1.out
            have hH8 : w8.heap.size ≤ H := by rw [← hH]; exact HBJ.out.size
            have HEQ2 := Lib.hid hW2
            have HH := Lib.hid hH
            have HW2 := Lib.hid hb2
            have HR2 := Lib.hid hr2
            have HH8 := Lib.hid hH8
            have HMA := Lib.hid hMA
            have j0 : (0 : Int) ≤ (j : Int) := by omega
            have j1 : (j : Int) < (L : Int) := by omega
            clear x0 x1 x2 x3 hca hst hst2 hcb hMA hW2 hH hb2 hr2 hH8
            cases hrb : raiseB c n1 y ⟨g2, t2, p2, o2⟩ with
            | true =>
              have HNX : Hid (((Q.take (j + 1)).filter (raiseB c n1 y)).length = bl + 1) := Lib.hid (by rw [hNN, if_pos hrb])
              have HM2 : Hid (MarkAt w8 gb (ob + j * 4) ⟨g2, t2, p2, y⟩) := Lib.hid (by have := HMA.out; unfold upN at this; rw [if_pos hrb] at this; exact this)
              obtain ⟨⟨rfl, rfl⟩, hlo⟩ : (t2 = c ∧ p2 = n1) ∧ o2 < y := by
                unfold raiseB at hrb; simpa using hrb
              have w1' : wrap64 ((bl : Int) + 1) = ((bl + 1 : Nat) : Int) := by simp only [wrap64]; omega
              have f33 := frozen_of_row _ _ 3 _ _ HR2.out
              clear hrb hNN HMA
              go_upto_region 19 with (fail)
              rw [HEQ2.out, HH.out]
              go_upto_region 22 with (fail)
              obtain ⟨W3, hW3⟩ : ∃ W3, W2.setCell ⟨H, 3, none⟩ (.int .i64 y) = W3 := ⟨_, rfl⟩
              have hr3 := heap_setCell_same _ _ 3 _ _ (.int .i64 y) HR2.out
              have hb3 : Below w8.heap.size w8 (W2.setCell ⟨H, 3, none⟩ (.int .i64 y)) := HW2.out.setCell HH8.out _
              rw [hW3] at hr3 hb3 ⊢
              obtain ⟨v0, v1, v2, v3⟩ := row4 hr3
              have u0 := cell_at hb3 HM2.out.c0
              have u1 := cell_at hb3 HM2.out.c1
              have u2 := cell_at hb3 HM2.out.c2
              have u3 := cell_at hb3 HM2.out.c3
              dsimp only at u0 u1 u2 u3
              have HW3 := Lib.hid hb3
              clear hr3 hb3 hW3 b0 b1 b2 b3 e0 e1 f33 d0 d1 d2 d3
              go_quiet (fail)
              go_wp2_with fail
              go_roundw
              case rel => exact ⟨j + 1, bl + 1, by omega, by go_num, by go_num, HNX, Lib.hid (drewN_below HW3.out _)⟩
              case measure => simp [intOf]; omega
            | false =>
              have HNX : Hid (((Q.take (j + 1)).filter (raiseB c n1 y)).length = bl) := Lib.hid (by rw [hNN, if_neg (by rw [hrb]; simp), Nat.add_zero])
              have HM2 : Hid (MarkAt w8 gb (ob + j * 4) ⟨g2, t2, p2, o2⟩) := Lib.hid (by have := HMA.out; unfold upN at this; rw [if_neg (by rw [hrb]; simp)] at this; exact this)
              have hor := raise_off hrb
              have u0 := cell_at HW2.out HM2.out.c0
              have u1 := cell_at HW2.out HM2.out.c1
              have u2 := cell_at HW2.out HM2.out.c2
              have u3 := cell_at HW2.out HM2.out.c3
              dsimp only at u0 u1 u2 u3
              clear hrb hNN HMA
              rcases hor with hne | ⟨rfl, hne⟩ | ⟨rfl, rfl, hne⟩
              · have t1' : (t2.toList == c.toList) = false := bytes_off hne
                clear hne
                go_upto_region 19 with (fail)
                rw [HEQ2.out, HH.out]
                go_wp2_with fail
                go_quiet (fail)
                go_wp2_with fail
                go_roundw
                case rel => exact ⟨j + 1, bl, by omega, by go_num, rfl, HNX, Lib.hid (drewN_below HW2.out _)⟩
                case measure => simp [intOf]; omega
              · have t1' : (p2 == n1) = false := by simpa using hne
                clear hne
                go_upto_region 19 with (fail)
                rw [HEQ2.out, HH.out]
                go_wp2_with fail
                go_quiet (fail)
                go_wp2_with fail
                go_roundw
                case rel => exact ⟨j + 1, bl, by omega, by go_num, rfl, HNX, Lib.hid (drewN_below HW2.out _)⟩
                case measure => simp [intOf]; omega
              · have t1' : ¬ o2 < y := hne
                clear hne
                go_upto_region 19 with (fail)
                rw [HEQ2.out, HH.out]
                go_wp2_with fail
                go_quiet (fail)
                go_wp2_with fail
                go_roundw
                case rel => exact ⟨j + 1, bl, by omega, by go_num, rfl, HNX, Lib.hid (drewN_below HW2.out _)⟩
                case measure => simp [intOf]; omega
          · obtain rfl : j = L := by omega
            have hbn : rn = (bl : Int) := by
              have := HNJ.out
              rw [List.take_of_length_le (by rw [HL.out]; exact Nat.le_refl _)] at this
              rw [RN.out, this]
            subst hbn
            have M9 := Lib.hid (M8.out.below HBJ.out)
            have e0 := cell_at HBJ.out E0.out
            have e1 := cell_at HBJ.out E1.out
            clear hlt
            go_wp2_with (first
              | (go_at_call 24; have _q := M10; refine (fixed12_any _).mono ?_; rintro e w11 ⟨rfl, h11⟩; have H11 := Lib.hid h11; clear h11)
              | (go_at_call 13; have _q := M9; refine (m_raise c n1 y 0 Q3 j M9 kN HYW HL2 hL1 HX3 HQ3).mono ?_; rintro e w10 ⟨rfl, m10, k10, o10⟩; have M10 := Lib.hid m10; clear m10 k10 o10))
            go_ret
            exact ⟨rfl, M10.out.bel.trans (H11.out.mono M10.out.bel.size)⟩

set_option maxRecDepth 100000 in
set_option maxHeartbeats 1000000 in
theorem lifted (os : Os) (started : os.Started) (H : Type) (enc : TypeId × Value → H) :
    ReturnsInHanded {} Try.checked os 6 .any (Rows.offsetsRaisedSpec.pre6 enc Try.prog Try.f6 Rows.offsetsRaisedRow.domain false) (Rows.offsetsRaisedSpec.post enc Try.prog Try.f6 false true false false) := by
  refine returnsInHanded_of_change (C := Try.checked) own started (by kernel_rfl) Try.func6
    (ChangeSpec.witness6 (enc := enc) (C := Try.checked) false ⟨#[], #[.slice none 0 0, .agg #[.string ByteArray.empty, .int .i64 0], .int .i64 0], []⟩ 8 (by kernel_rfl) (by kernel_rfl) (by kernel_rfl) (by kernel_rfl)) ?_
  intro W base args ds gs before hval0 hW _ _
  have hval : ∀ (j : Nat) t v, Try.f6.params[j]? = some t → args[j]? = some v → Value.okWide Try.prog W .any base t v := hval0
  have hW' := hW
  obtain ⟨p, q, hA0, hV, rfl, hfz, hnd⟩ := hW
  have hA : DataW.TrodAll enc Try.prog W 0 (fun _ => true) true Try.f6.params.toList args.toList ds p := hA0
  rw [Try.params6] at hA hval
  obtain ⟨v0, vs0, d0, ds0, p0, q0, hargs, rfl, rfl, h0, r0⟩ := trodAll_cons hA
  obtain ⟨v1, vs1, d1, ds1, p1, q1, rfl, rfl, rfl, h1, r1⟩ := trodAll_cons r0
  obtain ⟨v2, vs2, d2, ds2, p2, q2, rfl, rfl, rfl, h2, r2⟩ := trodAll_cons r1
  obtain ⟨rfl, rfl, rfl⟩ := trodAll_nil r2
  obtain rfl : args = #[v0, v1, v2] := by cases args; simp_all
  obtain ⟨rfl, rfl⟩ := trodVars_none hV
  have k0 := h0
  have lt0 : ∀ x ∈ p0, x.block < W.heap.size := by obtain ⟨m, hm⟩ := k0; exact DataW.trod_lt m _ _ _ hm
  have k1 := h1
  have lt1 : ∀ x ∈ p1, x.block < W.heap.size := by obtain ⟨m, hm⟩ := k1; exact DataW.trod_lt m _ _ _ hm
  have k2 := h2
  have lt2 : ∀ x ∈ p2, x.block < W.heap.size := by obtain ⟨m, hm⟩ := k2; exact DataW.trod_lt m _ _ _ hm
  obtain ⟨A0, l0, c0, e0, R0, S0, Z0⟩ := L12.open_ops (hval 0 22 v0 rfl rfl) h0
  subst e0
  obtain ⟨t1, n1, e1, S1, w1⟩ := L12.open_part (hval 1 30 v1 rfl rfl) h1
  subst e1
  obtain ⟨a2, e2, _, _, w2⟩ := open_int Try.underlying3 (hval 2 3 v2 rfl rfl) h2
  subst e2
  clear hA0 hval0
  refine (walk W A0 l0 c0 R0 S0 Z0 t1 n1 S1 w1 a2 w2).mono fun e W' ⟨he, bel⟩ => ?_
  subst he
  exact ⟨_, rfl, _, _, _, [], _, [], hW', trodAll_mk1 (shut_bool Try.underlying4 _), (trodAll_cons_mk (Below.trod laidOut (by kernel_rfl) (of_decide_eq_true (by kernel_rfl)) k0 bel lt0) (trodAll_cons_mk (Below.trod laidOut (by kernel_rfl) (of_decide_eq_true (by kernel_rfl)) k1 bel lt1) (trodAll_cons_mk (Below.trod laidOut (by kernel_rfl) (of_decide_eq_true (by kernel_rfl)) k2 bel lt2) trodAll_mk0))), rfl, bel.frame _, fun h => by cases h⟩

theorem over : Rows.offsetsRaisedRow.holds Try.pinned (OpenSpec.ofChange Rows.offsetsRaisedSpec) :=
  OpenClaim.holds_of_wide 6 Try.f6 rfl rfl rfl rfl rfl rfl rfl ⟨rfl, rfl, rfl, rfl, rfl⟩ rfl rfl rfl rfl rfl (by kernel_rfl) Try.func6 (by kernel_rfl)
    (of_decide_eq_true (by kernel_rfl)) (by unfold Func.isWrapper; first | (rw [if_pos (by decide +kernel)]; kernel_rfl) | (rw [if_neg (by decide +kernel)]; exact ⟨rfl, rfl⟩))
    (fun os started H enc _ => lifted os started H enc)

/-- the statement -/
theorem proved : Rows.OffsetsRaisedSaid :=
  over
#print axioms proved
end Go.Proofs.Ytadpjeolgpiojaa.offsetsRaised
