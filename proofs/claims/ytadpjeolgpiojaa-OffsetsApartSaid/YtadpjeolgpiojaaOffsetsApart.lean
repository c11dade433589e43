/-
  Marks of a group go with it, all of them, and no other one's.
-/
import Derived.Test.YtadpjeolgpiojaaRows
import Derived.WalkKit
import Derived.ProofKit
import Derived.OpenShut
import Derived.ShutString
import Derived.ChangeOld
import Derived.Below
import Derived.Test.YtadpjeolgpiojaaOfFixed
import Derived.LoopTactic
import Derived.IntWalk
import Derived.Deep.Cut
import Derived.Deep.CutBlock
namespace Go.Proofs.Ytadpjeolgpiojaa.offsetsApart
open Go.ChangeShapes Go.WideShapes Go.ChangeAt Go.RowKit Go.Deep
open Go.ChangeMaps (open_string shut_string)
open L3 L4 L12

theorem own : ownKnob Try.prog.godebug = none := by kernel_rfl
theorem laidOut : laidOutB Try.prog = true := by kernel_rfl

theorem drop_cut (Q : List Mr) (c : ByteArray) (j : Nat) : dropQ Q c = dropQ (Q.take j) c ++ dropQ (Q.drop j) c := by
  unfold dropQ
  rw [← List.filter_append, List.take_append_drop]
theorem drop_next {Q : List Mr} {c : ByteArray} {j : Nat} {m : Mr} (h : Q[j]? = some m) : (dropQ (Q.take (j + 1)) c).length = (dropQ (Q.take j) c).length + (if m.g = c then 0 else 1) := by
  unfold dropQ
  rw [List.take_add_one, h, Option.toList_some, List.filter_append, List.length_append]
  congr 1
  by_cases e : m.g = c <;> simp [e]
theorem drop_at {Q : List Mr} {c : ByteArray} {j : Nat} {m : Mr} (h : Q[j]? = some m) (hn : m.g ≠ c) : (dropQ Q c)[(dropQ (Q.take j) c).length]? = some m := by
  obtain ⟨hj, e⟩ := List.getElem?_eq_some_iff.1 h
  rw [drop_cut Q c j, List.getElem?_append_right (Nat.le_refl _), Nat.sub_self, List.drop_eq_getElem_cons hj, e]
  unfold dropQ
  simp [hn]
set_option maxRecDepth 100000 in
set_option maxHeartbeats 16000000 in
theorem walk (W : World) (A0 : Option Addr) (l0 : List Oc) (c0 : Nat) (RO : Hid (OpsO W W.heap.size A0 l0)) (SO : Hid (∀ r ∈ l0, SizeR r.m)) (Z0 : l0.length ≤ maxLen) (a1 : ByteArray) (w1 : a1.size ≤ maxLen) :
    Calls Try.prog 7 #[.slice A0 l0.length c0, .string a1] W fun e w' => e = .returned (.bool true) ∧ Below W.heap.size W w' := by
  obtain ⟨n0, hn0⟩ : ∃ n, l0.length = n := ⟨_, rfl⟩
  have HN := Lib.hid hn0
  have Z1 := Z0
  unfold maxLen at Z1
  rw [hn0] at Z1 ⊢
  obtain ⟨c, hc⟩ : ∃ c, a1.extract 0 (min (a1.size : Int) 40).toNat = c := ⟨_, rfl⟩
  unfold maxLen at w1
  have m0 : (0 : Int) ≤ min (a1.size : Int) 40 := by omega
  have m1 : min (a1.size : Int) 40 ≤ (a1.size : Int) := by omega
  have m2 : (min (a1.size : Int) 40).toNat ≤ a1.size := by omega
  have HB0 : Hid (Below W.heap.size W W) := Lib.hid (Below.refl _ _)
  clear hn0 Z0
  go_enter Try.func7, Try.ntmps7
  go_wp2_with (go_at_call 9; refine (m_new W W HB0).mono ?_; rintro e wz ⟨gt, bb, rfl, mz, -, -, -⟩; have M0 := Lib.hid mz; clear mz)
  go_loopw [6] (fun i wr => ∃ (k : Nat) (Q : List Mr), k ≤ n0 ∧ k ≤ 60 ∧ i = .int .i64 k ∧ Q.length ≤ k ∧ Hid (LT W wr gt bb k Q)) (fun i _ => n0 - (intOf i).toNat)
  case atStart => exact ⟨0, [], Nat.zero_le _, Nat.zero_le _, rfl, Nat.le_refl _, M0⟩
  case round =>
    obtain ⟨k, Q, hk, hk6, rfl, hQ, HM⟩ := hrel
    by_cases hlt : k < n0 ∧ k < 60
    · obtain ⟨hlt, hlt6⟩ := hlt
      obtain ⟨ga, oo, rfl, hga, hcells⟩ := RO.out (by rw [HN.out]; omega)
      obtain ⟨⟨kind, ⟨gr, t, p, o⟩⟩, hst⟩ : ∃ st, l0[k]? = some st := ⟨l0[k]'(by rw [HN.out]; exact hlt), List.getElem?_eq_getElem _⟩
      obtain ⟨c0, c1, c2, c3, c4⟩ := hcells k _ hst
      have d1 := cell_at HM.out.bel c1
      have d2 := cell_at HM.out.bel c2
      have d3 := cell_at HM.out.bel c3
      have d4 := cell_at HM.out.bel c4
      dsimp only at d1 d2 d3 d4
      obtain ⟨z0, z1, z2, z3⟩ := SO.out _ (List.mem_of_getElem? hst)
      dsimp only at z0 z1 z2 z3
      obtain ⟨cg, hcg⟩ : ∃ c, cutB gr = c := ⟨_, rfl⟩
      obtain ⟨ct, hct⟩ : ∃ c, cutB t = c := ⟨_, rfl⟩
      have HCG := Lib.hid hcg
      have HCT := Lib.hid hct
      have ZG : Hid (cg.size ≤ maxLen) := Lib.hid (by rw [← hcg]; have := cutB_size gr; unfold maxLen; omega)
      have ZT : Hid (ct.size ≤ maxLen) := Lib.hid (by rw [← hct]; have := cutB_size t; unfold maxLen; omega)
      have HP := Lib.hid z2
      obtain ⟨x, hx⟩ : ∃ x, putE Q ⟨cg, ct, p, o⟩ = x := ⟨_, rfl⟩
      obtain ⟨Q2, hq2⟩ : ∃ Q2, putQ Q ⟨cg, ct, p, o⟩ = Q2 := ⟨_, rfl⟩
      have HX := Lib.hid hx
      have HQ2 := Lib.hid hq2
      have hl2 : Q2.length ≤ k + 1 := by rw [← hq2]; have := len_put Q ⟨cg, ct, p, o⟩; omega
      have k0 : (0 : Int) ≤ (k : Int) := by omega
      have k1 : (k : Int) < (n0 : Int) := by omega
      have k6 : (k : Int) < 60 := by omega
      have kN : k ≤ 1000000 := by omega
      have ltA : ga < wr.heap.size := Nat.lt_of_lt_of_le hga HM.out.bel.size
      clear hst hcells c0 c1 c2 c3 c4 z2 z3 hcg hct hx hq2
      go_wp2_with (first
        | (go_at_call 11; have _q := HB2; refine (m_put cg ct p o x Q2 (Lib.hid (HM.out.below HB2.out)) kN ZG ZT HP HX HQ2).mono ?_; rintro e w3 ⟨rfl, m3, -, -⟩; have M3 := Lib.hid m3; clear m3)
        | (go_at_call 10; refine (cut_is _ gr t cg ct p o z0 z1 HCG HCT).mono ?_; rintro e w2 ⟨rfl, hb2⟩; have HB2 := Lib.hid hb2; clear hb2))
      go_roundw
      case rel => exact ⟨k + 1, Q2, by omega, by omega, by go_num, hl2, M3⟩
      case measure => simp [intOf]; omega
    · have hor : ¬ k < n0 ∨ (k < n0 ∧ ¬ k < 60) := by omega
      obtain ⟨kb, hkb⟩ : ∃ kb, k = kb := ⟨_, rfl⟩
      rcases hor with h1 | ⟨h1, h2⟩
      · have q1 : ¬ (k : Int) < (n0 : Int) := by omega
        clear hlt h1 hkb
        obtain ⟨L, hL⟩ : ∃ L, Q.length = L := ⟨_, rfl⟩
        have HL := Lib.hid hL
        have hLk : L ≤ 60 := by omega
        have hL1 : L ≤ 1000000 := by omega
        obtain ⟨dn, hdn⟩ : ∃ x, dropN Q c = x := ⟨_, rfl⟩
        obtain ⟨Q2, hq2⟩ : ∃ Q2, dropQ Q c = Q2 := ⟨_, rfl⟩
        obtain ⟨L2, hL2⟩ : ∃ L, Q2.length = L := ⟨_, rfl⟩
        have HDN := Lib.hid hdn
        have HQ2 := Lib.hid hq2
        have HL2 := Lib.hid hL2
        have hL22 : L2 ≤ L := by rw [← hL2, ← hq2, ← hL]; exact len_drop Q c
        have hL21 : L2 ≤ 1000000 := by omega
        clear hL hdn hq2 hL2 hQ hk hk6
        go_wp2_with (first
          | (go_at_call 20; have _q := M2; refine (m_list L2 M2 HL2 hL21).mono ?_; rintro e w3 ⟨A3, c3, rfl, o3, h3⟩; have M3 := Lib.hid (M2.out.below h3); have R3 := Lib.hid (own_reads o3 HL2.out (own_lt o3)); have R1b := Lib.hid (R1.out.keepC (KeepC.below h3) h3.size); clear o3 h3)
          | (go_at_call 15; have _q := M1; refine (m_drop c dn Q2 L M1 HL hL1 HDN HQ2).mono ?_; rintro e w2 ⟨rfl, m2, k2, o2⟩; have M2 := Lib.hid m2; have R1 := Lib.hid (R0.out.keepC k2 o2.size); clear m2 k2 o2)
          | (go_at_call 20; have _q := HM; refine (m_list L HM HL hL1).mono ?_; rintro e w1 ⟨A1, c1, rfl, o1, h1⟩; have M1 := Lib.hid (HM.out.below h1); have R0 := Lib.hid (own_reads o1 HL.out (own_lt o1)); clear o1 h1))
        clear q1
        try clear q2

        go_loopw [12, 11] (fun i v wr => ∃ j q : Nat, j ≤ L ∧ i = .int .i64 j ∧ v = .int .i64 q ∧ Hid ((dropQ (Q.take j) c).length = q) ∧ Hid (Below w3.heap.size w3 wr)) (fun i _ _ => L - (intOf i).toNat)
        case atStart => exact ⟨0, 0, Nat.zero_le _, rfl, rfl, Lib.hid rfl, Lib.hid (Below.refl _ _)⟩
        case round =>
          obtain ⟨j, q, hj, rfl, rfl, HQJ, HBJ⟩ := hrel
          have hq : q ≤ L2 := by rw [← HQJ.out, ← HL2.out, ← HQ2.out, drop_cut Q c j, List.length_append]; omega
          by_cases hlt : j < L
          · obtain ⟨⟨g2, t2, p2, o2⟩, hst⟩ : ∃ st, Q[j]? = some st := ⟨Q[j]'(by rw [HL.out]; exact hlt), List.getElem?_eq_getElem _⟩
            obtain ⟨ga, oa, rfl, hga, hca⟩ := R1b.out (by rw [HL.out]; omega)
            obtain ⟨x0, x1, x2, x3⟩ := hca j _ hst
            have d0 := cell_at HBJ.out x0
            have d1 := cell_at HBJ.out x1
            have d2 := cell_at HBJ.out x2
            have d3 := cell_at HBJ.out x3
            dsimp only at d0 d1 d2 d3
            have j0 : (0 : Int) ≤ (j : Int) := by omega
            have j1 : (j : Int) < (L : Int) := by omega
            have HST := Lib.hid hst
            have hnx := drop_next (c := c) hst
            rw [HQJ.out] at hnx
            dsimp only at hnx
            have HNX := Lib.hid hnx
            clear x0 x1 x2 x3 hca hst hnx
            by_cases hg : g2 = c
            · subst hg
              have HQ3 : Hid ((dropQ (Q.take (j + 1)) g2).length = q) := Lib.hid (by rw [HNX.out, if_pos rfl, Nat.add_zero])
              clear HNX
              go_wp2_with fail
              go_roundw
              case rel => exact ⟨j + 1, q, by omega, by go_num, rfl, HQ3, HBJ⟩
              case measure => simp [intOf]; omega
            · have HQ3 : Hid ((dropQ (Q.take (j + 1)) c).length = q + 1) := Lib.hid (by rw [HNX.out, if_neg hg])
              have hql : q < L2 := by
                have := HQ3.out
                rw [← HL2.out, ← HQ2.out, drop_cut Q c (j + 1), List.length_append]; omega
              have hat := drop_at HST.out hg
              rw [HQJ.out, HQ2.out] at hat
              obtain ⟨gb, ob, rfl, hgb, hcb⟩ := R3.out (by rw [HL2.out]; omega)
              obtain ⟨y0, y1, y2, y3⟩ := hcb q _ hat
              have f0 := cell_at HBJ.out y0
              have f1 := cell_at HBJ.out y1
              have f2 := cell_at HBJ.out y2
              have f3 := cell_at HBJ.out y3
              dsimp only at f0 f1 f2 f3
              have t1 : (g2.toList == c.toList) = false := bytes_off hg
              have r0 : decide ((L2 : Int) ≤ (q : Int)) = false := decide_eq_false (by omega)
              have r1 : decide (L2 ≤ q) = false := decide_eq_false (by omega)
              have r2 : ¬ L2 ≤ q := by omega
              have r3 : (0 : Int) ≤ (q : Int) := by omega
              have r4 : (q : Int) < (L2 : Int) := by omega
              clear HNX y0 y1 y2 y3 hcb hat hg
              go_wp2_with fail
              go_quiet (fail)
              go_wp2_with fail
              go_roundw
              case rel => exact ⟨j + 1, q + 1, by omega, by go_num, by go_num, HQ3, Lib.hid (drewN_below HBJ.out _)⟩
              case measure => simp [intOf]; omega
          · obtain rfl : j = L := by omega
            have hq2 : q = L2 := by
              have := HQJ.out
              rw [List.take_of_length_le (by rw [HL.out]; exact Nat.le_refl _), HQ2.out, HL2.out] at this
              exact this.symm
            subst hq2
            have hdn : dn = (j : Int) - (q : Int) := by rw [← HDN.out]; unfold dropN; rw [HQ2.out, HL2.out, HL.out]
            subst hdn
            have e1 : wrap64 ((j : Int) - (q : Int)) = (j : Int) - (q : Int) := by simp only [wrap64]; omega
            have M4 := Lib.hid (M3.out.below HBJ.out)
            clear hlt
            go_wp2_with (go_at_call 24; refine (fixed12_any _).mono ?_; rintro e w9 ⟨rfl, h9⟩; have H9 := Lib.hid h9; clear h9)
            go_ret
            exact ⟨rfl, M4.out.bel.trans (H9.out.mono M4.out.bel.size)⟩
      · have q1 : (k : Int) < (n0 : Int) := by omega
        have q2 : ¬ (k : Int) < 60 := by omega
        clear hlt h1 h2 hkb
        obtain ⟨L, hL⟩ : ∃ L, Q.length = L := ⟨_, rfl⟩
        have HL := Lib.hid hL
        have hLk : L ≤ 60 := by omega
        have hL1 : L ≤ 1000000 := by omega
        obtain ⟨dn, hdn⟩ : ∃ x, dropN Q c = x := ⟨_, rfl⟩
        obtain ⟨Q2, hq2⟩ : ∃ Q2, dropQ Q c = Q2 := ⟨_, rfl⟩
        obtain ⟨L2, hL2⟩ : ∃ L, Q2.length = L := ⟨_, rfl⟩
        have HDN := Lib.hid hdn
        have HQ2 := Lib.hid hq2
        have HL2 := Lib.hid hL2
        have hL22 : L2 ≤ L := by rw [← hL2, ← hq2, ← hL]; exact len_drop Q c
        have hL21 : L2 ≤ 1000000 := by omega
        clear hL hdn hq2 hL2 hQ hk hk6
        go_wp2_with (first
          | (go_at_call 20; have _q := M2; refine (m_list L2 M2 HL2 hL21).mono ?_; rintro e w3 ⟨A3, c3, rfl, o3, h3⟩; have M3 := Lib.hid (M2.out.below h3); have R3 := Lib.hid (own_reads o3 HL2.out (own_lt o3)); have R1b := Lib.hid (R1.out.keepC (KeepC.below h3) h3.size); clear o3 h3)
          | (go_at_call 15; have _q := M1; refine (m_drop c dn Q2 L M1 HL hL1 HDN HQ2).mono ?_; rintro e w2 ⟨rfl, m2, k2, o2⟩; have M2 := Lib.hid m2; have R1 := Lib.hid (R0.out.keepC k2 o2.size); clear m2 k2 o2)
          | (go_at_call 20; have _q := HM; refine (m_list L HM HL hL1).mono ?_; rintro e w1 ⟨A1, c1, rfl, o1, h1⟩; have M1 := Lib.hid (HM.out.below h1); have R0 := Lib.hid (own_reads o1 HL.out (own_lt o1)); clear o1 h1))
        clear q1
        try clear q2

        go_loopw [12, 11] (fun i v wr => ∃ j q : Nat, j ≤ L ∧ i = .int .i64 j ∧ v = .int .i64 q ∧ Hid ((dropQ (Q.take j) c).length = q) ∧ Hid (Below w3.heap.size w3 wr)) (fun i _ _ => L - (intOf i).toNat)
        case atStart => exact ⟨0, 0, Nat.zero_le _, rfl, rfl, Lib.hid rfl, Lib.hid (Below.refl _ _)⟩
        case round =>
          obtain ⟨j, q, hj, rfl, rfl, HQJ, HBJ⟩ := hrel
          have hq : q ≤ L2 := by rw [← HQJ.out, ← HL2.out, ← HQ2.out, drop_cut Q c j, List.length_append]; omega
          by_cases hlt : j < L
          · obtain ⟨⟨g2, t2, p2, o2⟩, hst⟩ : ∃ st, Q[j]? = some st := ⟨Q[j]'(by rw [HL.out]; exact hlt), List.getElem?_eq_getElem _⟩
            obtain ⟨ga, oa, rfl, hga, hca⟩ := R1b.out (by rw [HL.out]; omega)
            obtain ⟨x0, x1, x2, x3⟩ := hca j _ hst
            have d0 := cell_at HBJ.out x0
            have d1 := cell_at HBJ.out x1
            have d2 := cell_at HBJ.out x2
            have d3 := cell_at HBJ.out x3
            dsimp only at d0 d1 d2 d3
            have j0 : (0 : Int) ≤ (j : Int) := by omega
            have j1 : (j : Int) < (L : Int) := by omega
            have HST := Lib.hid hst
            have hnx := drop_next (c := c) hst
            rw [HQJ.out] at hnx
            dsimp only at hnx
            have HNX := Lib.hid hnx
            clear x0 x1 x2 x3 hca hst hnx
            by_cases hg : g2 = c
            · subst hg
              have HQ3 : Hid ((dropQ (Q.take (j + 1)) g2).length = q) := Lib.hid (by rw [HNX.out, if_pos rfl, Nat.add_zero])
              clear HNX
              go_wp2_with fail
              go_roundw
              case rel => exact ⟨j + 1, q, by omega, by go_num, rfl, HQ3, HBJ⟩
              case measure => simp [intOf]; omega
            · have HQ3 : Hid ((dropQ (Q.take (j + 1)) c).length = q + 1) := Lib.hid (by rw [HNX.out, if_neg hg])
              have hql : q < L2 := by
                have := HQ3.out
                rw [← HL2.out, ← HQ2.out, drop_cut Q c (j + 1), List.length_append]; omega
              have hat := drop_at HST.out hg
              rw [HQJ.out, HQ2.out] at hat
              obtain ⟨gb, ob, rfl, hgb, hcb⟩ := R3.out (by rw [HL2.out]; omega)
              obtain ⟨y0, y1, y2, y3⟩ := hcb q _ hat
              have f0 := cell_at HBJ.out y0
              have f1 := cell_at HBJ.out y1
              have f2 := cell_at HBJ.out y2
              have f3 := cell_at HBJ.out y3
              dsimp only at f0 f1 f2 f3
              have t1 : (g2.toList == c.toList) = false := bytes_off hg
              have r0 : decide ((L2 : Int) ≤ (q : Int)) = false := decide_eq_false (by omega)
              have r1 : decide (L2 ≤ q) = false := decide_eq_false (by omega)
              have r2 : ¬ L2 ≤ q := by omega
              have r3 : (0 : Int) ≤ (q : Int) := by omega
              have r4 : (q : Int) < (L2 : Int) := by omega
              clear HNX y0 y1 y2 y3 hcb hat hg
              go_wp2_with fail
              go_quiet (fail)
              go_wp2_with fail
              go_roundw
              case rel => exact ⟨j + 1, q + 1, by omega, by go_num, by go_num, HQ3, Lib.hid (drewN_below HBJ.out _)⟩
              case measure => simp [intOf]; omega
          · obtain rfl : j = L := by omega
            have hq2 : q = L2 := by
              have := HQJ.out
              rw [List.take_of_length_le (by rw [HL.out]; exact Nat.le_refl _), HQ2.out, HL2.out] at this
              exact this.symm
            subst hq2
            have hdn : dn = (j : Int) - (q : Int) := by rw [← HDN.out]; unfold dropN; rw [HQ2.out, HL2.out, HL.out]
            subst hdn
            have e1 : wrap64 ((j : Int) - (q : Int)) = (j : Int) - (q : Int) := by simp only [wrap64]; omega
            have M4 := Lib.hid (M3.out.below HBJ.out)
            clear hlt
            go_wp2_with (go_at_call 24; refine (fixed12_any _).mono ?_; rintro e w9 ⟨rfl, h9⟩; have H9 := Lib.hid h9; clear h9)
            go_ret
            exact ⟨rfl, M4.out.bel.trans (H9.out.mono M4.out.bel.size)⟩

set_option maxRecDepth 100000 in
set_option maxHeartbeats 1000000 in
theorem lifted (os : Os) (started : os.Started) (H : Type) (enc : TypeId × Value → H) :
    ReturnsInHanded {} Try.checked os 7 .any (Rows.offsetsApartSpec.pre6 enc Try.prog Try.f7 Rows.offsetsApartRow.domain false) (Rows.offsetsApartSpec.post enc Try.prog Try.f7 false true false false) := by
  refine returnsInHanded_of_change (C := Try.checked) own started (by kernel_rfl) Try.func7
    (ChangeSpec.witness6 (enc := enc) (C := Try.checked) false ⟨#[], #[.slice none 0 0, .string ByteArray.empty], []⟩ 8 (by kernel_rfl) (by kernel_rfl) (by kernel_rfl) (by kernel_rfl)) ?_
  intro W base args ds gs before hval0 hW _ _
  have hval : ∀ (j : Nat) t v, Try.f7.params[j]? = some t → args[j]? = some v → Value.okWide Try.prog W .any base t v := hval0
  have hW' := hW
  obtain ⟨p, q, hA0, hV, rfl, hfz, hnd⟩ := hW
  have hA : DataW.TrodAll enc Try.prog W 0 (fun _ => true) true Try.f7.params.toList args.toList ds p := hA0
  rw [Try.params7] at hA hval
  obtain ⟨v0, vs0, d0, ds0, p0, q0, hargs, rfl, rfl, h0, r0⟩ := trodAll_cons hA
  obtain ⟨v1, vs1, d1, ds1, p1, q1, rfl, rfl, rfl, h1, r1⟩ := trodAll_cons r0
  obtain ⟨rfl, rfl, rfl⟩ := trodAll_nil r1
  obtain rfl : args = #[v0, v1] := by cases args; simp_all
  obtain ⟨rfl, rfl⟩ := trodVars_none hV
  have k0 := h0
  have lt0 : ∀ x ∈ p0, x.block < W.heap.size := by obtain ⟨m, hm⟩ := k0; exact DataW.trod_lt m _ _ _ hm
  have k1 := h1
  have lt1 : ∀ x ∈ p1, x.block < W.heap.size := by obtain ⟨m, hm⟩ := k1; exact DataW.trod_lt m _ _ _ hm
  obtain ⟨A0, l0, c0, e0, R0, S0, Z0⟩ := L12.open_ops (hval 0 22 v0 rfl rfl) h0
  subst e0
  obtain ⟨a1, e1, _, _, w1⟩ := open_string Try.underlying9 (hval 1 9 v1 rfl rfl) h1
  subst e1
  clear hA0 hval0
  refine (walk W A0 l0 c0 R0 S0 Z0 a1 w1).mono fun e W' ⟨he, bel⟩ => ?_
  subst he
  exact ⟨_, rfl, _, _, _, [], _, [], hW', trodAll_mk1 (shut_bool Try.underlying4 _), (trodAll_cons_mk (Below.trod laidOut (by kernel_rfl) (of_decide_eq_true (by kernel_rfl)) k0 bel lt0) (trodAll_cons_mk (Below.trod laidOut (by kernel_rfl) (of_decide_eq_true (by kernel_rfl)) k1 bel lt1) trodAll_mk0)), rfl, bel.frame _, fun h => by cases h⟩

theorem over : Rows.offsetsApartRow.holds Try.pinned (OpenSpec.ofChange Rows.offsetsApartSpec) :=
  OpenClaim.holds_of_wide 7 Try.f7 rfl rfl rfl rfl rfl rfl rfl ⟨rfl, rfl, rfl, rfl, rfl⟩ rfl rfl rfl rfl rfl (by kernel_rfl) Try.func7 (by kernel_rfl)
    (of_decide_eq_true (by kernel_rfl)) (by unfold Func.isWrapper; first | (rw [if_pos (by decide +kernel)]; kernel_rfl) | (rw [if_neg (by decide +kernel)]; exact ⟨rfl, rfl⟩))
    (fun os started H enc _ => lifted os started H enc)

/-- the statement -/
theorem proved : Rows.OffsetsApartSaid :=
  over
#print axioms proved
end Go.Proofs.Ytadpjeolgpiojaa.offsetsApart
