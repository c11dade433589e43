/-
  Of all names the partitions are as many as all topics have; each is there, once, in order; none of a topic that is not asked for.
-/
import Derived.Test.YtohfbmgonjkhhaaRows
import Derived.WalkKit
import Derived.ProofKit
import Derived.OpenShut
import Derived.ShutString
import Derived.ChangeOld
import Derived.Below
import Derived.Test.YtohfbmgonjkhhaaTpSome
import Derived.Deep.RegionHeld3
import Derived.Deep.DeepCutAuto
import Derived.LoopTactic
import Derived.IntWalk
namespace Go.Proofs.Ytohfbmgonjkhhaa.topicsParts
open Go.ChangeShapes Go.WideShapes Go.ChangeAt Go.RowKit Go.Deep
open Go.ChangeMaps (open_string shut_string)
open L3 L4 L9

theorem own : ownKnob Try.prog.godebug = none := by kernel_rfl
theorem laidOut : laidOutB Try.prog = true := by kernel_rfl

theorem mask_le (m : Nat) (hm : m < 9223372036854775808) (x : Int) : 0 ≤ bits .and .i64 x (m : Int) ∧ bits .and .i64 x (m : Int) ≤ m := by
  have e : (BitVec.ofInt 64 x &&& BitVec.ofInt 64 (m : Int)).toNat ≤ m := by
    rw [BitVec.toNat_and]
    refine Nat.le_trans Nat.and_le_right ?_
    rw [BitVec.ofInt_natCast, BitVec.toNat_ofNat, Nat.mod_eq_of_lt (by omega)]
    exact Nat.le_refl _
  show 0 ≤ IntKind.i64.wrap ((BitVec.ofInt 64 x &&& BitVec.ofInt 64 (m : Int)).toNat : Int) ∧ IntKind.i64.wrap ((BitVec.ofInt 64 x &&& BitVec.ofInt 64 (m : Int)).toNat : Int) ≤ m
  rw [IntWalk.i64_in _ (by omega)]
  omega
/-- what lies between two rounds: names that were told -/
structure NL (W wr : World) (ns : List ByteArray) (A : Option Addr) (i c : Nat) : Prop where
  row : wr.ownsRow W.heap.size 9 1 (.slice A i c) i (texts ns)
  len : ns.length = i
  bel : Below W.heap.size W wr
set_option maxRecDepth 100000 in
set_option maxHeartbeats 16000000 in
theorem walk (W : World) (A0 : Option Addr) (l0 : List L9.Op) (c0 : Nat) (R0 : IsOps W A0 l0) (a1 : ByteArray) (ha1 : a1.size ≤ maxLen) :
    Calls Try.prog 5 #[.slice A0 l0.length c0, .string a1] W fun e w' => e = .returned (.bool true) ∧ Below W.heap.size W w' := by
  have HB0 : Hid (Below W.heap.size W W) := Lib.hid (Below.refl _ _)
  obtain ⟨m, hm⟩ : ∃ m, l0.length = m := ⟨_, rfl⟩
  obtain ⟨HT, HSZ, hml⟩ := R0
  rw [hm] at hml ⊢
  unfold maxLen at hml
  have HL0 := Lib.hid hm
  have HA1 : Hid (a1.size ≤ maxLen) := Lib.hid ha1
  obtain ⟨u, hu⟩ : ∃ u, cutB a1 = u := ⟨_, rfl⟩
  have HU := Lib.hid hu
  have HUS : Hid (u.size ≤ maxLen) := Lib.hid (by rw [← hu]; have := cutB_size a1; unfold maxLen; omega)
  obtain ⟨i0, hi0, hz0, hz1, hz2⟩ := info_parts strInfo9
  clear hm hu
  go_enter Try.func5, Try.ntmps5
  go_wp2_with (go_at_call 8; refine (m9_new W W HB0).mono ?_; rintro e w0 ⟨g, bb, rfl, m1, h1, -⟩; have M0 := Lib.hid m1; clear m1 h1)
  go_loopw [6] (fun p wr => ∃ (j : Nat) (Q : List Pt), j ≤ m ∧ j ≤ 60 ∧ p = .int .i64 j ∧ Hid (LC W wr g bb j Q)) (fun p _ => 60 - (intOf p).toNat)
  case atStart => exact ⟨0, [], Nat.zero_le _, by omega, rfl, M0⟩
  case round =>
    obtain ⟨j, Q, hj, hj60, rfl, HM⟩ := hrel
    by_cases hlt : j < m ∧ j < 60
    · obtain ⟨h1, h2⟩ := hlt
      obtain ⟨og, oo, rfl, hog, hcs⟩ := HT.out (by rw [HL0.out]; omega)
      obtain ⟨⟨kd, s, n⟩, hst⟩ : ∃ y : L9.Op, l0[j]? = some y := ⟨l0[j]'(by rw [HL0.out]; exact h1), List.getElem?_eq_getElem _⟩
      obtain ⟨_, e0, e1⟩ := hcs j _ hst
      dsimp only at e0 e1
      have d0 := (HM.out.bel.cell (p := ⟨og, oo + j * 3 + 1, none⟩) hog).trans e0
      have d1 := (HM.out.bel.cell (p := ⟨og, oo + j * 3 + 2, none⟩) hog).trans e1
      have HTS : Hid (s.size ≤ maxLen) := Lib.hid (HSZ.out _ (List.mem_of_getElem? hst))
      obtain ⟨v, hv⟩ : ∃ v, cutB s = v := ⟨_, rfl⟩
      have HV := Lib.hid hv
      have HVS : Hid (v.size ≤ 281474976710656) := Lib.hid (by rw [← hv]; have := cutB_size s; omega)
      have j0 : (0 : Int) ≤ (j : Int) := by omega
      have j1 : (j : Int) < (m : Int) := by omega
      have j2 : (j : Int) < 60 := by omega
      clear hcs hst hv e0 e1
      go_upto_region 7 with fail
      go_region_held3 (fun w' => w'.cell? ⟨og, oo + j * 3 + 1, none⟩ = some (.string s) ∧ w'.cell? ⟨og, oo + j * 3 + 2, none⟩ = some (.int .i64 n))
        (first
          | assumption
          | go_keep
          | exact ⟨k1 _ _ d0, k1 _ _ d1⟩)
        (first
          | (go_at_call 9; refine (cut_is _ s v HTS.out HV).mono ?_; rintro e wz ⟨rfl, hwz⟩; obtain rfl := hwz.symm)
          | (go_at_call 10; refine (m9_make v n (makeE Q v n) (makeQ Q v n) (by first | exact HM | exact Lib.hid (HM.out.below (drewB9 _))) (by omega) HVS.out (Lib.hid rfl) (Lib.hid rfl)).mono ?_; rintro e w1 ⟨rfl, m1, k1, -, -⟩; have M1 := Lib.hid m1))
      go_wp2_with fail
      go_roundw
      case rel => exact ⟨j + 1, _, by omega, by omega, by go_num, M1⟩
      case measure => simp [intOf]; omega
    · have hd : m ≤ j ∨ (j < m ∧ 60 ≤ j) := by omega
      rcases hd with hd | ⟨hd1, hd2⟩
      · have j1 : ¬ (j : Int) < (m : Int) := by omega
        have G := Lib.hid HM.out.good
        obtain ⟨lm, hlm⟩ : ∃ n, Q.length = n := ⟨_, rfl⟩
        have HLM := Lib.hid hlm
        have hl8 : lm ≤ 8 := by rw [← hlm]; exact G.out.len
        clear HT HSZ HL0 hml hlm
        go_wp2_with (go_at_call 17; refine (m9_list lm HM HLM.out).mono ?_; rintro e w1 ⟨A7, c7, rfl, o7, h7⟩; have M1 := Lib.hid (HM.out.below h7); have R7 := Lib.hid (own_reads o7 HLM.out (own_lt o7)); clear o7)
        go_loopw [8, 9, 10] (fun s n p wr => ∃ (i c : Nat) (A : Option Addr), i ≤ lm ∧ s = .slice A i c ∧ n = .int .i64 (allN (Q.take i) : Nat) ∧ p = .int .i64 i ∧ Hid (NL w1 wr ((Q.take i).map Pt.t) A i c)) (fun _ _ p _ => lm - (intOf p).toNat)
        case atStart => exact ⟨0, 0, _, Nat.zero_le _, rfl, rfl, rfl, Lib.hid ⟨World.ownsRow_made w1 #[] 0 (Nat.le_refl _) (by unfold maxLen; omega) rfl, rfl, one_box' _⟩⟩
        case round =>
          obtain ⟨i, c, A, hi, rfl, rfl, rfl, HP⟩ := hrel
          by_cases hlt : i < lm
          · obtain ⟨ga, rfl, hga, hcs⟩ := R7.out (by rw [HLM.out]; omega)
            obtain ⟨⟨t, n⟩, hst⟩ : ∃ y, Q[i]? = some y := ⟨Q[i]'(by rw [HLM.out]; exact hlt), List.getElem?_eq_getElem _⟩
            obtain ⟨e0, e1⟩ := hcs i _ hst
            have hf := G.out.fit _ (List.mem_of_getElem? hst)
            dsimp only at e0 e1 hf
            obtain ⟨q, rfl⟩ : ∃ q : Nat, n = (q : Int) := ⟨n.toNat, by omega⟩
            have hN := all_n_next hst
            have hA8 := all_n_le (Q := Q.take i) (fun y hy => (G.out.fit y (List.mem_of_mem_take hy)).2.2)
            rw [List.length_take, HLM.out] at hA8
            obtain ⟨a, ha⟩ : ∃ a, allN (Q.take i) = a := ⟨_, rfl⟩
            obtain ⟨b, hb⟩ : ∃ b, allN (Q.take (i + 1)) = b := ⟨_, rfl⟩
            rw [ha, hb, show (⟨t, (q : Int)⟩ : Pt).n.toNat = q from Int.toNat_natCast q] at hN
            rw [ha] at hA8 ⊢
            have HBq := Lib.hid hb
            have hsum : (a : Int) + (q : Int) = (b : Int) := by omega
            have wsum : IntKind.i64.wrap ((a : Int) + (q : Int)) = (b : Int) := by rw [hsum]; exact IntWalk.i64_in _ (by omega)
            have d0 := (HP.out.bel.cell (p := ⟨ga, i * 2, none⟩) hga).trans e0
            have d1 := (HP.out.bel.cell (p := ⟨ga, i * 2 + 1, none⟩) hga).trans e1
            have HNX : Hid ((Q.take (i + 1)).map Pt.t = (Q.take i).map Pt.t ++ [t]) := Lib.hid (by rw [List.take_add_one, hst, List.map_append]; rfl)
            have HSZ2 := Lib.hid HP.out.bel.size
            have HROW := Lib.hid HP.out.row
            have E1 := Lib.hid e1
            have p0 : (0 : Int) ≤ (i : Int) := by omega
            have p1 : (i : Int) < (lm : Int) := by omega
            clear hcs hst e0 e1 hN ha hb hf hA8 hsum
            go_wp2_with (at_builtin; refine wpList_append_own _ rfl _ _ 23 rfl w1.heap.size 9 i0 _ 1 16 Try.underlying23 hi0 hz0 hz1 hz2 rfl (by decide) (.slice A i c) i _ (by rfl) (HROW.out.alloc _) ⟨_, 0, none⟩ 1 1 [.string t] (by rfl) (by rfl) (World.news_of_block (cs := #[.string t]) (t := 9) (fr := (0, 0)) (heap_alloc_new _ _)) (by simp [Value.oneCell']) (by unfold maxLen; omega) (by omega) (by have := HSZ2.out; simp; omega) ?_; intro v4 w4 hown4 hgrow4 _; have HB4 : Hid (Below w1.heap.size w1 w4) := Lib.hid ((HP.out.bel.alloc HSZ2.out _).grown hgrow4 (by have := HSZ2.out; simp; omega) (fun z e => (HROW.out.lt z e).1)); obtain ⟨A4, c4, rfl⟩ := own_len hown4; have HO4 := Lib.hid hown4; clear hown4 hgrow4; have d4 := (HB4.out.cell (p := ⟨ga, i * 2 + 1, none⟩) hga).trans E1.out)
            go_roundw
            case rel => exact ⟨i + 1, c4, A4, by omega, rfl, by rw [HBq.out], by go_num, Lib.hid ⟨by rw [HNX.out]; unfold texts; rw [List.map_append]; exact HO4.out, by rw [HNX.out, List.length_append, HP.out.len]; rfl, HB4.out⟩⟩
            case measure => simp [intOf]; omega
          · have hiq : i = lm := by omega
            have p1 : ¬ (i : Int) < (lm : Int) := by omega
            have htk : Q.take i = Q := List.take_of_length_le (by rw [HLM.out]; omega)
            have hrow := HP.out.row
            have hlen := HP.out.len
            rw [htk] at hrow hlen ⊢
            have HNS := Lib.hid (own_texts hrow hlen (own_lt hrow))
            have HNL := Lib.hid hlen
            obtain ⟨P, hP⟩ : ∃ P, allP Q = P := ⟨_, rfl⟩
            have HP1 : Hid (partsQ Q (Q.map Pt.t) = P) := Lib.hid (by rw [parts_all, hP])
            obtain ⟨pn, hpn⟩ : ∃ n, allN Q = n := ⟨_, rfl⟩
            have HPL : Hid (P.length = pn) := Lib.hid (by rw [← hP, all_len, hpn])
            have hpn8 : pn ≤ 64 := by have := all_n_le (Q := Q) (fun y hy => (G.out.fit y hy).2.2); rw [HLM.out, hpn] at this; omega
            have HHASA : Hid (∀ x ∈ P, hasP Q x.t x.n = true) := Lib.hid (fun x hx => by rw [← hP] at hx; exact all_has G.out.rise hx)
            have HPB : Hid (∀ x ∈ P, 0 ≤ x.n ∧ x.n ≤ 8) := Lib.hid (fun x hx => by rw [← hP] at hx; obtain ⟨y, hy, _, h0, h1⟩ := all_mem hx; have := (G.out.fit y hy).2.2; omega)
            have HPS : Hid (∀ x ∈ P, x.t.size ≤ maxLen) := Lib.hid (fun x hx => by rw [← hP] at hx; obtain ⟨y, hy, e, _⟩ := all_mem hx; rw [e]; have := (G.out.fit y hy).1; unfold maxLen; omega)
            have HNEXT : Hid (∀ (k : Nat) (x y : Pt), P[k]? = some x → P[k + 1]? = some y → lessB x.t y.t = true ∨ (x.t = y.t ∧ y.n = x.n + 1)) := Lib.hid (fun k x y h1 h2 => by rw [← hP] at h1 h2; exact all_next G.out.rise h1 h2)
            obtain ⟨on, hon⟩ : ∃ n, (partsQ Q [u]).length = n := ⟨_, rfl⟩
            obtain ⟨ON, hON⟩ : ∃ l, partsQ Q [u] = l := ⟨_, rfl⟩
            have HON := Lib.hid hON
            have HONL : Hid (ON.length = on) := Lib.hid (by rw [← hON]; exact hon)
            have HNUM : Hid (numOf Q u = (on : Int)) := Lib.hid (by rw [← hon]; exact (parts_one_len G.out u).symm)
            have HONG : Hid (∀ (i : Nat) (x : Pt), ON[i]? = some x → x = ⟨u, (i : Int)⟩) := Lib.hid (fun i x h => by rw [← hON] at h; exact parts_one_get G.out h)
            have HNUM8 : Hid (numOf Q u ≤ 8) := Lib.hid (G.out.num u).2.1
            have hon8 : on ≤ 8 := by have h1 := HNUM.out; have h2 := HNUM8.out; omega
            have HPN : Hid (partsQ Q [] = []) := Lib.hid (parts_nil Q)
            have M2 := Lib.hid (M1.out.below HP.out.bel)
            rw [hpn]
            clear hP hpn hon hON hrow hlen htk hiq hlt HP R7 HNUM8
            go_wp2_with (first
              | (go_at_call 24; have _q := M4; refine (m9_parts [] [] 0 0 0 none M4 (Lib.hid (fun h => absurd h (by decide))) (Lib.hid rfl) (by decide) HPN (Lib.hid rfl)).mono ?_; rintro e w5 ⟨A13, c13, rfl, _, h13⟩; have M5 := Lib.hid (M4.out.below h13); have R11 := Lib.hid (reads_keep R10.out (KeepC.below h13) h13.size); have R12b := Lib.hid (reads_keep R12.out (KeepC.below h13) h13.size); clear h13)
              | (go_at_call 19; have _q := M4; refine (m9_n u (on : Int) M4 HUS.out HNUM).mono ?_; rintro e wz ⟨rfl, hwz⟩; obtain rfl := hwz.symm)
              | (go_at_call 24; have _q := M3; refine (m9_parts [u] ON on 1 1 _ (Lib.hid (M3.out.below (one_box' (.cells #[.string u] 9)))) (Lib.hid (texts_one _ _)) (Lib.hid rfl) (by decide) HON HONL).mono ?_; rintro e w4 ⟨A12, c12, rfl, o12, h12⟩; have M4 := Lib.hid ((M3.out.below (one_box' (.cells #[.string u] 9))).below h12); have R12 := Lib.hid (own_reads o12 HONL.out (own_lt o12)); have R10 := Lib.hid (reads_keep R9.out (keep_box h12).1 (keep_box h12).2); clear o12 h12)
              | (go_at_call 9; refine (cut_is _ a1 u HA1.out HU).mono ?_; rintro e wz ⟨rfl, hwz⟩; obtain rfl := hwz.symm)
              | (go_at_call 24; have _q := M2; refine (m9_parts (Q.map Pt.t) P pn i c A M2 HNS HNL (by omega) HP1 HPL).mono ?_; rintro e w3 ⟨A9, c9, rfl, o9, h9⟩; have M3 := Lib.hid (M2.out.below h9); have R9 := Lib.hid (own_reads o9 HPL.out (own_lt o9)); clear o9 h9))
            go_loopw [13] (fun p wr => ∃ k : Nat, k ≤ pn ∧ p = .int .i64 k ∧ Hid (Below w5.heap.size w5 wr)) (fun p _ => pn - (intOf p).toNat)
            case atStart => exact ⟨0, Nat.zero_le _, rfl, Lib.hid (Below.refl _ _)⟩
            case round =>
              obtain ⟨k, hk3, rfl, HB3⟩ := hrel
              obtain ⟨wr3, rfl⟩ : ∃ x, x = wr := ⟨_, rfl⟩
              by_cases hkl : k < pn
              · obtain ⟨gp, rfl, hgp, hcp⟩ := R11.out (by rw [HPL.out]; omega)
                obtain ⟨⟨t, n⟩, hp0⟩ : ∃ y, P[k]? = some y := ⟨P[k]'(by rw [HPL.out]; exact hkl), List.getElem?_eq_getElem _⟩
                obtain ⟨e0, e1⟩ := hcp k _ hp0
                have hhas := HHASA.out _ (List.mem_of_getElem? hp0)
                dsimp only at e0 e1 hhas
                have HHAS := Lib.hid hhas
                have HTS : Hid (t.size ≤ maxLen) := Lib.hid (HPS.out _ (List.mem_of_getElem? hp0))
                have d0 := (HB3.out.cell (p := ⟨gp, k * 2, none⟩) hgp).trans e0
                have d1 := (HB3.out.cell (p := ⟨gp, k * 2 + 1, none⟩) hgp).trans e1
                have HMr := Lib.hid (M5.out.below HB3.out)
                have k0 : (0 : Int) ≤ (k : Int) := by omega
                have kl : (k : Int) < (pn : Int) := by omega
                clear e0 e1 hhas
                go_upto_region 21 with fail
                by_cases kz : k = 0
                · have gz : decide ((0 : Int) < (k : Int)) = false := decide_eq_false (by omega)
                  have gz2 : decide (0 < k) = false := decide_eq_false (by omega)
                  have hS := And.intro (And.intro d0 d1) HB3.out
                  clear hcp hk3 hp0 kz
                  refine wp_region_held_drew (S := (fun w' => (w'.cell? ⟨gp, k * 2, none⟩ = some (.string t) ∧ w'.cell? ⟨gp, k * 2 + 1, none⟩ = some (.int .i64 n)) ∧ Below w5.heap.size w5 w')) (by kernel_rfl) (keep2n hS (drewB9 _)) (fun hHeld => ?_)
                  refine wpAnyH_take (i := 0) (oi := ?o1) (v := ?v1) ?a1 (by kernel_rfl) (by kernel_rfl) (by kernel_rfl) ?q1 (Or.inl ⟨?g1, ?y1⟩) (by assumption) ?r1; (case' a1 => (simp only [List.getElem?_toArray, List.getElem?_cons_zero]; rfl)); (case' q1 => (exact fun _ _ _ h => h)); (case' g1 => rfl); (case' y1 => (intro w hSw; (try dsimp only at hSw); go_simp; try with_reducible rfl)); (case' r1 => (try simp only [Act.put, List.setIfInBounds_toArray, List.set_cons_zero, List.set_cons_succ]))
                  refine wpAnyH_take (i := 1) (oi := ?o2) (v := ?v2) ?a2 (by kernel_rfl) (by kernel_rfl) (by kernel_rfl) ?q2 (Or.inl ⟨?g2, ?y2⟩) (by assumption) ?r2; (case' a2 => (simp only [List.getElem?_toArray, List.getElem?_cons_zero, List.getElem?_cons_succ]; rfl)); (case' q2 => (exact fun _ _ _ h => h)); (case' g2 => rfl); (case' y2 => (intro w hSw; (try dsimp only at hSw); go_simp; try with_reducible rfl)); (case' r2 => (try simp only [Act.put, List.setIfInBounds_toArray, List.set_cons_zero, List.set_cons_succ]))
                  refine wpAnyH_take (i := 2) (oi := ?o3) (v := ?v3) ?a3 (by kernel_rfl) (by kernel_rfl) (by kernel_rfl) ?q3 (Or.inl ⟨?g3, ?y3⟩) (by assumption) ?r3; (case' a3 => (simp only [List.getElem?_toArray, List.getElem?_cons_zero, List.getElem?_cons_succ]; rfl)); (case' q3 => (exact fun _ _ _ h => h)); (case' g3 => rfl); (case' y3 => (intro w hSw; (try dsimp only at hSw); go_simp; try with_reducible rfl)); (case' r3 => (try simp only [Act.put, List.setIfInBounds_toArray, List.set_cons_zero, List.set_cons_succ]))
                  refine wpAnyH_take (i := 3) (oi := ?o4) (v := ?v4) ?a4 (by kernel_rfl) (by kernel_rfl) (by kernel_rfl) ?q4 (Or.inl ⟨?g4, ?y4⟩) (by assumption) ?r4; (case' a4 => (simp only [List.getElem?_toArray, List.getElem?_cons_zero, List.getElem?_cons_succ]; rfl)); (case' q4 => (exact fun _ _ _ h => h)); (case' g4 => rfl); (case' y4 => (intro w hSw; (try dsimp only at hSw); go_simp; try with_reducible rfl)); (case' r4 => (try simp only [Act.put, List.setIfInBounds_toArray, List.set_cons_zero, List.set_cons_succ]))
                  refine wpAnyH_take (i := 4) (oi := ?o5) (v := ?v5) ?a5 (by kernel_rfl) (by kernel_rfl) (by kernel_rfl) ?q5 (Or.inl ⟨?g5, ?y5⟩) (by assumption) ?r5; (case' a5 => (simp only [List.getElem?_toArray, List.getElem?_cons_zero, List.getElem?_cons_succ]; rfl)); (case' q5 => (exact fun _ _ _ h => h)); (case' g5 => rfl); (case' y5 => (intro w hSw; (try dsimp only at hSw); go_simp; try with_reducible rfl)); (case' r5 => (try simp only [Act.put, List.setIfInBounds_toArray, List.set_cons_zero, List.set_cons_succ]))
                  refine wpAnyH_ready (rs := [5]) (by kernel_rfl) (by simp) ?_
                  refine AllReadyH.cons (o := ?o6) ?a6 (fun K hK => ?s6) ?m6; (case' a6 => (simp only [List.getElem?_toArray, List.getElem?_cons_zero, List.getElem?_cons_succ]; rfl))
                  case s6 =>
                    go_simp
                    go_at_call 21
                    refine (m9_has t n true (Lib.hid (HMr.out.below (drewB9 _))) HTS.out HHAS).mono ?_
                    rintro e wn ⟨rfl, hbn⟩
                    go_wp2_with fail
                    refine hK.out _ _ (keep2n hHeld hbn) (fun hHeld => ?_)
                    clear hK K
                    (try simp only [Act.put, List.setIfInBounds_toArray, List.set_cons_zero, List.set_cons_succ])
                    refine wpAnyH_take (i := 6) (oi := ?o7) (v := ?v7) ?a7 (by kernel_rfl) (by kernel_rfl) (by kernel_rfl) ?q7 (Or.inl ⟨?g7, ?y7⟩) (by assumption) ?r7; (case' a7 => (simp only [List.getElem?_toArray, List.getElem?_cons_zero, List.getElem?_cons_succ]; rfl)); (case' q7 => (exact fun _ _ _ h => h)); (case' g7 => rfl); (case' y7 => (intro w hSw; (try dsimp only at hSw); go_simp; try with_reducible rfl)); (case' r7 => (try simp only [Act.put, List.setIfInBounds_toArray, List.set_cons_zero, List.set_cons_succ]))
                    refine wpAnyH_take (i := 7) (oi := ?o8) (v := ?v8) ?a8 (by kernel_rfl) (by kernel_rfl) (by kernel_rfl) ?q8 (Or.inl ⟨?g8, ?y8⟩) (by assumption) ?r8; (case' a8 => (simp only [List.getElem?_toArray, List.getElem?_cons_zero, List.getElem?_cons_succ]; rfl)); (case' q8 => (exact fun _ _ _ h => h)); (case' g8 => rfl); (case' y8 => (intro w hSw; (try dsimp only at hSw); go_simp; try with_reducible rfl)); (case' r8 => (try simp only [Act.put, List.setIfInBounds_toArray, List.set_cons_zero, List.set_cons_succ]))
                    refine wpAnyH_take (i := 8) (oi := ?o9) (v := ?v9) ?a9 (by kernel_rfl) (by kernel_rfl) (by kernel_rfl) ?q9 (Or.inl ⟨?g9, ?y9⟩) (by assumption) ?r9; (case' a9 => (simp only [List.getElem?_toArray, List.getElem?_cons_zero, List.getElem?_cons_succ]; rfl)); (case' q9 => (exact fun _ _ _ h => h)); (case' g9 => rfl); (case' y9 => (intro w hSw; (try dsimp only at hSw); go_simp; try with_reducible rfl)); (case' r9 => (try simp only [Act.put, List.setIfInBounds_toArray, List.set_cons_zero, List.set_cons_succ]))
                    refine wpAnyH_take (i := 9) (oi := ?o10) (v := ?v10) ?a10 (by kernel_rfl) (by kernel_rfl) (by kernel_rfl) ?q10 (Or.inl ⟨?g10, ?y10⟩) (by assumption) ?r10; (case' a10 => (simp only [List.getElem?_toArray, List.getElem?_cons_zero, List.getElem?_cons_succ]; rfl)); (case' q10 => (exact fun _ _ _ h => h)); (case' g10 => rfl); (case' y10 => (intro w hSw; (try dsimp only at hSw); go_simp; try with_reducible rfl)); (case' r10 => (try simp only [Act.put, List.setIfInBounds_toArray, List.set_cons_zero, List.set_cons_succ]))
                    refine wpAnyH_take (i := 10) (oi := ?o11) (v := ?v11) ?a11 (by kernel_rfl) (by kernel_rfl) (by kernel_rfl) ?q11 (Or.inl ⟨?g11, ?y11⟩) (by assumption) ?r11; (case' a11 => (simp only [List.getElem?_toArray, List.getElem?_cons_zero, List.getElem?_cons_succ]; rfl)); (case' q11 => (exact fun _ _ _ h => h)); (case' g11 => rfl); (case' y11 => (intro w hSw; (try dsimp only at hSw); go_simp; try with_reducible rfl)); (case' r11 => (try simp only [Act.put, List.setIfInBounds_toArray, List.set_cons_zero, List.set_cons_succ]))
                    refine wpAnyH_take (i := 11) (oi := ?o12) (v := undef) ?a12 (by kernel_rfl) (by kernel_rfl) (by kernel_rfl) ?q12 (Or.inr ⟨?g12, rfl⟩) (by assumption) ?r12; (case' a12 => (simp only [List.getElem?_toArray, List.getElem?_cons_zero, List.getElem?_cons_succ]; rfl)); (case' q12 => (exact fun _ _ _ h => h)); (case' g12 => rfl); (case' r12 => (try simp only [Act.put, List.setIfInBounds_toArray, List.set_cons_zero, List.set_cons_succ]))
                    refine wpAnyH_take (i := 12) (oi := ?o13) (v := undef) ?a13 (by kernel_rfl) (by kernel_rfl) (by kernel_rfl) ?q13 (Or.inr ⟨?g13, rfl⟩) (by assumption) ?r13; (case' a13 => (simp only [List.getElem?_toArray, List.getElem?_cons_zero, List.getElem?_cons_succ]; rfl)); (case' q13 => (exact fun _ _ _ h => h)); (case' g13 => rfl); (case' r13 => (try simp only [Act.put, List.setIfInBounds_toArray, List.set_cons_zero, List.set_cons_succ]))
                    refine wpAnyH_take (i := 13) (oi := ?o14) (v := undef) ?a14 (by kernel_rfl) (by kernel_rfl) (by kernel_rfl) ?q14 (Or.inr ⟨?g14, rfl⟩) (by assumption) ?r14; (case' a14 => (simp only [List.getElem?_toArray, List.getElem?_cons_zero, List.getElem?_cons_succ]; rfl)); (case' q14 => (exact fun _ _ _ h => h)); (case' g14 => rfl); (case' r14 => (try simp only [Act.put, List.setIfInBounds_toArray, List.set_cons_zero, List.set_cons_succ]))
                    refine wpAnyH_take (i := 14) (oi := ?o15) (v := undef) ?a15 (by kernel_rfl) (by kernel_rfl) (by kernel_rfl) ?q15 (Or.inr ⟨?g15, rfl⟩) (by assumption) ?r15; (case' a15 => (simp only [List.getElem?_toArray, List.getElem?_cons_zero, List.getElem?_cons_succ]; rfl)); (case' q15 => (exact fun _ _ _ h => h)); (case' g15 => rfl); (case' r15 => (try simp only [Act.put, List.setIfInBounds_toArray, List.set_cons_zero, List.set_cons_succ]))
                    refine wpAnyH_take (i := 15) (oi := ?o16) (v := undef) ?a16 (by kernel_rfl) (by kernel_rfl) (by kernel_rfl) ?q16 (Or.inr ⟨?g16, rfl⟩) (by assumption) ?r16; (case' a16 => (simp only [List.getElem?_toArray, List.getElem?_cons_zero, List.getElem?_cons_succ]; rfl)); (case' q16 => (exact fun _ _ _ h => h)); (case' g16 => rfl); (case' r16 => (try simp only [Act.put, List.setIfInBounds_toArray, List.set_cons_zero, List.set_cons_succ]))
                    refine wpAnyH_take (i := 16) (oi := ?o17) (v := undef) ?a17 (by kernel_rfl) (by kernel_rfl) (by kernel_rfl) ?q17 (Or.inr ⟨?g17, rfl⟩) (by assumption) ?r17; (case' a17 => (simp only [List.getElem?_toArray, List.getElem?_cons_zero, List.getElem?_cons_succ]; rfl)); (case' q17 => (exact fun _ _ _ h => h)); (case' g17 => rfl); (case' r17 => (try simp only [Act.put, List.setIfInBounds_toArray, List.set_cons_zero, List.set_cons_succ]))
                    refine wpAnyH_take (i := 17) (oi := ?o18) (v := undef) ?a18 (by kernel_rfl) (by kernel_rfl) (by kernel_rfl) ?q18 (Or.inr ⟨?g18, rfl⟩) (by assumption) ?r18; (case' a18 => (simp only [List.getElem?_toArray, List.getElem?_cons_zero, List.getElem?_cons_succ]; rfl)); (case' q18 => (exact fun _ _ _ h => h)); (case' g18 => rfl); (case' r18 => (try simp only [Act.put, List.setIfInBounds_toArray, List.set_cons_zero, List.set_cons_succ]))
                    refine wpAnyH_take (i := 18) (oi := ?o19) (v := undef) ?a19 (by kernel_rfl) (by kernel_rfl) (by kernel_rfl) ?q19 (Or.inr ⟨?g19, rfl⟩) (by assumption) ?r19; (case' a19 => (simp only [List.getElem?_toArray, List.getElem?_cons_zero, List.getElem?_cons_succ]; rfl)); (case' q19 => (exact fun _ _ _ h => h)); (case' g19 => rfl); (case' r19 => (try simp only [Act.put, List.setIfInBounds_toArray, List.set_cons_zero, List.set_cons_succ]))
                    refine wpAnyH_take (i := 19) (oi := ?o20) (v := undef) ?a20 (by kernel_rfl) (by kernel_rfl) (by kernel_rfl) ?q20 (Or.inr ⟨?g20, rfl⟩) (by assumption) ?r20; (case' a20 => (simp only [List.getElem?_toArray, List.getElem?_cons_zero, List.getElem?_cons_succ]; rfl)); (case' q20 => (exact fun _ _ _ h => h)); (case' g20 => rfl); (case' r20 => (try simp only [Act.put, List.setIfInBounds_toArray, List.set_cons_zero, List.set_cons_succ]))
                    refine wpAnyH_take (i := 20) (oi := ?o21) (v := undef) ?a21 (by kernel_rfl) (by kernel_rfl) (by kernel_rfl) ?q21 (Or.inr ⟨?g21, rfl⟩) (by assumption) ?r21; (case' a21 => (simp only [List.getElem?_toArray, List.getElem?_cons_zero, List.getElem?_cons_succ]; rfl)); (case' q21 => (exact fun _ _ _ h => h)); (case' g21 => rfl); (case' r21 => (try simp only [Act.put, List.setIfInBounds_toArray, List.set_cons_zero, List.set_cons_succ]))
                    refine wpAnyH_take (i := 21) (oi := ?o22) (v := undef) ?a22 (by kernel_rfl) (by kernel_rfl) (by kernel_rfl) ?q22 (Or.inr ⟨?g22, rfl⟩) (by assumption) ?r22; (case' a22 => (simp only [List.getElem?_toArray, List.getElem?_cons_zero, List.getElem?_cons_succ]; rfl)); (case' q22 => (exact fun _ _ _ h => h)); (case' g22 => rfl); (case' r22 => (try simp only [Act.put, List.setIfInBounds_toArray, List.set_cons_zero, List.set_cons_succ]))
                    refine wpAnyH_take (i := 22) (oi := ?o23) (v := undef) ?a23 (by kernel_rfl) (by kernel_rfl) (by kernel_rfl) ?q23 (Or.inr ⟨?g23, rfl⟩) (by assumption) ?r23; (case' a23 => (simp only [List.getElem?_toArray, List.getElem?_cons_zero, List.getElem?_cons_succ]; rfl)); (case' q23 => (exact fun _ _ _ h => h)); (case' g23 => rfl); (case' r23 => (try simp only [Act.put, List.setIfInBounds_toArray, List.set_cons_zero, List.set_cons_succ]))
                    refine wpAnyH_take (i := 23) (oi := ?o24) (v := undef) ?a24 (by kernel_rfl) (by kernel_rfl) (by kernel_rfl) ?q24 (Or.inr ⟨?g24, rfl⟩) (by assumption) ?r24; (case' a24 => (simp only [List.getElem?_toArray, List.getElem?_cons_zero, List.getElem?_cons_succ]; rfl)); (case' q24 => (exact fun _ _ _ h => h)); (case' g24 => rfl); (case' r24 => (try simp only [Act.put, List.setIfInBounds_toArray, List.set_cons_zero, List.set_cons_succ]))
                    refine wpAnyH_take (i := 24) (oi := ?o25) (v := ?v25) ?a25 (by kernel_rfl) (by kernel_rfl) (by kernel_rfl) ?q25 (Or.inl ⟨?g25, ?y25⟩) (by assumption) ?r25; (case' a25 => (simp only [List.getElem?_toArray, List.getElem?_cons_zero, List.getElem?_cons_succ]; rfl)); (case' q25 => (exact fun _ _ _ h => h)); (case' g25 => rfl); (case' y25 => (intro w hSw; (try dsimp only at hSw); go_simp; try with_reducible rfl)); (case' r25 => (try simp only [Act.put, List.setIfInBounds_toArray, List.set_cons_zero, List.set_cons_succ]))
                    refine wpAnyH_take (i := 25) (oi := ?o26) (v := ?v26) ?a26 (by kernel_rfl) (by kernel_rfl) (by kernel_rfl) ?q26 (Or.inl ⟨?g26, ?y26⟩) (by assumption) ?r26; (case' a26 => (simp only [List.getElem?_toArray, List.getElem?_cons_zero, List.getElem?_cons_succ]; rfl)); (case' q26 => (exact fun _ _ _ h => h)); (case' g26 => rfl); (case' y26 => (intro w hSw; (try dsimp only at hSw); go_simp; try with_reducible rfl)); (case' r26 => (try simp only [Act.put, List.setIfInBounds_toArray, List.set_cons_zero, List.set_cons_succ]))
                    refine wpAnyH_take (i := 26) (oi := ?o27) (v := undef) ?a27 (by kernel_rfl) (by kernel_rfl) (by kernel_rfl) ?q27 (Or.inr ⟨?g27, rfl⟩) (by assumption) ?r27; (case' a27 => (simp only [List.getElem?_toArray, List.getElem?_cons_zero, List.getElem?_cons_succ]; rfl)); (case' q27 => (exact fun _ _ _ h => h)); (case' g27 => rfl); (case' r27 => (try simp only [Act.put, List.setIfInBounds_toArray, List.set_cons_zero, List.set_cons_succ]))
                    refine wpAnyH_take (i := 27) (oi := ?o28) (v := undef) ?a28 (by kernel_rfl) (by kernel_rfl) (by kernel_rfl) ?q28 (Or.inr ⟨?g28, rfl⟩) (by assumption) ?r28; (case' a28 => (simp only [List.getElem?_toArray, List.getElem?_cons_zero, List.getElem?_cons_succ]; rfl)); (case' q28 => (exact fun _ _ _ h => h)); (case' g28 => rfl); (case' r28 => (try simp only [Act.put, List.setIfInBounds_toArray, List.set_cons_zero, List.set_cons_succ]))
                    refine wpAnyH_take (i := 28) (oi := ?o29) (v := undef) ?a29 (by kernel_rfl) (by kernel_rfl) (by kernel_rfl) ?q29 (Or.inr ⟨?g29, rfl⟩) (by assumption) ?r29; (case' a29 => (simp only [List.getElem?_toArray, List.getElem?_cons_zero, List.getElem?_cons_succ]; rfl)); (case' q29 => (exact fun _ _ _ h => h)); (case' g29 => rfl); (case' r29 => (try simp only [Act.put, List.setIfInBounds_toArray, List.set_cons_zero, List.set_cons_succ]))
                    refine wpAnyH_take (i := 29) (oi := ?o30) (v := undef) ?a30 (by kernel_rfl) (by kernel_rfl) (by kernel_rfl) ?q30 (Or.inr ⟨?g30, rfl⟩) (by assumption) ?r30; (case' a30 => (simp only [List.getElem?_toArray, List.getElem?_cons_zero, List.getElem?_cons_succ]; rfl)); (case' q30 => (exact fun _ _ _ h => h)); (case' g30 => rfl); (case' r30 => (try simp only [Act.put, List.setIfInBounds_toArray, List.set_cons_zero, List.set_cons_succ]))
                    refine wpAnyH_take (i := 30) (oi := ?o31) (v := undef) ?a31 (by kernel_rfl) (by kernel_rfl) (by kernel_rfl) ?q31 (Or.inr ⟨?g31, rfl⟩) (by assumption) ?r31; (case' a31 => (simp only [List.getElem?_toArray, List.getElem?_cons_zero, List.getElem?_cons_succ]; rfl)); (case' q31 => (exact fun _ _ _ h => h)); (case' g31 => rfl); (case' r31 => (try simp only [Act.put, List.setIfInBounds_toArray, List.set_cons_zero, List.set_cons_succ]))
                    refine wpAnyH_take (i := 31) (oi := ?o32) (v := undef) ?a32 (by kernel_rfl) (by kernel_rfl) (by kernel_rfl) ?q32 (Or.inr ⟨?g32, rfl⟩) (by assumption) ?r32; (case' a32 => (simp only [List.getElem?_toArray, List.getElem?_cons_zero, List.getElem?_cons_succ]; rfl)); (case' q32 => (exact fun _ _ _ h => h)); (case' g32 => rfl); (case' r32 => (try simp only [Act.put, List.setIfInBounds_toArray, List.set_cons_zero, List.set_cons_succ]))
                    refine wpAnyH_take (i := 32) (oi := ?o33) (v := undef) ?a33 (by kernel_rfl) (by kernel_rfl) (by kernel_rfl) ?q33 (Or.inr ⟨?g33, rfl⟩) (by assumption) ?r33; (case' a33 => (simp only [List.getElem?_toArray, List.getElem?_cons_zero, List.getElem?_cons_succ]; rfl)); (case' q33 => (exact fun _ _ _ h => h)); (case' g33 => rfl); (case' r33 => (try simp only [Act.put, List.setIfInBounds_toArray, List.set_cons_zero, List.set_cons_succ]))
                    refine wpAnyH_take (i := 33) (oi := ?o34) (v := undef) ?a34 (by kernel_rfl) (by kernel_rfl) (by kernel_rfl) ?q34 (Or.inr ⟨?g34, rfl⟩) (by assumption) ?r34; (case' a34 => (simp only [List.getElem?_toArray, List.getElem?_cons_zero, List.getElem?_cons_succ]; rfl)); (case' q34 => (exact fun _ _ _ h => h)); (case' g34 => rfl); (case' r34 => (try simp only [Act.put, List.setIfInBounds_toArray, List.set_cons_zero, List.set_cons_succ]))
                    refine wpAnyH_take (i := 34) (oi := ?o35) (v := undef) ?a35 (by kernel_rfl) (by kernel_rfl) (by kernel_rfl) ?q35 (Or.inr ⟨?g35, rfl⟩) (by assumption) ?r35; (case' a35 => (simp only [List.getElem?_toArray, List.getElem?_cons_zero, List.getElem?_cons_succ]; rfl)); (case' q35 => (exact fun _ _ _ h => h)); (case' g35 => rfl); (case' r35 => (try simp only [Act.put, List.setIfInBounds_toArray, List.set_cons_zero, List.set_cons_succ]))
                    refine wpAnyH_take (i := 35) (oi := ?o36) (v := undef) ?a36 (by kernel_rfl) (by kernel_rfl) (by kernel_rfl) ?q36 (Or.inr ⟨?g36, rfl⟩) (by assumption) ?r36; (case' a36 => (simp only [List.getElem?_toArray, List.getElem?_cons_zero, List.getElem?_cons_succ]; rfl)); (case' q36 => (exact fun _ _ _ h => h)); (case' g36 => rfl); (case' r36 => (try simp only [Act.put, List.setIfInBounds_toArray, List.set_cons_zero, List.set_cons_succ]))
                    refine wpAnyH_take (i := 36) (oi := ?o37) (v := undef) ?a37 (by kernel_rfl) (by kernel_rfl) (by kernel_rfl) ?q37 (Or.inr ⟨?g37, rfl⟩) (by assumption) ?r37; (case' a37 => (simp only [List.getElem?_toArray, List.getElem?_cons_zero, List.getElem?_cons_succ]; rfl)); (case' q37 => (exact fun _ _ _ h => h)); (case' g37 => rfl); (case' r37 => (try simp only [Act.put, List.setIfInBounds_toArray, List.set_cons_zero, List.set_cons_succ]))
                    refine wpAnyH_take (i := 37) (oi := ?o38) (v := undef) ?a38 (by kernel_rfl) (by kernel_rfl) (by kernel_rfl) ?q38 (Or.inr ⟨?g38, rfl⟩) (by assumption) ?r38; (case' a38 => (simp only [List.getElem?_toArray, List.getElem?_cons_zero, List.getElem?_cons_succ]; rfl)); (case' q38 => (exact fun _ _ _ h => h)); (case' g38 => rfl); (case' r38 => (try simp only [Act.put, List.setIfInBounds_toArray, List.set_cons_zero, List.set_cons_succ]))
                    refine wpAnyH_take (i := 38) (oi := ?o39) (v := undef) ?a39 (by kernel_rfl) (by kernel_rfl) (by kernel_rfl) ?q39 (Or.inr ⟨?g39, rfl⟩) (by assumption) ?r39; (case' a39 => (simp only [List.getElem?_toArray, List.getElem?_cons_zero, List.getElem?_cons_succ]; rfl)); (case' q39 => (exact fun _ _ _ h => h)); (case' g39 => rfl); (case' r39 => (try simp only [Act.put, List.setIfInBounds_toArray, List.set_cons_zero, List.set_cons_succ]))
                    refine wpAnyH_take (i := 39) (oi := ?o40) (v := undef) ?a40 (by kernel_rfl) (by kernel_rfl) (by kernel_rfl) ?q40 (Or.inr ⟨?g40, rfl⟩) (by assumption) ?r40; (case' a40 => (simp only [List.getElem?_toArray, List.getElem?_cons_zero, List.getElem?_cons_succ]; rfl)); (case' q40 => (exact fun _ _ _ h => h)); (case' g40 => rfl); (case' r40 => (try simp only [Act.put, List.setIfInBounds_toArray, List.set_cons_zero, List.set_cons_succ]))
                    refine wpAnyH_take (i := 40) (oi := ?o41) (v := undef) ?a41 (by kernel_rfl) (by kernel_rfl) (by kernel_rfl) ?q41 (Or.inr ⟨?g41, rfl⟩) (by assumption) ?r41; (case' a41 => (simp only [List.getElem?_toArray, List.getElem?_cons_zero, List.getElem?_cons_succ]; rfl)); (case' q41 => (exact fun _ _ _ h => h)); (case' g41 => rfl); (case' r41 => (try simp only [Act.put, List.setIfInBounds_toArray, List.set_cons_zero, List.set_cons_succ]))
                    refine wpAnyH_take (i := 41) (oi := ?o42) (v := undef) ?a42 (by kernel_rfl) (by kernel_rfl) (by kernel_rfl) ?q42 (Or.inr ⟨?g42, rfl⟩) (by assumption) ?r42; (case' a42 => (simp only [List.getElem?_toArray, List.getElem?_cons_zero, List.getElem?_cons_succ]; rfl)); (case' q42 => (exact fun _ _ _ h => h)); (case' g42 => rfl); (case' r42 => (try simp only [Act.put, List.setIfInBounds_toArray, List.set_cons_zero, List.set_cons_succ]))
                    refine wpAnyH_take (i := 42) (oi := ?o43) (v := undef) ?a43 (by kernel_rfl) (by kernel_rfl) (by kernel_rfl) ?q43 (Or.inr ⟨?g43, rfl⟩) (by assumption) ?r43; (case' a43 => (simp only [List.getElem?_toArray, List.getElem?_cons_zero, List.getElem?_cons_succ]; rfl)); (case' q43 => (exact fun _ _ _ h => h)); (case' g43 => rfl); (case' r43 => (try simp only [Act.put, List.setIfInBounds_toArray, List.set_cons_zero, List.set_cons_succ]))
                    refine wpAnyH_take (i := 43) (oi := ?o44) (v := undef) ?a44 (by kernel_rfl) (by kernel_rfl) (by kernel_rfl) ?q44 (Or.inr ⟨?g44, rfl⟩) (by assumption) ?r44; (case' a44 => (simp only [List.getElem?_toArray, List.getElem?_cons_zero, List.getElem?_cons_succ]; rfl)); (case' q44 => (exact fun _ _ _ h => h)); (case' g44 => rfl); (case' r44 => (try simp only [Act.put, List.setIfInBounds_toArray, List.set_cons_zero, List.set_cons_succ]))
                    refine wpAnyH_take (i := 44) (oi := ?o45) (v := undef) ?a45 (by kernel_rfl) (by kernel_rfl) (by kernel_rfl) ?q45 (Or.inr ⟨?g45, rfl⟩) (by assumption) ?r45; (case' a45 => (simp only [List.getElem?_toArray, List.getElem?_cons_zero, List.getElem?_cons_succ]; rfl)); (case' q45 => (exact fun _ _ _ h => h)); (case' g45 => rfl); (case' r45 => (try simp only [Act.put, List.setIfInBounds_toArray, List.set_cons_zero, List.set_cons_succ]))
                    refine wpAnyH_take (i := 45) (oi := ?o46) (v := undef) ?a46 (by kernel_rfl) (by kernel_rfl) (by kernel_rfl) ?q46 (Or.inr ⟨?g46, rfl⟩) (by assumption) ?r46; (case' a46 => (simp only [List.getElem?_toArray, List.getElem?_cons_zero, List.getElem?_cons_succ]; rfl)); (case' q46 => (exact fun _ _ _ h => h)); (case' g46 => rfl); (case' r46 => (try simp only [Act.put, List.setIfInBounds_toArray, List.set_cons_zero, List.set_cons_succ]))
                    refine wpAnyH_take (i := 46) (oi := ?o47) (v := undef) ?a47 (by kernel_rfl) (by kernel_rfl) (by kernel_rfl) ?q47 (Or.inr ⟨?g47, rfl⟩) (by assumption) ?r47; (case' a47 => (simp only [List.getElem?_toArray, List.getElem?_cons_zero, List.getElem?_cons_succ]; rfl)); (case' q47 => (exact fun _ _ _ h => h)); (case' g47 => rfl); (case' r47 => (try simp only [Act.put, List.setIfInBounds_toArray, List.set_cons_zero, List.set_cons_succ]))
                    refine wpAnyH_take (i := 47) (oi := ?o48) (v := undef) ?a48 (by kernel_rfl) (by kernel_rfl) (by kernel_rfl) ?q48 (Or.inr ⟨?g48, rfl⟩) (by assumption) ?r48; (case' a48 => (simp only [List.getElem?_toArray, List.getElem?_cons_zero, List.getElem?_cons_succ]; rfl)); (case' q48 => (exact fun _ _ _ h => h)); (case' g48 => rfl); (case' r48 => (try simp only [Act.put, List.setIfInBounds_toArray, List.set_cons_zero, List.set_cons_succ]))
                    refine wpAnyH_take (i := 48) (oi := ?o49) (v := undef) ?a49 (by kernel_rfl) (by kernel_rfl) (by kernel_rfl) ?q49 (Or.inr ⟨?g49, rfl⟩) (by assumption) ?r49; (case' a49 => (simp only [List.getElem?_toArray, List.getElem?_cons_zero, List.getElem?_cons_succ]; rfl)); (case' q49 => (exact fun _ _ _ h => h)); (case' g49 => rfl); (case' r49 => (try simp only [Act.put, List.setIfInBounds_toArray, List.set_cons_zero, List.set_cons_succ]))
                    refine wpAnyH_take (i := 49) (oi := ?o50) (v := undef) ?a50 (by kernel_rfl) (by kernel_rfl) (by kernel_rfl) ?q50 (Or.inr ⟨?g50, rfl⟩) (by assumption) ?r50; (case' a50 => (simp only [List.getElem?_toArray, List.getElem?_cons_zero, List.getElem?_cons_succ]; rfl)); (case' q50 => (exact fun _ _ _ h => h)); (case' g50 => rfl); (case' r50 => (try simp only [Act.put, List.setIfInBounds_toArray, List.set_cons_zero, List.set_cons_succ]))
                    refine wpAnyH_take (i := 50) (oi := ?o51) (v := undef) ?a51 (by kernel_rfl) (by kernel_rfl) (by kernel_rfl) ?q51 (Or.inr ⟨?g51, rfl⟩) (by assumption) ?r51; (case' a51 => (simp only [List.getElem?_toArray, List.getElem?_cons_zero, List.getElem?_cons_succ]; rfl)); (case' q51 => (exact fun _ _ _ h => h)); (case' g51 => rfl); (case' r51 => (try simp only [Act.put, List.setIfInBounds_toArray, List.set_cons_zero, List.set_cons_succ]))
                    refine wpAnyH_take (i := 51) (oi := ?o52) (v := undef) ?a52 (by kernel_rfl) (by kernel_rfl) (by kernel_rfl) ?q52 (Or.inr ⟨?g52, rfl⟩) (by assumption) ?r52; (case' a52 => (simp only [List.getElem?_toArray, List.getElem?_cons_zero, List.getElem?_cons_succ]; rfl)); (case' q52 => (exact fun _ _ _ h => h)); (case' g52 => rfl); (case' r52 => (try simp only [Act.put, List.setIfInBounds_toArray, List.set_cons_zero, List.set_cons_succ]))
                    refine wpAnyH_take (i := 52) (oi := ?o53) (v := undef) ?a53 (by kernel_rfl) (by kernel_rfl) (by kernel_rfl) ?q53 (Or.inr ⟨?g53, rfl⟩) (by assumption) ?r53; (case' a53 => (simp only [List.getElem?_toArray, List.getElem?_cons_zero, List.getElem?_cons_succ]; rfl)); (case' q53 => (exact fun _ _ _ h => h)); (case' g53 => rfl); (case' r53 => (try simp only [Act.put, List.setIfInBounds_toArray, List.set_cons_zero, List.set_cons_succ]))
                    refine wpAnyH_take (i := 53) (oi := ?o54) (v := ?v54) ?a54 (by kernel_rfl) (by kernel_rfl) (by kernel_rfl) ?q54 (Or.inl ⟨?g54, ?y54⟩) (by assumption) ?r54; (case' a54 => (simp only [List.getElem?_toArray, List.getElem?_cons_zero, List.getElem?_cons_succ]; rfl)); (case' q54 => (exact fun _ _ _ h => h)); (case' g54 => rfl); (case' y54 => (intro w hSw; (try dsimp only at hSw); go_simp; try with_reducible rfl)); (case' r54 => (try simp only [Act.put, List.setIfInBounds_toArray, List.set_cons_zero, List.set_cons_succ]))
                    refine wpAnyH_take (i := 54) (oi := ?o55) (v := ?v55) ?a55 (by kernel_rfl) (by kernel_rfl) (by kernel_rfl) ?q55 (Or.inl ⟨?g55, ?y55⟩) (by assumption) ?r55; (case' a55 => (simp only [List.getElem?_toArray, List.getElem?_cons_zero, List.getElem?_cons_succ]; rfl)); (case' q55 => (exact fun _ _ _ h => h)); (case' g55 => rfl); (case' y55 => (intro w hSw; (try dsimp only at hSw); go_simp; try with_reducible rfl)); (case' r55 => (try simp only [Act.put, List.setIfInBounds_toArray, List.set_cons_zero, List.set_cons_succ]))
                    refine wpAnyH_done (by kernel_rfl) ?_ _
                    have HBN := Lib.hid hHeld.2
                    clear hHeld
                    go_wp2_with fail
                    go_roundw
                    case rel => exact ⟨k + 1, by omega, by go_num, HBN⟩
                    case measure => simp [intOf]; omega
                  exact AllReadyH.nil
                · obtain ⟨k1, hk1⟩ : ∃ k1, k1 + 1 = k := ⟨k - 1, by omega⟩
                  obtain ⟨⟨t1, n1⟩, hp1⟩ : ∃ y, P[k1]? = some y := ⟨P[k1]'(by rw [HPL.out]; omega), List.getElem?_eq_getElem _⟩
                  obtain ⟨c2, c3⟩ := hcp k1 _ hp1
                  have hb1 := HPB.out _ (List.mem_of_getElem? hp1)
                  dsimp only at c2 c3 hb1
                  have d2 := (HB3.out.cell (p := ⟨gp, k1 * 2, none⟩) hgp).trans c2
                  have d3 := (HB3.out.cell (p := ⟨gp, k1 * 2 + 1, none⟩) hgp).trans c3
                  have hS := And.intro (And.intro d0 (And.intro d1 (And.intro d2 d3))) HB3.out
                  have HT1 : Hid (t1.size ≤ maxLen) := Lib.hid (HPS.out _ (List.mem_of_getElem? hp1))
                  have hnext := HNEXT.out k1 _ _ hp1 (by rw [hk1]; exact hp0)
                  dsimp only at hnext
                  have e1 : (k : Int) - 1 = (k1 : Int) := by omega
                  have e2 : IntKind.i64.wrap ((k : Int) - 1) = (k1 : Int) := by rw [e1]; exact IntWalk.i64_in _ (by omega)
                  have g1 : (0 : Int) < (k : Int) := by omega
                  have g1' : 0 < k := by omega
                  have g2 : (0 : Int) ≤ (k1 : Int) := by omega
                  have g3 : (k1 : Int) < (pn : Int) := by omega
                  rcases hnext with hl | ⟨he, hn⟩
                  · have HLS := Lib.hid hl
                    clear hl hcp hp1 hk3 hp0 hk1 kz hb1 e1
                    refine wp_region_held_drew (S := (fun w' => (w'.cell? ⟨gp, k * 2, none⟩ = some (.string t) ∧ w'.cell? ⟨gp, k * 2 + 1, none⟩ = some (.int .i64 n) ∧ w'.cell? ⟨gp, k1 * 2, none⟩ = some (.string t1) ∧ w'.cell? ⟨gp, k1 * 2 + 1, none⟩ = some (.int .i64 n1)) ∧ Below w5.heap.size w5 w')) (by kernel_rfl) (keep4n hS (drewB9 _)) (fun hHeld => ?_)
                    refine wpAnyH_take (i := 0) (oi := ?o56) (v := ?v56) ?a56 (by kernel_rfl) (by kernel_rfl) (by kernel_rfl) ?q56 (Or.inl ⟨?g56, ?y56⟩) (by assumption) ?r56; (case' a56 => (simp only [List.getElem?_toArray, List.getElem?_cons_zero]; rfl)); (case' q56 => (exact fun _ _ _ h => h)); (case' g56 => rfl); (case' y56 => (intro w hSw; (try dsimp only at hSw); go_simp; try with_reducible rfl)); (case' r56 => (try simp only [Act.put, List.setIfInBounds_toArray, List.set_cons_zero, List.set_cons_succ]))
                    refine wpAnyH_take (i := 1) (oi := ?o57) (v := ?v57) ?a57 (by kernel_rfl) (by kernel_rfl) (by kernel_rfl) ?q57 (Or.inl ⟨?g57, ?y57⟩) (by assumption) ?r57; (case' a57 => (simp only [List.getElem?_toArray, List.getElem?_cons_zero, List.getElem?_cons_succ]; rfl)); (case' q57 => (exact fun _ _ _ h => h)); (case' g57 => rfl); (case' y57 => (intro w hSw; (try dsimp only at hSw); go_simp; try with_reducible rfl)); (case' r57 => (try simp only [Act.put, List.setIfInBounds_toArray, List.set_cons_zero, List.set_cons_succ]))
                    refine wpAnyH_take (i := 2) (oi := ?o58) (v := ?v58) ?a58 (by kernel_rfl) (by kernel_rfl) (by kernel_rfl) ?q58 (Or.inl ⟨?g58, ?y58⟩) (by assumption) ?r58; (case' a58 => (simp only [List.getElem?_toArray, List.getElem?_cons_zero, List.getElem?_cons_succ]; rfl)); (case' q58 => (exact fun _ _ _ h => h)); (case' g58 => rfl); (case' y58 => (intro w hSw; (try dsimp only at hSw); go_simp; try with_reducible rfl)); (case' r58 => (try simp only [Act.put, List.setIfInBounds_toArray, List.set_cons_zero, List.set_cons_succ]))
                    refine wpAnyH_take (i := 3) (oi := ?o59) (v := ?v59) ?a59 (by kernel_rfl) (by kernel_rfl) (by kernel_rfl) ?q59 (Or.inl ⟨?g59, ?y59⟩) (by assumption) ?r59; (case' a59 => (simp only [List.getElem?_toArray, List.getElem?_cons_zero, List.getElem?_cons_succ]; rfl)); (case' q59 => (exact fun _ _ _ h => h)); (case' g59 => rfl); (case' y59 => (intro w hSw; (try dsimp only at hSw); go_simp; try with_reducible rfl)); (case' r59 => (try simp only [Act.put, List.setIfInBounds_toArray, List.set_cons_zero, List.set_cons_succ]))
                    refine wpAnyH_take (i := 4) (oi := ?o60) (v := ?v60) ?a60 (by kernel_rfl) (by kernel_rfl) (by kernel_rfl) ?q60 (Or.inl ⟨?g60, ?y60⟩) (by assumption) ?r60; (case' a60 => (simp only [List.getElem?_toArray, List.getElem?_cons_zero, List.getElem?_cons_succ]; rfl)); (case' q60 => (exact fun _ _ _ h => h)); (case' g60 => rfl); (case' y60 => (intro w hSw; (try dsimp only at hSw); go_simp; try with_reducible rfl)); (case' r60 => (try simp only [Act.put, List.setIfInBounds_toArray, List.set_cons_zero, List.set_cons_succ]))
                    refine wpAnyH_ready (rs := [5]) (by kernel_rfl) (by simp) ?_
                    refine AllReadyH.cons (o := ?o61) ?a61 (fun K hK => ?s61) ?m61; (case' a61 => (simp only [List.getElem?_toArray, List.getElem?_cons_zero, List.getElem?_cons_succ]; rfl))
                    case s61 =>
                      go_simp
                      go_at_call 21
                      refine (m9_has t n true (Lib.hid (HMr.out.below (drewB9 _))) HTS.out HHAS).mono ?_
                      rintro e wn ⟨rfl, hbn⟩
                      go_wp2_with fail
                      refine hK.out _ _ (keep4n hHeld hbn) (fun hHeld => ?_)
                      clear hK K
                      (try simp only [Act.put, List.setIfInBounds_toArray, List.set_cons_zero, List.set_cons_succ])
                      refine wpAnyH_take (i := 6) (oi := ?o62) (v := ?v62) ?a62 (by kernel_rfl) (by kernel_rfl) (by kernel_rfl) ?q62 (Or.inl ⟨?g62, ?y62⟩) (by assumption) ?r62; (case' a62 => (simp only [List.getElem?_toArray, List.getElem?_cons_zero, List.getElem?_cons_succ]; rfl)); (case' q62 => (exact fun _ _ _ h => h)); (case' g62 => rfl); (case' y62 => (intro w hSw; (try dsimp only at hSw); go_simp; try with_reducible rfl)); (case' r62 => (try simp only [Act.put, List.setIfInBounds_toArray, List.set_cons_zero, List.set_cons_succ]))
                      refine wpAnyH_take (i := 7) (oi := ?o63) (v := ?v63) ?a63 (by kernel_rfl) (by kernel_rfl) (by kernel_rfl) ?q63 (Or.inl ⟨?g63, ?y63⟩) (by assumption) ?r63; (case' a63 => (simp only [List.getElem?_toArray, List.getElem?_cons_zero, List.getElem?_cons_succ]; rfl)); (case' q63 => (exact fun _ _ _ h => h)); (case' g63 => rfl); (case' y63 => (intro w hSw; (try dsimp only at hSw); go_simp; try with_reducible rfl)); (case' r63 => (try simp only [Act.put, List.setIfInBounds_toArray, List.set_cons_zero, List.set_cons_succ]))
                      refine wpAnyH_take (i := 8) (oi := ?o64) (v := ?v64) ?a64 (by kernel_rfl) (by kernel_rfl) (by kernel_rfl) ?q64 (Or.inl ⟨?g64, ?y64⟩) (by assumption) ?r64; (case' a64 => (simp only [List.getElem?_toArray, List.getElem?_cons_zero, List.getElem?_cons_succ]; rfl)); (case' q64 => (exact fun _ _ _ h => h)); (case' g64 => rfl); (case' y64 => (intro w hSw; (try dsimp only at hSw); go_simp; try with_reducible rfl)); (case' r64 => (try simp only [Act.put, List.setIfInBounds_toArray, List.set_cons_zero, List.set_cons_succ]))
                      refine wpAnyH_take (i := 9) (oi := ?o65) (v := ?v65) ?a65 (by kernel_rfl) (by kernel_rfl) (by kernel_rfl) ?q65 (Or.inl ⟨?g65, ?y65⟩) (by assumption) ?r65; (case' a65 => (simp only [List.getElem?_toArray, List.getElem?_cons_zero, List.getElem?_cons_succ]; rfl)); (case' q65 => (exact fun _ _ _ h => h)); (case' g65 => rfl); (case' y65 => (intro w hSw; (try dsimp only at hSw); go_simp; try with_reducible rfl)); (case' r65 => (try simp only [Act.put, List.setIfInBounds_toArray, List.set_cons_zero, List.set_cons_succ]))
                      refine wpAnyH_take (i := 10) (oi := ?o66) (v := ?v66) ?a66 (by kernel_rfl) (by kernel_rfl) (by kernel_rfl) ?q66 (Or.inl ⟨?g66, ?y66⟩) (by assumption) ?r66; (case' a66 => (simp only [List.getElem?_toArray, List.getElem?_cons_zero, List.getElem?_cons_succ]; rfl)); (case' q66 => (exact fun _ _ _ h => h)); (case' g66 => rfl); (case' y66 => (intro w hSw; (try dsimp only at hSw); go_simp; try with_reducible rfl)); (case' r66 => (try simp only [Act.put, List.setIfInBounds_toArray, List.set_cons_zero, List.set_cons_succ]))
                      refine wpAnyH_take (i := 11) (oi := ?o67) (v := ?v67) ?a67 (by kernel_rfl) (by kernel_rfl) (by kernel_rfl) ?q67 (Or.inl ⟨?g67, ?y67⟩) (by assumption) ?r67; (case' a67 => (simp only [List.getElem?_toArray, List.getElem?_cons_zero, List.getElem?_cons_succ]; rfl)); (case' q67 => (exact fun _ _ _ h => h)); (case' g67 => rfl); (case' y67 => (intro w hSw; (try dsimp only at hSw); go_simp; try with_reducible rfl)); (case' r67 => (try simp only [Act.put, List.setIfInBounds_toArray, List.set_cons_zero, List.set_cons_succ]))
                      refine wpAnyH_take (i := 12) (oi := ?o68) (v := ?v68) ?a68 (by kernel_rfl) (by kernel_rfl) (by kernel_rfl) ?q68 (Or.inl ⟨?g68, ?y68⟩) (by assumption) ?r68; (case' a68 => (simp only [List.getElem?_toArray, List.getElem?_cons_zero, List.getElem?_cons_succ]; rfl)); (case' q68 => (exact fun _ _ _ h => h)); (case' g68 => rfl); (case' y68 => (intro w hSw; (try dsimp only at hSw); go_simp; try with_reducible rfl)); (case' r68 => (try simp only [Act.put, List.setIfInBounds_toArray, List.set_cons_zero, List.set_cons_succ]))
                      refine wpAnyH_take (i := 13) (oi := ?o69) (v := ?v69) ?a69 (by kernel_rfl) (by kernel_rfl) (by kernel_rfl) ?q69 (Or.inl ⟨?g69, ?y69⟩) (by assumption) ?r69; (case' a69 => (simp only [List.getElem?_toArray, List.getElem?_cons_zero, List.getElem?_cons_succ]; rfl)); (case' q69 => (exact fun _ _ _ h => h)); (case' g69 => rfl); (case' y69 => (intro w hSw; (try dsimp only at hSw); go_simp; try with_reducible rfl)); (case' r69 => (try simp only [Act.put, List.setIfInBounds_toArray, List.set_cons_zero, List.set_cons_succ]))
                      refine wpAnyH_take (i := 14) (oi := ?o70) (v := ?v70) ?a70 (by kernel_rfl) (by kernel_rfl) (by kernel_rfl) ?q70 (Or.inl ⟨?g70, ?y70⟩) (by assumption) ?r70; (case' a70 => (simp only [List.getElem?_toArray, List.getElem?_cons_zero, List.getElem?_cons_succ]; rfl)); (case' q70 => (exact fun _ _ _ h => h)); (case' g70 => rfl); (case' y70 => (intro w hSw; (try dsimp only at hSw); go_simp; try with_reducible rfl)); (case' r70 => (try simp only [Act.put, List.setIfInBounds_toArray, List.set_cons_zero, List.set_cons_succ]))
                      refine wpAnyH_take (i := 15) (oi := ?o71) (v := ?v71) ?a71 (by kernel_rfl) (by kernel_rfl) (by kernel_rfl) ?q71 (Or.inl ⟨?g71, ?y71⟩) (by assumption) ?r71; (case' a71 => (simp only [List.getElem?_toArray, List.getElem?_cons_zero, List.getElem?_cons_succ]; rfl)); (case' q71 => (exact fun _ _ _ h => h)); (case' g71 => rfl); (case' y71 => (intro w hSw; (try dsimp only at hSw); go_simp; try with_reducible rfl)); (case' r71 => (try simp only [Act.put, List.setIfInBounds_toArray, List.set_cons_zero, List.set_cons_succ]))
                      refine wpAnyH_take (i := 16) (oi := ?o72) (v := ?v72) ?a72 (by kernel_rfl) (by kernel_rfl) (by kernel_rfl) ?q72 (Or.inl ⟨?g72, ?y72⟩) (by assumption) ?r72; (case' a72 => (simp only [List.getElem?_toArray, List.getElem?_cons_zero, List.getElem?_cons_succ]; rfl)); (case' q72 => (exact fun _ _ _ h => h)); (case' g72 => rfl); (case' y72 => (intro w hSw; (try dsimp only at hSw); go_simp; try with_reducible rfl)); (case' r72 => (try simp only [Act.put, List.setIfInBounds_toArray, List.set_cons_zero, List.set_cons_succ]))
                      refine wpAnyH_take (i := 17) (oi := ?o73) (v := ?v73) ?a73 (by kernel_rfl) (by kernel_rfl) (by kernel_rfl) ?q73 (Or.inl ⟨?g73, ?y73⟩) (by assumption) ?r73; (case' a73 => (simp only [List.getElem?_toArray, List.getElem?_cons_zero, List.getElem?_cons_succ]; rfl)); (case' q73 => (exact fun _ _ _ h => h)); (case' g73 => rfl); (case' y73 => (intro w hSw; (try dsimp only at hSw); go_simp; try with_reducible rfl)); (case' r73 => (try simp only [Act.put, List.setIfInBounds_toArray, List.set_cons_zero, List.set_cons_succ]))
                      refine wpAnyH_take (i := 18) (oi := ?o74) (v := ?v74) ?a74 (by kernel_rfl) (by kernel_rfl) (by kernel_rfl) ?q74 (Or.inl ⟨?g74, ?y74⟩) (by assumption) ?r74; (case' a74 => (simp only [List.getElem?_toArray, List.getElem?_cons_zero, List.getElem?_cons_succ]; rfl)); (case' q74 => (exact fun _ _ _ h => h)); (case' g74 => rfl); (case' y74 => (intro w hSw; (try dsimp only at hSw); go_simp; try with_reducible rfl)); (case' r74 => (try simp only [Act.put, List.setIfInBounds_toArray, List.set_cons_zero, List.set_cons_succ]))
                      refine wpAnyH_take (i := 19) (oi := ?o75) (v := ?v75) ?a75 (by kernel_rfl) (by kernel_rfl) (by kernel_rfl) ?q75 (Or.inl ⟨?g75, ?y75⟩) (by assumption) ?r75; (case' a75 => (simp only [List.getElem?_toArray, List.getElem?_cons_zero, List.getElem?_cons_succ]; rfl)); (case' q75 => (exact fun _ _ _ h => h)); (case' g75 => rfl); (case' y75 => (intro w hSw; (try dsimp only at hSw); go_simp; try with_reducible rfl)); (case' r75 => (try simp only [Act.put, List.setIfInBounds_toArray, List.set_cons_zero, List.set_cons_succ]))
                      refine wpAnyH_take (i := 20) (oi := ?o76) (v := ?v76) ?a76 (by kernel_rfl) (by kernel_rfl) (by kernel_rfl) ?q76 (Or.inl ⟨?g76, ?y76⟩) (by assumption) ?r76; (case' a76 => (simp only [List.getElem?_toArray, List.getElem?_cons_zero, List.getElem?_cons_succ]; rfl)); (case' q76 => (exact fun _ _ _ h => h)); (case' g76 => rfl); (case' y76 => (intro w hSw; (try dsimp only at hSw); go_simp; try with_reducible rfl)); (case' r76 => (try simp only [Act.put, List.setIfInBounds_toArray, List.set_cons_zero, List.set_cons_succ]))
                      refine wpAnyH_take (i := 21) (oi := ?o77) (v := ?v77) ?a77 (by kernel_rfl) (by kernel_rfl) (by kernel_rfl) ?q77 (Or.inl ⟨?g77, ?y77⟩) (by assumption) ?r77; (case' a77 => (simp only [List.getElem?_toArray, List.getElem?_cons_zero, List.getElem?_cons_succ]; rfl)); (case' q77 => (exact fun _ _ _ h => h)); (case' g77 => rfl); (case' y77 => (intro w hSw; (try dsimp only at hSw); go_simp; try with_reducible rfl)); (case' r77 => (try simp only [Act.put, List.setIfInBounds_toArray, List.set_cons_zero, List.set_cons_succ]))
                      refine wpAnyH_ready (rs := [22]) (by kernel_rfl) (by simp) ?_
                      refine AllReadyH.cons (o := ?o78) ?a78 (fun K hK => ?s78) ?m78; (case' a78 => (simp only [List.getElem?_toArray, List.getElem?_cons_zero, List.getElem?_cons_succ]; rfl))
                      case s78 =>
                        go_simp
                        go_at_call 29
                        refine (rless_is t1 t true _ HT1.out HTS.out HLS).mono ?_
                        rintro e wn ⟨rfl, hbn⟩
                        go_wp2_with fail
                        refine hK.out _ _ (keep4n hHeld hbn) (fun hHeld => ?_)
                        clear hK K
                        (try simp only [Act.put, List.setIfInBounds_toArray, List.set_cons_zero, List.set_cons_succ])
                        refine wpAnyH_take (i := 23) (oi := ?o79) (v := ?v79) ?a79 (by kernel_rfl) (by kernel_rfl) (by kernel_rfl) ?q79 (Or.inl ⟨?g79, ?y79⟩) (by assumption) ?r79; (case' a79 => (simp only [List.getElem?_toArray, List.getElem?_cons_zero, List.getElem?_cons_succ]; rfl)); (case' q79 => (exact fun _ _ _ h => h)); (case' g79 => rfl); (case' y79 => (intro w hSw; (try dsimp only at hSw); go_simp; try with_reducible rfl)); (case' r79 => (try simp only [Act.put, List.setIfInBounds_toArray, List.set_cons_zero, List.set_cons_succ]))
                        refine wpAnyH_take (i := 24) (oi := ?o80) (v := ?v80) ?a80 (by kernel_rfl) (by kernel_rfl) (by kernel_rfl) ?q80 (Or.inl ⟨?g80, ?y80⟩) (by assumption) ?r80; (case' a80 => (simp only [List.getElem?_toArray, List.getElem?_cons_zero, List.getElem?_cons_succ]; rfl)); (case' q80 => (exact fun _ _ _ h => h)); (case' g80 => rfl); (case' y80 => (intro w hSw; (try dsimp only at hSw); go_simp; try with_reducible rfl)); (case' r80 => (try simp only [Act.put, List.setIfInBounds_toArray, List.set_cons_zero, List.set_cons_succ]))
                        refine wpAnyH_take (i := 25) (oi := ?o81) (v := ?v81) ?a81 (by kernel_rfl) (by kernel_rfl) (by kernel_rfl) ?q81 (Or.inl ⟨?g81, ?y81⟩) (by assumption) ?r81; (case' a81 => (simp only [List.getElem?_toArray, List.getElem?_cons_zero, List.getElem?_cons_succ]; rfl)); (case' q81 => (exact fun _ _ _ h => h)); (case' g81 => rfl); (case' y81 => (intro w hSw; (try dsimp only at hSw); go_simp; try with_reducible rfl)); (case' r81 => (try simp only [Act.put, List.setIfInBounds_toArray, List.set_cons_zero, List.set_cons_succ]))
                        refine wpAnyH_take (i := 26) (oi := ?o82) (v := undef) ?a82 (by kernel_rfl) (by kernel_rfl) (by kernel_rfl) ?q82 (Or.inr ⟨?g82, rfl⟩) (by assumption) ?r82; (case' a82 => (simp only [List.getElem?_toArray, List.getElem?_cons_zero, List.getElem?_cons_succ]; rfl)); (case' q82 => (exact fun _ _ _ h => h)); (case' g82 => rfl); (case' r82 => (try simp only [Act.put, List.setIfInBounds_toArray, List.set_cons_zero, List.set_cons_succ]))
                        refine wpAnyH_take (i := 27) (oi := ?o83) (v := undef) ?a83 (by kernel_rfl) (by kernel_rfl) (by kernel_rfl) ?q83 (Or.inr ⟨?g83, rfl⟩) (by assumption) ?r83; (case' a83 => (simp only [List.getElem?_toArray, List.getElem?_cons_zero, List.getElem?_cons_succ]; rfl)); (case' q83 => (exact fun _ _ _ h => h)); (case' g83 => rfl); (case' r83 => (try simp only [Act.put, List.setIfInBounds_toArray, List.set_cons_zero, List.set_cons_succ]))
                        refine wpAnyH_take (i := 28) (oi := ?o84) (v := undef) ?a84 (by kernel_rfl) (by kernel_rfl) (by kernel_rfl) ?q84 (Or.inr ⟨?g84, rfl⟩) (by assumption) ?r84; (case' a84 => (simp only [List.getElem?_toArray, List.getElem?_cons_zero, List.getElem?_cons_succ]; rfl)); (case' q84 => (exact fun _ _ _ h => h)); (case' g84 => rfl); (case' r84 => (try simp only [Act.put, List.setIfInBounds_toArray, List.set_cons_zero, List.set_cons_succ]))
                        refine wpAnyH_take (i := 29) (oi := ?o85) (v := undef) ?a85 (by kernel_rfl) (by kernel_rfl) (by kernel_rfl) ?q85 (Or.inr ⟨?g85, rfl⟩) (by assumption) ?r85; (case' a85 => (simp only [List.getElem?_toArray, List.getElem?_cons_zero, List.getElem?_cons_succ]; rfl)); (case' q85 => (exact fun _ _ _ h => h)); (case' g85 => rfl); (case' r85 => (try simp only [Act.put, List.setIfInBounds_toArray, List.set_cons_zero, List.set_cons_succ]))
                        refine wpAnyH_take (i := 30) (oi := ?o86) (v := undef) ?a86 (by kernel_rfl) (by kernel_rfl) (by kernel_rfl) ?q86 (Or.inr ⟨?g86, rfl⟩) (by assumption) ?r86; (case' a86 => (simp only [List.getElem?_toArray, List.getElem?_cons_zero, List.getElem?_cons_succ]; rfl)); (case' q86 => (exact fun _ _ _ h => h)); (case' g86 => rfl); (case' r86 => (try simp only [Act.put, List.setIfInBounds_toArray, List.set_cons_zero, List.set_cons_succ]))
                        refine wpAnyH_take (i := 31) (oi := ?o87) (v := undef) ?a87 (by kernel_rfl) (by kernel_rfl) (by kernel_rfl) ?q87 (Or.inr ⟨?g87, rfl⟩) (by assumption) ?r87; (case' a87 => (simp only [List.getElem?_toArray, List.getElem?_cons_zero, List.getElem?_cons_succ]; rfl)); (case' q87 => (exact fun _ _ _ h => h)); (case' g87 => rfl); (case' r87 => (try simp only [Act.put, List.setIfInBounds_toArray, List.set_cons_zero, List.set_cons_succ]))
                        refine wpAnyH_take (i := 32) (oi := ?o88) (v := undef) ?a88 (by kernel_rfl) (by kernel_rfl) (by kernel_rfl) ?q88 (Or.inr ⟨?g88, rfl⟩) (by assumption) ?r88; (case' a88 => (simp only [List.getElem?_toArray, List.getElem?_cons_zero, List.getElem?_cons_succ]; rfl)); (case' q88 => (exact fun _ _ _ h => h)); (case' g88 => rfl); (case' r88 => (try simp only [Act.put, List.setIfInBounds_toArray, List.set_cons_zero, List.set_cons_succ]))
                        refine wpAnyH_take (i := 33) (oi := ?o89) (v := undef) ?a89 (by kernel_rfl) (by kernel_rfl) (by kernel_rfl) ?q89 (Or.inr ⟨?g89, rfl⟩) (by assumption) ?r89; (case' a89 => (simp only [List.getElem?_toArray, List.getElem?_cons_zero, List.getElem?_cons_succ]; rfl)); (case' q89 => (exact fun _ _ _ h => h)); (case' g89 => rfl); (case' r89 => (try simp only [Act.put, List.setIfInBounds_toArray, List.set_cons_zero, List.set_cons_succ]))
                        refine wpAnyH_take (i := 34) (oi := ?o90) (v := undef) ?a90 (by kernel_rfl) (by kernel_rfl) (by kernel_rfl) ?q90 (Or.inr ⟨?g90, rfl⟩) (by assumption) ?r90; (case' a90 => (simp only [List.getElem?_toArray, List.getElem?_cons_zero, List.getElem?_cons_succ]; rfl)); (case' q90 => (exact fun _ _ _ h => h)); (case' g90 => rfl); (case' r90 => (try simp only [Act.put, List.setIfInBounds_toArray, List.set_cons_zero, List.set_cons_succ]))
                        refine wpAnyH_take (i := 35) (oi := ?o91) (v := undef) ?a91 (by kernel_rfl) (by kernel_rfl) (by kernel_rfl) ?q91 (Or.inr ⟨?g91, rfl⟩) (by assumption) ?r91; (case' a91 => (simp only [List.getElem?_toArray, List.getElem?_cons_zero, List.getElem?_cons_succ]; rfl)); (case' q91 => (exact fun _ _ _ h => h)); (case' g91 => rfl); (case' r91 => (try simp only [Act.put, List.setIfInBounds_toArray, List.set_cons_zero, List.set_cons_succ]))
                        refine wpAnyH_take (i := 36) (oi := ?o92) (v := undef) ?a92 (by kernel_rfl) (by kernel_rfl) (by kernel_rfl) ?q92 (Or.inr ⟨?g92, rfl⟩) (by assumption) ?r92; (case' a92 => (simp only [List.getElem?_toArray, List.getElem?_cons_zero, List.getElem?_cons_succ]; rfl)); (case' q92 => (exact fun _ _ _ h => h)); (case' g92 => rfl); (case' r92 => (try simp only [Act.put, List.setIfInBounds_toArray, List.set_cons_zero, List.set_cons_succ]))
                        refine wpAnyH_take (i := 37) (oi := ?o93) (v := undef) ?a93 (by kernel_rfl) (by kernel_rfl) (by kernel_rfl) ?q93 (Or.inr ⟨?g93, rfl⟩) (by assumption) ?r93; (case' a93 => (simp only [List.getElem?_toArray, List.getElem?_cons_zero, List.getElem?_cons_succ]; rfl)); (case' q93 => (exact fun _ _ _ h => h)); (case' g93 => rfl); (case' r93 => (try simp only [Act.put, List.setIfInBounds_toArray, List.set_cons_zero, List.set_cons_succ]))
                        refine wpAnyH_take (i := 38) (oi := ?o94) (v := undef) ?a94 (by kernel_rfl) (by kernel_rfl) (by kernel_rfl) ?q94 (Or.inr ⟨?g94, rfl⟩) (by assumption) ?r94; (case' a94 => (simp only [List.getElem?_toArray, List.getElem?_cons_zero, List.getElem?_cons_succ]; rfl)); (case' q94 => (exact fun _ _ _ h => h)); (case' g94 => rfl); (case' r94 => (try simp only [Act.put, List.setIfInBounds_toArray, List.set_cons_zero, List.set_cons_succ]))
                        refine wpAnyH_take (i := 39) (oi := ?o95) (v := undef) ?a95 (by kernel_rfl) (by kernel_rfl) (by kernel_rfl) ?q95 (Or.inr ⟨?g95, rfl⟩) (by assumption) ?r95; (case' a95 => (simp only [List.getElem?_toArray, List.getElem?_cons_zero, List.getElem?_cons_succ]; rfl)); (case' q95 => (exact fun _ _ _ h => h)); (case' g95 => rfl); (case' r95 => (try simp only [Act.put, List.setIfInBounds_toArray, List.set_cons_zero, List.set_cons_succ]))
                        refine wpAnyH_take (i := 40) (oi := ?o96) (v := undef) ?a96 (by kernel_rfl) (by kernel_rfl) (by kernel_rfl) ?q96 (Or.inr ⟨?g96, rfl⟩) (by assumption) ?r96; (case' a96 => (simp only [List.getElem?_toArray, List.getElem?_cons_zero, List.getElem?_cons_succ]; rfl)); (case' q96 => (exact fun _ _ _ h => h)); (case' g96 => rfl); (case' r96 => (try simp only [Act.put, List.setIfInBounds_toArray, List.set_cons_zero, List.set_cons_succ]))
                        refine wpAnyH_take (i := 41) (oi := ?o97) (v := undef) ?a97 (by kernel_rfl) (by kernel_rfl) (by kernel_rfl) ?q97 (Or.inr ⟨?g97, rfl⟩) (by assumption) ?r97; (case' a97 => (simp only [List.getElem?_toArray, List.getElem?_cons_zero, List.getElem?_cons_succ]; rfl)); (case' q97 => (exact fun _ _ _ h => h)); (case' g97 => rfl); (case' r97 => (try simp only [Act.put, List.setIfInBounds_toArray, List.set_cons_zero, List.set_cons_succ]))
                        refine wpAnyH_take (i := 42) (oi := ?o98) (v := undef) ?a98 (by kernel_rfl) (by kernel_rfl) (by kernel_rfl) ?q98 (Or.inr ⟨?g98, rfl⟩) (by assumption) ?r98; (case' a98 => (simp only [List.getElem?_toArray, List.getElem?_cons_zero, List.getElem?_cons_succ]; rfl)); (case' q98 => (exact fun _ _ _ h => h)); (case' g98 => rfl); (case' r98 => (try simp only [Act.put, List.setIfInBounds_toArray, List.set_cons_zero, List.set_cons_succ]))
                        refine wpAnyH_take (i := 43) (oi := ?o99) (v := undef) ?a99 (by kernel_rfl) (by kernel_rfl) (by kernel_rfl) ?q99 (Or.inr ⟨?g99, rfl⟩) (by assumption) ?r99; (case' a99 => (simp only [List.getElem?_toArray, List.getElem?_cons_zero, List.getElem?_cons_succ]; rfl)); (case' q99 => (exact fun _ _ _ h => h)); (case' g99 => rfl); (case' r99 => (try simp only [Act.put, List.setIfInBounds_toArray, List.set_cons_zero, List.set_cons_succ]))
                        refine wpAnyH_take (i := 44) (oi := ?o100) (v := undef) ?a100 (by kernel_rfl) (by kernel_rfl) (by kernel_rfl) ?q100 (Or.inr ⟨?g100, rfl⟩) (by assumption) ?r100; (case' a100 => (simp only [List.getElem?_toArray, List.getElem?_cons_zero, List.getElem?_cons_succ]; rfl)); (case' q100 => (exact fun _ _ _ h => h)); (case' g100 => rfl); (case' r100 => (try simp only [Act.put, List.setIfInBounds_toArray, List.set_cons_zero, List.set_cons_succ]))
                        refine wpAnyH_take (i := 45) (oi := ?o101) (v := undef) ?a101 (by kernel_rfl) (by kernel_rfl) (by kernel_rfl) ?q101 (Or.inr ⟨?g101, rfl⟩) (by assumption) ?r101; (case' a101 => (simp only [List.getElem?_toArray, List.getElem?_cons_zero, List.getElem?_cons_succ]; rfl)); (case' q101 => (exact fun _ _ _ h => h)); (case' g101 => rfl); (case' r101 => (try simp only [Act.put, List.setIfInBounds_toArray, List.set_cons_zero, List.set_cons_succ]))
                        refine wpAnyH_take (i := 46) (oi := ?o102) (v := undef) ?a102 (by kernel_rfl) (by kernel_rfl) (by kernel_rfl) ?q102 (Or.inr ⟨?g102, rfl⟩) (by assumption) ?r102; (case' a102 => (simp only [List.getElem?_toArray, List.getElem?_cons_zero, List.getElem?_cons_succ]; rfl)); (case' q102 => (exact fun _ _ _ h => h)); (case' g102 => rfl); (case' r102 => (try simp only [Act.put, List.setIfInBounds_toArray, List.set_cons_zero, List.set_cons_succ]))
                        refine wpAnyH_take (i := 47) (oi := ?o103) (v := undef) ?a103 (by kernel_rfl) (by kernel_rfl) (by kernel_rfl) ?q103 (Or.inr ⟨?g103, rfl⟩) (by assumption) ?r103; (case' a103 => (simp only [List.getElem?_toArray, List.getElem?_cons_zero, List.getElem?_cons_succ]; rfl)); (case' q103 => (exact fun _ _ _ h => h)); (case' g103 => rfl); (case' r103 => (try simp only [Act.put, List.setIfInBounds_toArray, List.set_cons_zero, List.set_cons_succ]))
                        refine wpAnyH_take (i := 48) (oi := ?o104) (v := undef) ?a104 (by kernel_rfl) (by kernel_rfl) (by kernel_rfl) ?q104 (Or.inr ⟨?g104, rfl⟩) (by assumption) ?r104; (case' a104 => (simp only [List.getElem?_toArray, List.getElem?_cons_zero, List.getElem?_cons_succ]; rfl)); (case' q104 => (exact fun _ _ _ h => h)); (case' g104 => rfl); (case' r104 => (try simp only [Act.put, List.setIfInBounds_toArray, List.set_cons_zero, List.set_cons_succ]))
                        refine wpAnyH_take (i := 49) (oi := ?o105) (v := undef) ?a105 (by kernel_rfl) (by kernel_rfl) (by kernel_rfl) ?q105 (Or.inr ⟨?g105, rfl⟩) (by assumption) ?r105; (case' a105 => (simp only [List.getElem?_toArray, List.getElem?_cons_zero, List.getElem?_cons_succ]; rfl)); (case' q105 => (exact fun _ _ _ h => h)); (case' g105 => rfl); (case' r105 => (try simp only [Act.put, List.setIfInBounds_toArray, List.set_cons_zero, List.set_cons_succ]))
                        refine wpAnyH_take (i := 50) (oi := ?o106) (v := undef) ?a106 (by kernel_rfl) (by kernel_rfl) (by kernel_rfl) ?q106 (Or.inr ⟨?g106, rfl⟩) (by assumption) ?r106; (case' a106 => (simp only [List.getElem?_toArray, List.getElem?_cons_zero, List.getElem?_cons_succ]; rfl)); (case' q106 => (exact fun _ _ _ h => h)); (case' g106 => rfl); (case' r106 => (try simp only [Act.put, List.setIfInBounds_toArray, List.set_cons_zero, List.set_cons_succ]))
                        refine wpAnyH_take (i := 51) (oi := ?o107) (v := undef) ?a107 (by kernel_rfl) (by kernel_rfl) (by kernel_rfl) ?q107 (Or.inr ⟨?g107, rfl⟩) (by assumption) ?r107; (case' a107 => (simp only [List.getElem?_toArray, List.getElem?_cons_zero, List.getElem?_cons_succ]; rfl)); (case' q107 => (exact fun _ _ _ h => h)); (case' g107 => rfl); (case' r107 => (try simp only [Act.put, List.setIfInBounds_toArray, List.set_cons_zero, List.set_cons_succ]))
                        refine wpAnyH_take (i := 52) (oi := ?o108) (v := undef) ?a108 (by kernel_rfl) (by kernel_rfl) (by kernel_rfl) ?q108 (Or.inr ⟨?g108, rfl⟩) (by assumption) ?r108; (case' a108 => (simp only [List.getElem?_toArray, List.getElem?_cons_zero, List.getElem?_cons_succ]; rfl)); (case' q108 => (exact fun _ _ _ h => h)); (case' g108 => rfl); (case' r108 => (try simp only [Act.put, List.setIfInBounds_toArray, List.set_cons_zero, List.set_cons_succ]))
                        refine wpAnyH_take (i := 53) (oi := ?o109) (v := ?v109) ?a109 (by kernel_rfl) (by kernel_rfl) (by kernel_rfl) ?q109 (Or.inl ⟨?g109, ?y109⟩) (by assumption) ?r109; (case' a109 => (simp only [List.getElem?_toArray, List.getElem?_cons_zero, List.getElem?_cons_succ]; rfl)); (case' q109 => (exact fun _ _ _ h => h)); (case' g109 => rfl); (case' y109 => (intro w hSw; (try dsimp only at hSw); go_simp; try with_reducible rfl)); (case' r109 => (try simp only [Act.put, List.setIfInBounds_toArray, List.set_cons_zero, List.set_cons_succ]))
                        refine wpAnyH_take (i := 54) (oi := ?o110) (v := ?v110) ?a110 (by kernel_rfl) (by kernel_rfl) (by kernel_rfl) ?q110 (Or.inl ⟨?g110, ?y110⟩) (by assumption) ?r110; (case' a110 => (simp only [List.getElem?_toArray, List.getElem?_cons_zero, List.getElem?_cons_succ]; rfl)); (case' q110 => (exact fun _ _ _ h => h)); (case' g110 => rfl); (case' y110 => (intro w hSw; (try dsimp only at hSw); go_simp; try with_reducible rfl)); (case' r110 => (try simp only [Act.put, List.setIfInBounds_toArray, List.set_cons_zero, List.set_cons_succ]))
                        refine wpAnyH_done (by kernel_rfl) ?_ _
                        have HBN := Lib.hid hHeld.2
                        clear hHeld
                        go_wp2_with fail
                        go_roundw
                        case rel => exact ⟨k + 1, by omega, by go_num, HBN⟩
                        case measure => simp [intOf]; omega
                      exact AllReadyH.nil
                    exact AllReadyH.nil
                  · have wn : IntKind.i64.wrap (n1 + 1) = n := by rw [hn]; exact IntWalk.i64_in _ (by omega)
                    have HLS : Hid (lessB t1 t1 = false) := Lib.hid (less_irr t1)
                    subst he
                    clear hcp hp1 hk3 hp0 hk1 kz hb1 hn e1
                    go_region_held3 (fun w' => (w'.cell? ⟨gp, k * 2, none⟩ = some (.string t1) ∧ w'.cell? ⟨gp, k * 2 + 1, none⟩ = some (.int .i64 n) ∧ w'.cell? ⟨gp, k1 * 2, none⟩ = some (.string t1) ∧ w'.cell? ⟨gp, k1 * 2 + 1, none⟩ = some (.int .i64 n1)) ∧ Below w5.heap.size w5 w')
                      (first | assumption | exact keep4n hS (drewB9 _) | exact keep4n (by assumption) (by assumption) | exact keep4n (by assumption) (drewB9 _))
                      (first | (go_at_call 29; refine (rless_is t1 t1 false _ HT1.out HTS.out HLS).mono ?_; rintro e w22 ⟨rfl, hb22⟩) | (go_at_call 21; refine (m9_has t1 n true (by first | exact HMr | exact Lib.hid (HMr.out.below (drewB9 _))) HTS.out HHAS).mono ?_; rintro e w21 ⟨rfl, hb21⟩))
                    all_goals
                      rename_i hh
                      have HBN := Lib.hid hh.2
                      clear hh
                      go_wp2_with fail
                      go_roundw
                      case rel => exact ⟨k + 1, by omega, by go_num, HBN⟩
                      case measure => simp [intOf]; omega
              · have kl : ¬ (k : Int) < (pn : Int) := by omega
                have M6 := Lib.hid (M5.out.below HB3.out)
                have R14 := Lib.hid (reads_keep R12b.out (KeepC.below HB3.out) HB3.out.size)
                clear hkl hk3 R11 HNEXT HHASA HPS HB3 M5 R12b
                go_wp2_with fail
                go_loopw [14] (fun p wr => ∃ k : Nat, k ≤ on ∧ p = .int .i64 k ∧ Hid (Below wr3.heap.size wr3 wr)) (fun p _ => on - (intOf p).toNat)
                case atStart => exact ⟨0, Nat.zero_le _, rfl, Lib.hid (Below.refl _ _)⟩
                case round =>
                  obtain ⟨k4, hk4, rfl, HB4⟩ := hrel
                  by_cases hkl : k4 < on
                  · obtain ⟨gp, rfl, hgp, hcp⟩ := R14.out (by rw [HONL.out]; omega)
                    obtain ⟨y, hp0⟩ : ∃ y, ON[k4]? = some y := ⟨ON[k4]'(by rw [HONL.out]; exact hkl), List.getElem?_eq_getElem _⟩
                    obtain rfl := HONG.out _ _ hp0
                    obtain ⟨e0, e1⟩ := hcp k4 _ hp0
                    dsimp only at e0 e1
                    have d0 := (HB4.out.cell (p := ⟨gp, k4 * 2, none⟩) hgp).trans e0
                    have d1 := (HB4.out.cell (p := ⟨gp, k4 * 2 + 1, none⟩) hgp).trans e1
                    have hS := And.intro (And.intro d0 d1) HB4.out
                    have k0 : (0 : Int) ≤ (k4 : Int) := by omega
                    have kl : (k4 : Int) < (on : Int) := by omega
                    clear e0 e1 hcp hp0
                    go_upto_region 26 with fail
                    go_region_held3 (fun w' => (w'.cell? ⟨gp, k4 * 2, none⟩ = some (.string u) ∧ w'.cell? ⟨gp, k4 * 2 + 1, none⟩ = some (.int .i64 (k4 : Int))) ∧ Below wr3.heap.size wr3 w')
                      (first | assumption | exact keep2n hS (drewB9 _) | exact keep2n (by assumption) (by assumption) | exact keep2n (by assumption) (drewB9 _))
                      (first | (go_at_call 9; refine (cut_is _ a1 u HA1.out HU).mono ?_; rintro e wz ⟨rfl, hwz⟩; obtain rfl := hwz.symm))
                    all_goals
                      rename_i hh
                      have HBN := Lib.hid hh.2
                      clear hh
                      go_wp2_with fail
                      go_roundw
                      case rel => exact ⟨k4 + 1, by omega, by go_num, HBN⟩
                      case measure => simp [intOf]; omega
                  · have kl : ¬ (k4 : Int) < (on : Int) := by omega
                    have M7 := Lib.hid (M6.out.below HB4.out)
                    clear hkl hk4 HB4
                    go_wp2_with (go_at_call 26; have _q := M7; refine (fixed9_any _).mono ?_; rintro e w20 ⟨rfl, h20⟩)
                    go_ret
                    exact ⟨rfl, (M7.out.below h20).bel⟩
      · have j1 : (j : Int) < (m : Int) := by omega
        have j2 : ¬ (j : Int) < 60 := by omega
        have G := Lib.hid HM.out.good
        obtain ⟨lm, hlm⟩ : ∃ n, Q.length = n := ⟨_, rfl⟩
        have HLM := Lib.hid hlm
        have hl8 : lm ≤ 8 := by rw [← hlm]; exact G.out.len
        clear HT HSZ HL0 hml hlm
        go_wp2_with (go_at_call 17; refine (m9_list lm HM HLM.out).mono ?_; rintro e w1 ⟨A7, c7, rfl, o7, h7⟩; have M1 := Lib.hid (HM.out.below h7); have R7 := Lib.hid (own_reads o7 HLM.out (own_lt o7)); clear o7)
        go_loopw [8, 9, 10] (fun s n p wr => ∃ (i c : Nat) (A : Option Addr), i ≤ lm ∧ s = .slice A i c ∧ n = .int .i64 (allN (Q.take i) : Nat) ∧ p = .int .i64 i ∧ Hid (NL w1 wr ((Q.take i).map Pt.t) A i c)) (fun _ _ p _ => lm - (intOf p).toNat)
        case atStart => exact ⟨0, 0, _, Nat.zero_le _, rfl, rfl, rfl, Lib.hid ⟨World.ownsRow_made w1 #[] 0 (Nat.le_refl _) (by unfold maxLen; omega) rfl, rfl, one_box' _⟩⟩
        case round =>
          obtain ⟨i, c, A, hi, rfl, rfl, rfl, HP⟩ := hrel
          by_cases hlt : i < lm
          · obtain ⟨ga, rfl, hga, hcs⟩ := R7.out (by rw [HLM.out]; omega)
            obtain ⟨⟨t, n⟩, hst⟩ : ∃ y, Q[i]? = some y := ⟨Q[i]'(by rw [HLM.out]; exact hlt), List.getElem?_eq_getElem _⟩
            obtain ⟨e0, e1⟩ := hcs i _ hst
            have hf := G.out.fit _ (List.mem_of_getElem? hst)
            dsimp only at e0 e1 hf
            obtain ⟨q, rfl⟩ : ∃ q : Nat, n = (q : Int) := ⟨n.toNat, by omega⟩
            have hN := all_n_next hst
            have hA8 := all_n_le (Q := Q.take i) (fun y hy => (G.out.fit y (List.mem_of_mem_take hy)).2.2)
            rw [List.length_take, HLM.out] at hA8
            obtain ⟨a, ha⟩ : ∃ a, allN (Q.take i) = a := ⟨_, rfl⟩
            obtain ⟨b, hb⟩ : ∃ b, allN (Q.take (i + 1)) = b := ⟨_, rfl⟩
            rw [ha, hb, show (⟨t, (q : Int)⟩ : Pt).n.toNat = q from Int.toNat_natCast q] at hN
            rw [ha] at hA8 ⊢
            have HBq := Lib.hid hb
            have hsum : (a : Int) + (q : Int) = (b : Int) := by omega
            have wsum : IntKind.i64.wrap ((a : Int) + (q : Int)) = (b : Int) := by rw [hsum]; exact IntWalk.i64_in _ (by omega)
            have d0 := (HP.out.bel.cell (p := ⟨ga, i * 2, none⟩) hga).trans e0
            have d1 := (HP.out.bel.cell (p := ⟨ga, i * 2 + 1, none⟩) hga).trans e1
            have HNX : Hid ((Q.take (i + 1)).map Pt.t = (Q.take i).map Pt.t ++ [t]) := Lib.hid (by rw [List.take_add_one, hst, List.map_append]; rfl)
            have HSZ2 := Lib.hid HP.out.bel.size
            have HROW := Lib.hid HP.out.row
            have E1 := Lib.hid e1
            have p0 : (0 : Int) ≤ (i : Int) := by omega
            have p1 : (i : Int) < (lm : Int) := by omega
            clear hcs hst e0 e1 hN ha hb hf hA8 hsum
            go_wp2_with (at_builtin; refine wpList_append_own _ rfl _ _ 23 rfl w1.heap.size 9 i0 _ 1 16 Try.underlying23 hi0 hz0 hz1 hz2 rfl (by decide) (.slice A i c) i _ (by rfl) (HROW.out.alloc _) ⟨_, 0, none⟩ 1 1 [.string t] (by rfl) (by rfl) (World.news_of_block (cs := #[.string t]) (t := 9) (fr := (0, 0)) (heap_alloc_new _ _)) (by simp [Value.oneCell']) (by unfold maxLen; omega) (by omega) (by have := HSZ2.out; simp; omega) ?_; intro v4 w4 hown4 hgrow4 _; have HB4 : Hid (Below w1.heap.size w1 w4) := Lib.hid ((HP.out.bel.alloc HSZ2.out _).grown hgrow4 (by have := HSZ2.out; simp; omega) (fun z e => (HROW.out.lt z e).1)); obtain ⟨A4, c4, rfl⟩ := own_len hown4; have HO4 := Lib.hid hown4; clear hown4 hgrow4; have d4 := (HB4.out.cell (p := ⟨ga, i * 2 + 1, none⟩) hga).trans E1.out)
            go_roundw
            case rel => exact ⟨i + 1, c4, A4, by omega, rfl, by rw [HBq.out], by go_num, Lib.hid ⟨by rw [HNX.out]; unfold texts; rw [List.map_append]; exact HO4.out, by rw [HNX.out, List.length_append, HP.out.len]; rfl, HB4.out⟩⟩
            case measure => simp [intOf]; omega
          · have hiq : i = lm := by omega
            have p1 : ¬ (i : Int) < (lm : Int) := by omega
            have htk : Q.take i = Q := List.take_of_length_le (by rw [HLM.out]; omega)
            have hrow := HP.out.row
            have hlen := HP.out.len
            rw [htk] at hrow hlen ⊢
            have HNS := Lib.hid (own_texts hrow hlen (own_lt hrow))
            have HNL := Lib.hid hlen
            obtain ⟨P, hP⟩ : ∃ P, allP Q = P := ⟨_, rfl⟩
            have HP1 : Hid (partsQ Q (Q.map Pt.t) = P) := Lib.hid (by rw [parts_all, hP])
            obtain ⟨pn, hpn⟩ : ∃ n, allN Q = n := ⟨_, rfl⟩
            have HPL : Hid (P.length = pn) := Lib.hid (by rw [← hP, all_len, hpn])
            have hpn8 : pn ≤ 64 := by have := all_n_le (Q := Q) (fun y hy => (G.out.fit y hy).2.2); rw [HLM.out, hpn] at this; omega
            have HHASA : Hid (∀ x ∈ P, hasP Q x.t x.n = true) := Lib.hid (fun x hx => by rw [← hP] at hx; exact all_has G.out.rise hx)
            have HPB : Hid (∀ x ∈ P, 0 ≤ x.n ∧ x.n ≤ 8) := Lib.hid (fun x hx => by rw [← hP] at hx; obtain ⟨y, hy, _, h0, h1⟩ := all_mem hx; have := (G.out.fit y hy).2.2; omega)
            have HPS : Hid (∀ x ∈ P, x.t.size ≤ maxLen) := Lib.hid (fun x hx => by rw [← hP] at hx; obtain ⟨y, hy, e, _⟩ := all_mem hx; rw [e]; have := (G.out.fit y hy).1; unfold maxLen; omega)
            have HNEXT : Hid (∀ (k : Nat) (x y : Pt), P[k]? = some x → P[k + 1]? = some y → lessB x.t y.t = true ∨ (x.t = y.t ∧ y.n = x.n + 1)) := Lib.hid (fun k x y h1 h2 => by rw [← hP] at h1 h2; exact all_next G.out.rise h1 h2)
            obtain ⟨on, hon⟩ : ∃ n, (partsQ Q [u]).length = n := ⟨_, rfl⟩
            obtain ⟨ON, hON⟩ : ∃ l, partsQ Q [u] = l := ⟨_, rfl⟩
            have HON := Lib.hid hON
            have HONL : Hid (ON.length = on) := Lib.hid (by rw [← hON]; exact hon)
            have HNUM : Hid (numOf Q u = (on : Int)) := Lib.hid (by rw [← hon]; exact (parts_one_len G.out u).symm)
            have HONG : Hid (∀ (i : Nat) (x : Pt), ON[i]? = some x → x = ⟨u, (i : Int)⟩) := Lib.hid (fun i x h => by rw [← hON] at h; exact parts_one_get G.out h)
            have HNUM8 : Hid (numOf Q u ≤ 8) := Lib.hid (G.out.num u).2.1
            have hon8 : on ≤ 8 := by have h1 := HNUM.out; have h2 := HNUM8.out; omega
            have HPN : Hid (partsQ Q [] = []) := Lib.hid (parts_nil Q)
            have M2 := Lib.hid (M1.out.below HP.out.bel)
            rw [hpn]
            clear hP hpn hon hON hrow hlen htk hiq hlt HP R7 HNUM8
            go_wp2_with (first
              | (go_at_call 24; have _q := M4; refine (m9_parts [] [] 0 0 0 none M4 (Lib.hid (fun h => absurd h (by decide))) (Lib.hid rfl) (by decide) HPN (Lib.hid rfl)).mono ?_; rintro e w5 ⟨A13, c13, rfl, _, h13⟩; have M5 := Lib.hid (M4.out.below h13); have R11 := Lib.hid (reads_keep R10.out (KeepC.below h13) h13.size); have R12b := Lib.hid (reads_keep R12.out (KeepC.below h13) h13.size); clear h13)
              | (go_at_call 19; have _q := M4; refine (m9_n u (on : Int) M4 HUS.out HNUM).mono ?_; rintro e wz ⟨rfl, hwz⟩; obtain rfl := hwz.symm)
              | (go_at_call 24; have _q := M3; refine (m9_parts [u] ON on 1 1 _ (Lib.hid (M3.out.below (one_box' (.cells #[.string u] 9)))) (Lib.hid (texts_one _ _)) (Lib.hid rfl) (by decide) HON HONL).mono ?_; rintro e w4 ⟨A12, c12, rfl, o12, h12⟩; have M4 := Lib.hid ((M3.out.below (one_box' (.cells #[.string u] 9))).below h12); have R12 := Lib.hid (own_reads o12 HONL.out (own_lt o12)); have R10 := Lib.hid (reads_keep R9.out (keep_box h12).1 (keep_box h12).2); clear o12 h12)
              | (go_at_call 9; refine (cut_is _ a1 u HA1.out HU).mono ?_; rintro e wz ⟨rfl, hwz⟩; obtain rfl := hwz.symm)
              | (go_at_call 24; have _q := M2; refine (m9_parts (Q.map Pt.t) P pn i c A M2 HNS HNL (by omega) HP1 HPL).mono ?_; rintro e w3 ⟨A9, c9, rfl, o9, h9⟩; have M3 := Lib.hid (M2.out.below h9); have R9 := Lib.hid (own_reads o9 HPL.out (own_lt o9)); clear o9 h9))
            go_loopw [13] (fun p wr => ∃ k : Nat, k ≤ pn ∧ p = .int .i64 k ∧ Hid (Below w5.heap.size w5 wr)) (fun p _ => pn - (intOf p).toNat)
            case atStart => exact ⟨0, Nat.zero_le _, rfl, Lib.hid (Below.refl _ _)⟩
            case round =>
              obtain ⟨k, hk3, rfl, HB3⟩ := hrel
              obtain ⟨wr3, rfl⟩ : ∃ x, x = wr := ⟨_, rfl⟩
              by_cases hkl : k < pn
              · obtain ⟨gp, rfl, hgp, hcp⟩ := R11.out (by rw [HPL.out]; omega)
                obtain ⟨⟨t, n⟩, hp0⟩ : ∃ y, P[k]? = some y := ⟨P[k]'(by rw [HPL.out]; exact hkl), List.getElem?_eq_getElem _⟩
                obtain ⟨e0, e1⟩ := hcp k _ hp0
                have hhas := HHASA.out _ (List.mem_of_getElem? hp0)
                dsimp only at e0 e1 hhas
                have HHAS := Lib.hid hhas
                have HTS : Hid (t.size ≤ maxLen) := Lib.hid (HPS.out _ (List.mem_of_getElem? hp0))
                have d0 := (HB3.out.cell (p := ⟨gp, k * 2, none⟩) hgp).trans e0
                have d1 := (HB3.out.cell (p := ⟨gp, k * 2 + 1, none⟩) hgp).trans e1
                have HMr := Lib.hid (M5.out.below HB3.out)
                have k0 : (0 : Int) ≤ (k : Int) := by omega
                have kl : (k : Int) < (pn : Int) := by omega
                clear e0 e1 hhas
                go_upto_region 21 with fail
                by_cases kz : k = 0
                · have gz : decide ((0 : Int) < (k : Int)) = false := decide_eq_false (by omega)
                  have gz2 : decide (0 < k) = false := decide_eq_false (by omega)
                  have hS := And.intro (And.intro d0 d1) HB3.out
                  clear hcp hk3 hp0 kz
                  refine wp_region_held_drew (S := (fun w' => (w'.cell? ⟨gp, k * 2, none⟩ = some (.string t) ∧ w'.cell? ⟨gp, k * 2 + 1, none⟩ = some (.int .i64 n)) ∧ Below w5.heap.size w5 w')) (by kernel_rfl) (keep2n hS (drewB9 _)) (fun hHeld => ?_)
                  refine wpAnyH_take (i := 0) (oi := ?o1001) (v := ?v1001) ?a1001 (by kernel_rfl) (by kernel_rfl) (by kernel_rfl) ?q1001 (Or.inl ⟨?g1001, ?y1001⟩) (by assumption) ?r1001; (case' a1001 => (simp only [List.getElem?_toArray, List.getElem?_cons_zero]; rfl)); (case' q1001 => (exact fun _ _ _ h => h)); (case' g1001 => rfl); (case' y1001 => (intro w hSw; (try dsimp only at hSw); go_simp; try with_reducible rfl)); (case' r1001 => (try simp only [Act.put, List.setIfInBounds_toArray, List.set_cons_zero, List.set_cons_succ]))
                  refine wpAnyH_take (i := 1) (oi := ?o1002) (v := ?v1002) ?a1002 (by kernel_rfl) (by kernel_rfl) (by kernel_rfl) ?q1002 (Or.inl ⟨?g1002, ?y1002⟩) (by assumption) ?r1002; (case' a1002 => (simp only [List.getElem?_toArray, List.getElem?_cons_zero, List.getElem?_cons_succ]; rfl)); (case' q1002 => (exact fun _ _ _ h => h)); (case' g1002 => rfl); (case' y1002 => (intro w hSw; (try dsimp only at hSw); go_simp; try with_reducible rfl)); (case' r1002 => (try simp only [Act.put, List.setIfInBounds_toArray, List.set_cons_zero, List.set_cons_succ]))
                  refine wpAnyH_take (i := 2) (oi := ?o1003) (v := ?v1003) ?a1003 (by kernel_rfl) (by kernel_rfl) (by kernel_rfl) ?q1003 (Or.inl ⟨?g1003, ?y1003⟩) (by assumption) ?r1003; (case' a1003 => (simp only [List.getElem?_toArray, List.getElem?_cons_zero, List.getElem?_cons_succ]; rfl)); (case' q1003 => (exact fun _ _ _ h => h)); (case' g1003 => rfl); (case' y1003 => (intro w hSw; (try dsimp only at hSw); go_simp; try with_reducible rfl)); (case' r1003 => (try simp only [Act.put, List.setIfInBounds_toArray, List.set_cons_zero, List.set_cons_succ]))
                  refine wpAnyH_take (i := 3) (oi := ?o1004) (v := ?v1004) ?a1004 (by kernel_rfl) (by kernel_rfl) (by kernel_rfl) ?q1004 (Or.inl ⟨?g1004, ?y1004⟩) (by assumption) ?r1004; (case' a1004 => (simp only [List.getElem?_toArray, List.getElem?_cons_zero, List.getElem?_cons_succ]; rfl)); (case' q1004 => (exact fun _ _ _ h => h)); (case' g1004 => rfl); (case' y1004 => (intro w hSw; (try dsimp only at hSw); go_simp; try with_reducible rfl)); (case' r1004 => (try simp only [Act.put, List.setIfInBounds_toArray, List.set_cons_zero, List.set_cons_succ]))
                  refine wpAnyH_take (i := 4) (oi := ?o1005) (v := ?v1005) ?a1005 (by kernel_rfl) (by kernel_rfl) (by kernel_rfl) ?q1005 (Or.inl ⟨?g1005, ?y1005⟩) (by assumption) ?r1005; (case' a1005 => (simp only [List.getElem?_toArray, List.getElem?_cons_zero, List.getElem?_cons_succ]; rfl)); (case' q1005 => (exact fun _ _ _ h => h)); (case' g1005 => rfl); (case' y1005 => (intro w hSw; (try dsimp only at hSw); go_simp; try with_reducible rfl)); (case' r1005 => (try simp only [Act.put, List.setIfInBounds_toArray, List.set_cons_zero, List.set_cons_succ]))
                  refine wpAnyH_ready (rs := [5]) (by kernel_rfl) (by simp) ?_
                  refine AllReadyH.cons (o := ?o1006) ?a1006 (fun K hK => ?s1006) ?m1006; (case' a1006 => (simp only [List.getElem?_toArray, List.getElem?_cons_zero, List.getElem?_cons_succ]; rfl))
                  case s1006 =>
                    go_simp
                    go_at_call 21
                    refine (m9_has t n true (Lib.hid (HMr.out.below (drewB9 _))) HTS.out HHAS).mono ?_
                    rintro e wn ⟨rfl, hbn⟩
                    go_wp2_with fail
                    refine hK.out _ _ (keep2n hHeld hbn) (fun hHeld => ?_)
                    clear hK K
                    (try simp only [Act.put, List.setIfInBounds_toArray, List.set_cons_zero, List.set_cons_succ])
                    refine wpAnyH_take (i := 6) (oi := ?o1007) (v := ?v1007) ?a1007 (by kernel_rfl) (by kernel_rfl) (by kernel_rfl) ?q1007 (Or.inl ⟨?g1007, ?y1007⟩) (by assumption) ?r1007; (case' a1007 => (simp only [List.getElem?_toArray, List.getElem?_cons_zero, List.getElem?_cons_succ]; rfl)); (case' q1007 => (exact fun _ _ _ h => h)); (case' g1007 => rfl); (case' y1007 => (intro w hSw; (try dsimp only at hSw); go_simp; try with_reducible rfl)); (case' r1007 => (try simp only [Act.put, List.setIfInBounds_toArray, List.set_cons_zero, List.set_cons_succ]))
                    refine wpAnyH_take (i := 7) (oi := ?o1008) (v := ?v1008) ?a1008 (by kernel_rfl) (by kernel_rfl) (by kernel_rfl) ?q1008 (Or.inl ⟨?g1008, ?y1008⟩) (by assumption) ?r1008; (case' a1008 => (simp only [List.getElem?_toArray, List.getElem?_cons_zero, List.getElem?_cons_succ]; rfl)); (case' q1008 => (exact fun _ _ _ h => h)); (case' g1008 => rfl); (case' y1008 => (intro w hSw; (try dsimp only at hSw); go_simp; try with_reducible rfl)); (case' r1008 => (try simp only [Act.put, List.setIfInBounds_toArray, List.set_cons_zero, List.set_cons_succ]))
                    refine wpAnyH_take (i := 8) (oi := ?o1009) (v := ?v1009) ?a1009 (by kernel_rfl) (by kernel_rfl) (by kernel_rfl) ?q1009 (Or.inl ⟨?g1009, ?y1009⟩) (by assumption) ?r1009; (case' a1009 => (simp only [List.getElem?_toArray, List.getElem?_cons_zero, List.getElem?_cons_succ]; rfl)); (case' q1009 => (exact fun _ _ _ h => h)); (case' g1009 => rfl); (case' y1009 => (intro w hSw; (try dsimp only at hSw); go_simp; try with_reducible rfl)); (case' r1009 => (try simp only [Act.put, List.setIfInBounds_toArray, List.set_cons_zero, List.set_cons_succ]))
                    refine wpAnyH_take (i := 9) (oi := ?o1010) (v := ?v1010) ?a1010 (by kernel_rfl) (by kernel_rfl) (by kernel_rfl) ?q1010 (Or.inl ⟨?g1010, ?y1010⟩) (by assumption) ?r1010; (case' a1010 => (simp only [List.getElem?_toArray, List.getElem?_cons_zero, List.getElem?_cons_succ]; rfl)); (case' q1010 => (exact fun _ _ _ h => h)); (case' g1010 => rfl); (case' y1010 => (intro w hSw; (try dsimp only at hSw); go_simp; try with_reducible rfl)); (case' r1010 => (try simp only [Act.put, List.setIfInBounds_toArray, List.set_cons_zero, List.set_cons_succ]))
                    refine wpAnyH_take (i := 10) (oi := ?o1011) (v := ?v1011) ?a1011 (by kernel_rfl) (by kernel_rfl) (by kernel_rfl) ?q1011 (Or.inl ⟨?g1011, ?y1011⟩) (by assumption) ?r1011; (case' a1011 => (simp only [List.getElem?_toArray, List.getElem?_cons_zero, List.getElem?_cons_succ]; rfl)); (case' q1011 => (exact fun _ _ _ h => h)); (case' g1011 => rfl); (case' y1011 => (intro w hSw; (try dsimp only at hSw); go_simp; try with_reducible rfl)); (case' r1011 => (try simp only [Act.put, List.setIfInBounds_toArray, List.set_cons_zero, List.set_cons_succ]))
                    refine wpAnyH_take (i := 11) (oi := ?o1012) (v := undef) ?a1012 (by kernel_rfl) (by kernel_rfl) (by kernel_rfl) ?q1012 (Or.inr ⟨?g1012, rfl⟩) (by assumption) ?r1012; (case' a1012 => (simp only [List.getElem?_toArray, List.getElem?_cons_zero, List.getElem?_cons_succ]; rfl)); (case' q1012 => (exact fun _ _ _ h => h)); (case' g1012 => rfl); (case' r1012 => (try simp only [Act.put, List.setIfInBounds_toArray, List.set_cons_zero, List.set_cons_succ]))
                    refine wpAnyH_take (i := 12) (oi := ?o1013) (v := undef) ?a1013 (by kernel_rfl) (by kernel_rfl) (by kernel_rfl) ?q1013 (Or.inr ⟨?g1013, rfl⟩) (by assumption) ?r1013; (case' a1013 => (simp only [List.getElem?_toArray, List.getElem?_cons_zero, List.getElem?_cons_succ]; rfl)); (case' q1013 => (exact fun _ _ _ h => h)); (case' g1013 => rfl); (case' r1013 => (try simp only [Act.put, List.setIfInBounds_toArray, List.set_cons_zero, List.set_cons_succ]))
                    refine wpAnyH_take (i := 13) (oi := ?o1014) (v := undef) ?a1014 (by kernel_rfl) (by kernel_rfl) (by kernel_rfl) ?q1014 (Or.inr ⟨?g1014, rfl⟩) (by assumption) ?r1014; (case' a1014 => (simp only [List.getElem?_toArray, List.getElem?_cons_zero, List.getElem?_cons_succ]; rfl)); (case' q1014 => (exact fun _ _ _ h => h)); (case' g1014 => rfl); (case' r1014 => (try simp only [Act.put, List.setIfInBounds_toArray, List.set_cons_zero, List.set_cons_succ]))
                    refine wpAnyH_take (i := 14) (oi := ?o1015) (v := undef) ?a1015 (by kernel_rfl) (by kernel_rfl) (by kernel_rfl) ?q1015 (Or.inr ⟨?g1015, rfl⟩) (by assumption) ?r1015; (case' a1015 => (simp only [List.getElem?_toArray, List.getElem?_cons_zero, List.getElem?_cons_succ]; rfl)); (case' q1015 => (exact fun _ _ _ h => h)); (case' g1015 => rfl); (case' r1015 => (try simp only [Act.put, List.setIfInBounds_toArray, List.set_cons_zero, List.set_cons_succ]))
                    refine wpAnyH_take (i := 15) (oi := ?o1016) (v := undef) ?a1016 (by kernel_rfl) (by kernel_rfl) (by kernel_rfl) ?q1016 (Or.inr ⟨?g1016, rfl⟩) (by assumption) ?r1016; (case' a1016 => (simp only [List.getElem?_toArray, List.getElem?_cons_zero, List.getElem?_cons_succ]; rfl)); (case' q1016 => (exact fun _ _ _ h => h)); (case' g1016 => rfl); (case' r1016 => (try simp only [Act.put, List.setIfInBounds_toArray, List.set_cons_zero, List.set_cons_succ]))
                    refine wpAnyH_take (i := 16) (oi := ?o1017) (v := undef) ?a1017 (by kernel_rfl) (by kernel_rfl) (by kernel_rfl) ?q1017 (Or.inr ⟨?g1017, rfl⟩) (by assumption) ?r1017; (case' a1017 => (simp only [List.getElem?_toArray, List.getElem?_cons_zero, List.getElem?_cons_succ]; rfl)); (case' q1017 => (exact fun _ _ _ h => h)); (case' g1017 => rfl); (case' r1017 => (try simp only [Act.put, List.setIfInBounds_toArray, List.set_cons_zero, List.set_cons_succ]))
                    refine wpAnyH_take (i := 17) (oi := ?o1018) (v := undef) ?a1018 (by kernel_rfl) (by kernel_rfl) (by kernel_rfl) ?q1018 (Or.inr ⟨?g1018, rfl⟩) (by assumption) ?r1018; (case' a1018 => (simp only [List.getElem?_toArray, List.getElem?_cons_zero, List.getElem?_cons_succ]; rfl)); (case' q1018 => (exact fun _ _ _ h => h)); (case' g1018 => rfl); (case' r1018 => (try simp only [Act.put, List.setIfInBounds_toArray, List.set_cons_zero, List.set_cons_succ]))
                    refine wpAnyH_take (i := 18) (oi := ?o1019) (v := undef) ?a1019 (by kernel_rfl) (by kernel_rfl) (by kernel_rfl) ?q1019 (Or.inr ⟨?g1019, rfl⟩) (by assumption) ?r1019; (case' a1019 => (simp only [List.getElem?_toArray, List.getElem?_cons_zero, List.getElem?_cons_succ]; rfl)); (case' q1019 => (exact fun _ _ _ h => h)); (case' g1019 => rfl); (case' r1019 => (try simp only [Act.put, List.setIfInBounds_toArray, List.set_cons_zero, List.set_cons_succ]))
                    refine wpAnyH_take (i := 19) (oi := ?o1020) (v := undef) ?a1020 (by kernel_rfl) (by kernel_rfl) (by kernel_rfl) ?q1020 (Or.inr ⟨?g1020, rfl⟩) (by assumption) ?r1020; (case' a1020 => (simp only [List.getElem?_toArray, List.getElem?_cons_zero, List.getElem?_cons_succ]; rfl)); (case' q1020 => (exact fun _ _ _ h => h)); (case' g1020 => rfl); (case' r1020 => (try simp only [Act.put, List.setIfInBounds_toArray, List.set_cons_zero, List.set_cons_succ]))
                    refine wpAnyH_take (i := 20) (oi := ?o1021) (v := undef) ?a1021 (by kernel_rfl) (by kernel_rfl) (by kernel_rfl) ?q1021 (Or.inr ⟨?g1021, rfl⟩) (by assumption) ?r1021; (case' a1021 => (simp only [List.getElem?_toArray, List.getElem?_cons_zero, List.getElem?_cons_succ]; rfl)); (case' q1021 => (exact fun _ _ _ h => h)); (case' g1021 => rfl); (case' r1021 => (try simp only [Act.put, List.setIfInBounds_toArray, List.set_cons_zero, List.set_cons_succ]))
                    refine wpAnyH_take (i := 21) (oi := ?o1022) (v := undef) ?a1022 (by kernel_rfl) (by kernel_rfl) (by kernel_rfl) ?q1022 (Or.inr ⟨?g1022, rfl⟩) (by assumption) ?r1022; (case' a1022 => (simp only [List.getElem?_toArray, List.getElem?_cons_zero, List.getElem?_cons_succ]; rfl)); (case' q1022 => (exact fun _ _ _ h => h)); (case' g1022 => rfl); (case' r1022 => (try simp only [Act.put, List.setIfInBounds_toArray, List.set_cons_zero, List.set_cons_succ]))
                    refine wpAnyH_take (i := 22) (oi := ?o1023) (v := undef) ?a1023 (by kernel_rfl) (by kernel_rfl) (by kernel_rfl) ?q1023 (Or.inr ⟨?g1023, rfl⟩) (by assumption) ?r1023; (case' a1023 => (simp only [List.getElem?_toArray, List.getElem?_cons_zero, List.getElem?_cons_succ]; rfl)); (case' q1023 => (exact fun _ _ _ h => h)); (case' g1023 => rfl); (case' r1023 => (try simp only [Act.put, List.setIfInBounds_toArray, List.set_cons_zero, List.set_cons_succ]))
                    refine wpAnyH_take (i := 23) (oi := ?o1024) (v := undef) ?a1024 (by kernel_rfl) (by kernel_rfl) (by kernel_rfl) ?q1024 (Or.inr ⟨?g1024, rfl⟩) (by assumption) ?r1024; (case' a1024 => (simp only [List.getElem?_toArray, List.getElem?_cons_zero, List.getElem?_cons_succ]; rfl)); (case' q1024 => (exact fun _ _ _ h => h)); (case' g1024 => rfl); (case' r1024 => (try simp only [Act.put, List.setIfInBounds_toArray, List.set_cons_zero, List.set_cons_succ]))
                    refine wpAnyH_take (i := 24) (oi := ?o1025) (v := ?v1025) ?a1025 (by kernel_rfl) (by kernel_rfl) (by kernel_rfl) ?q1025 (Or.inl ⟨?g1025, ?y1025⟩) (by assumption) ?r1025; (case' a1025 => (simp only [List.getElem?_toArray, List.getElem?_cons_zero, List.getElem?_cons_succ]; rfl)); (case' q1025 => (exact fun _ _ _ h => h)); (case' g1025 => rfl); (case' y1025 => (intro w hSw; (try dsimp only at hSw); go_simp; try with_reducible rfl)); (case' r1025 => (try simp only [Act.put, List.setIfInBounds_toArray, List.set_cons_zero, List.set_cons_succ]))
                    refine wpAnyH_take (i := 25) (oi := ?o1026) (v := ?v1026) ?a1026 (by kernel_rfl) (by kernel_rfl) (by kernel_rfl) ?q1026 (Or.inl ⟨?g1026, ?y1026⟩) (by assumption) ?r1026; (case' a1026 => (simp only [List.getElem?_toArray, List.getElem?_cons_zero, List.getElem?_cons_succ]; rfl)); (case' q1026 => (exact fun _ _ _ h => h)); (case' g1026 => rfl); (case' y1026 => (intro w hSw; (try dsimp only at hSw); go_simp; try with_reducible rfl)); (case' r1026 => (try simp only [Act.put, List.setIfInBounds_toArray, List.set_cons_zero, List.set_cons_succ]))
                    refine wpAnyH_take (i := 26) (oi := ?o1027) (v := undef) ?a1027 (by kernel_rfl) (by kernel_rfl) (by kernel_rfl) ?q1027 (Or.inr ⟨?g1027, rfl⟩) (by assumption) ?r1027; (case' a1027 => (simp only [List.getElem?_toArray, List.getElem?_cons_zero, List.getElem?_cons_succ]; rfl)); (case' q1027 => (exact fun _ _ _ h => h)); (case' g1027 => rfl); (case' r1027 => (try simp only [Act.put, List.setIfInBounds_toArray, List.set_cons_zero, List.set_cons_succ]))
                    refine wpAnyH_take (i := 27) (oi := ?o1028) (v := undef) ?a1028 (by kernel_rfl) (by kernel_rfl) (by kernel_rfl) ?q1028 (Or.inr ⟨?g1028, rfl⟩) (by assumption) ?r1028; (case' a1028 => (simp only [List.getElem?_toArray, List.getElem?_cons_zero, List.getElem?_cons_succ]; rfl)); (case' q1028 => (exact fun _ _ _ h => h)); (case' g1028 => rfl); (case' r1028 => (try simp only [Act.put, List.setIfInBounds_toArray, List.set_cons_zero, List.set_cons_succ]))
                    refine wpAnyH_take (i := 28) (oi := ?o1029) (v := undef) ?a1029 (by kernel_rfl) (by kernel_rfl) (by kernel_rfl) ?q1029 (Or.inr ⟨?g1029, rfl⟩) (by assumption) ?r1029; (case' a1029 => (simp only [List.getElem?_toArray, List.getElem?_cons_zero, List.getElem?_cons_succ]; rfl)); (case' q1029 => (exact fun _ _ _ h => h)); (case' g1029 => rfl); (case' r1029 => (try simp only [Act.put, List.setIfInBounds_toArray, List.set_cons_zero, List.set_cons_succ]))
                    refine wpAnyH_take (i := 29) (oi := ?o1030) (v := undef) ?a1030 (by kernel_rfl) (by kernel_rfl) (by kernel_rfl) ?q1030 (Or.inr ⟨?g1030, rfl⟩) (by assumption) ?r1030; (case' a1030 => (simp only [List.getElem?_toArray, List.getElem?_cons_zero, List.getElem?_cons_succ]; rfl)); (case' q1030 => (exact fun _ _ _ h => h)); (case' g1030 => rfl); (case' r1030 => (try simp only [Act.put, List.setIfInBounds_toArray, List.set_cons_zero, List.set_cons_succ]))
                    refine wpAnyH_take (i := 30) (oi := ?o1031) (v := undef) ?a1031 (by kernel_rfl) (by kernel_rfl) (by kernel_rfl) ?q1031 (Or.inr ⟨?g1031, rfl⟩) (by assumption) ?r1031; (case' a1031 => (simp only [List.getElem?_toArray, List.getElem?_cons_zero, List.getElem?_cons_succ]; rfl)); (case' q1031 => (exact fun _ _ _ h => h)); (case' g1031 => rfl); (case' r1031 => (try simp only [Act.put, List.setIfInBounds_toArray, List.set_cons_zero, List.set_cons_succ]))
                    refine wpAnyH_take (i := 31) (oi := ?o1032) (v := undef) ?a1032 (by kernel_rfl) (by kernel_rfl) (by kernel_rfl) ?q1032 (Or.inr ⟨?g1032, rfl⟩) (by assumption) ?r1032; (case' a1032 => (simp only [List.getElem?_toArray, List.getElem?_cons_zero, List.getElem?_cons_succ]; rfl)); (case' q1032 => (exact fun _ _ _ h => h)); (case' g1032 => rfl); (case' r1032 => (try simp only [Act.put, List.setIfInBounds_toArray, List.set_cons_zero, List.set_cons_succ]))
                    refine wpAnyH_take (i := 32) (oi := ?o1033) (v := undef) ?a1033 (by kernel_rfl) (by kernel_rfl) (by kernel_rfl) ?q1033 (Or.inr ⟨?g1033, rfl⟩) (by assumption) ?r1033; (case' a1033 => (simp only [List.getElem?_toArray, List.getElem?_cons_zero, List.getElem?_cons_succ]; rfl)); (case' q1033 => (exact fun _ _ _ h => h)); (case' g1033 => rfl); (case' r1033 => (try simp only [Act.put, List.setIfInBounds_toArray, List.set_cons_zero, List.set_cons_succ]))
                    refine wpAnyH_take (i := 33) (oi := ?o1034) (v := undef) ?a1034 (by kernel_rfl) (by kernel_rfl) (by kernel_rfl) ?q1034 (Or.inr ⟨?g1034, rfl⟩) (by assumption) ?r1034; (case' a1034 => (simp only [List.getElem?_toArray, List.getElem?_cons_zero, List.getElem?_cons_succ]; rfl)); (case' q1034 => (exact fun _ _ _ h => h)); (case' g1034 => rfl); (case' r1034 => (try simp only [Act.put, List.setIfInBounds_toArray, List.set_cons_zero, List.set_cons_succ]))
                    refine wpAnyH_take (i := 34) (oi := ?o1035) (v := undef) ?a1035 (by kernel_rfl) (by kernel_rfl) (by kernel_rfl) ?q1035 (Or.inr ⟨?g1035, rfl⟩) (by assumption) ?r1035; (case' a1035 => (simp only [List.getElem?_toArray, List.getElem?_cons_zero, List.getElem?_cons_succ]; rfl)); (case' q1035 => (exact fun _ _ _ h => h)); (case' g1035 => rfl); (case' r1035 => (try simp only [Act.put, List.setIfInBounds_toArray, List.set_cons_zero, List.set_cons_succ]))
                    refine wpAnyH_take (i := 35) (oi := ?o1036) (v := undef) ?a1036 (by kernel_rfl) (by kernel_rfl) (by kernel_rfl) ?q1036 (Or.inr ⟨?g1036, rfl⟩) (by assumption) ?r1036; (case' a1036 => (simp only [List.getElem?_toArray, List.getElem?_cons_zero, List.getElem?_cons_succ]; rfl)); (case' q1036 => (exact fun _ _ _ h => h)); (case' g1036 => rfl); (case' r1036 => (try simp only [Act.put, List.setIfInBounds_toArray, List.set_cons_zero, List.set_cons_succ]))
                    refine wpAnyH_take (i := 36) (oi := ?o1037) (v := undef) ?a1037 (by kernel_rfl) (by kernel_rfl) (by kernel_rfl) ?q1037 (Or.inr ⟨?g1037, rfl⟩) (by assumption) ?r1037; (case' a1037 => (simp only [List.getElem?_toArray, List.getElem?_cons_zero, List.getElem?_cons_succ]; rfl)); (case' q1037 => (exact fun _ _ _ h => h)); (case' g1037 => rfl); (case' r1037 => (try simp only [Act.put, List.setIfInBounds_toArray, List.set_cons_zero, List.set_cons_succ]))
                    refine wpAnyH_take (i := 37) (oi := ?o1038) (v := undef) ?a1038 (by kernel_rfl) (by kernel_rfl) (by kernel_rfl) ?q1038 (Or.inr ⟨?g1038, rfl⟩) (by assumption) ?r1038; (case' a1038 => (simp only [List.getElem?_toArray, List.getElem?_cons_zero, List.getElem?_cons_succ]; rfl)); (case' q1038 => (exact fun _ _ _ h => h)); (case' g1038 => rfl); (case' r1038 => (try simp only [Act.put, List.setIfInBounds_toArray, List.set_cons_zero, List.set_cons_succ]))
                    refine wpAnyH_take (i := 38) (oi := ?o1039) (v := undef) ?a1039 (by kernel_rfl) (by kernel_rfl) (by kernel_rfl) ?q1039 (Or.inr ⟨?g1039, rfl⟩) (by assumption) ?r1039; (case' a1039 => (simp only [List.getElem?_toArray, List.getElem?_cons_zero, List.getElem?_cons_succ]; rfl)); (case' q1039 => (exact fun _ _ _ h => h)); (case' g1039 => rfl); (case' r1039 => (try simp only [Act.put, List.setIfInBounds_toArray, List.set_cons_zero, List.set_cons_succ]))
                    refine wpAnyH_take (i := 39) (oi := ?o1040) (v := undef) ?a1040 (by kernel_rfl) (by kernel_rfl) (by kernel_rfl) ?q1040 (Or.inr ⟨?g1040, rfl⟩) (by assumption) ?r1040; (case' a1040 => (simp only [List.getElem?_toArray, List.getElem?_cons_zero, List.getElem?_cons_succ]; rfl)); (case' q1040 => (exact fun _ _ _ h => h)); (case' g1040 => rfl); (case' r1040 => (try simp only [Act.put, List.setIfInBounds_toArray, List.set_cons_zero, List.set_cons_succ]))
                    refine wpAnyH_take (i := 40) (oi := ?o1041) (v := undef) ?a1041 (by kernel_rfl) (by kernel_rfl) (by kernel_rfl) ?q1041 (Or.inr ⟨?g1041, rfl⟩) (by assumption) ?r1041; (case' a1041 => (simp only [List.getElem?_toArray, List.getElem?_cons_zero, List.getElem?_cons_succ]; rfl)); (case' q1041 => (exact fun _ _ _ h => h)); (case' g1041 => rfl); (case' r1041 => (try simp only [Act.put, List.setIfInBounds_toArray, List.set_cons_zero, List.set_cons_succ]))
                    refine wpAnyH_take (i := 41) (oi := ?o1042) (v := undef) ?a1042 (by kernel_rfl) (by kernel_rfl) (by kernel_rfl) ?q1042 (Or.inr ⟨?g1042, rfl⟩) (by assumption) ?r1042; (case' a1042 => (simp only [List.getElem?_toArray, List.getElem?_cons_zero, List.getElem?_cons_succ]; rfl)); (case' q1042 => (exact fun _ _ _ h => h)); (case' g1042 => rfl); (case' r1042 => (try simp only [Act.put, List.setIfInBounds_toArray, List.set_cons_zero, List.set_cons_succ]))
                    refine wpAnyH_take (i := 42) (oi := ?o1043) (v := undef) ?a1043 (by kernel_rfl) (by kernel_rfl) (by kernel_rfl) ?q1043 (Or.inr ⟨?g1043, rfl⟩) (by assumption) ?r1043; (case' a1043 => (simp only [List.getElem?_toArray, List.getElem?_cons_zero, List.getElem?_cons_succ]; rfl)); (case' q1043 => (exact fun _ _ _ h => h)); (case' g1043 => rfl); (case' r1043 => (try simp only [Act.put, List.setIfInBounds_toArray, List.set_cons_zero, List.set_cons_succ]))
                    refine wpAnyH_take (i := 43) (oi := ?o1044) (v := undef) ?a1044 (by kernel_rfl) (by kernel_rfl) (by kernel_rfl) ?q1044 (Or.inr ⟨?g1044, rfl⟩) (by assumption) ?r1044; (case' a1044 => (simp only [List.getElem?_toArray, List.getElem?_cons_zero, List.getElem?_cons_succ]; rfl)); (case' q1044 => (exact fun _ _ _ h => h)); (case' g1044 => rfl); (case' r1044 => (try simp only [Act.put, List.setIfInBounds_toArray, List.set_cons_zero, List.set_cons_succ]))
                    refine wpAnyH_take (i := 44) (oi := ?o1045) (v := undef) ?a1045 (by kernel_rfl) (by kernel_rfl) (by kernel_rfl) ?q1045 (Or.inr ⟨?g1045, rfl⟩) (by assumption) ?r1045; (case' a1045 => (simp only [List.getElem?_toArray, List.getElem?_cons_zero, List.getElem?_cons_succ]; rfl)); (case' q1045 => (exact fun _ _ _ h => h)); (case' g1045 => rfl); (case' r1045 => (try simp only [Act.put, List.setIfInBounds_toArray, List.set_cons_zero, List.set_cons_succ]))
                    refine wpAnyH_take (i := 45) (oi := ?o1046) (v := undef) ?a1046 (by kernel_rfl) (by kernel_rfl) (by kernel_rfl) ?q1046 (Or.inr ⟨?g1046, rfl⟩) (by assumption) ?r1046; (case' a1046 => (simp only [List.getElem?_toArray, List.getElem?_cons_zero, List.getElem?_cons_succ]; rfl)); (case' q1046 => (exact fun _ _ _ h => h)); (case' g1046 => rfl); (case' r1046 => (try simp only [Act.put, List.setIfInBounds_toArray, List.set_cons_zero, List.set_cons_succ]))
                    refine wpAnyH_take (i := 46) (oi := ?o1047) (v := undef) ?a1047 (by kernel_rfl) (by kernel_rfl) (by kernel_rfl) ?q1047 (Or.inr ⟨?g1047, rfl⟩) (by assumption) ?r1047; (case' a1047 => (simp only [List.getElem?_toArray, List.getElem?_cons_zero, List.getElem?_cons_succ]; rfl)); (case' q1047 => (exact fun _ _ _ h => h)); (case' g1047 => rfl); (case' r1047 => (try simp only [Act.put, List.setIfInBounds_toArray, List.set_cons_zero, List.set_cons_succ]))
                    refine wpAnyH_take (i := 47) (oi := ?o1048) (v := undef) ?a1048 (by kernel_rfl) (by kernel_rfl) (by kernel_rfl) ?q1048 (Or.inr ⟨?g1048, rfl⟩) (by assumption) ?r1048; (case' a1048 => (simp only [List.getElem?_toArray, List.getElem?_cons_zero, List.getElem?_cons_succ]; rfl)); (case' q1048 => (exact fun _ _ _ h => h)); (case' g1048 => rfl); (case' r1048 => (try simp only [Act.put, List.setIfInBounds_toArray, List.set_cons_zero, List.set_cons_succ]))
                    refine wpAnyH_take (i := 48) (oi := ?o1049) (v := undef) ?a1049 (by kernel_rfl) (by kernel_rfl) (by kernel_rfl) ?q1049 (Or.inr ⟨?g1049, rfl⟩) (by assumption) ?r1049; (case' a1049 => (simp only [List.getElem?_toArray, List.getElem?_cons_zero, List.getElem?_cons_succ]; rfl)); (case' q1049 => (exact fun _ _ _ h => h)); (case' g1049 => rfl); (case' r1049 => (try simp only [Act.put, List.setIfInBounds_toArray, List.set_cons_zero, List.set_cons_succ]))
                    refine wpAnyH_take (i := 49) (oi := ?o1050) (v := undef) ?a1050 (by kernel_rfl) (by kernel_rfl) (by kernel_rfl) ?q1050 (Or.inr ⟨?g1050, rfl⟩) (by assumption) ?r1050; (case' a1050 => (simp only [List.getElem?_toArray, List.getElem?_cons_zero, List.getElem?_cons_succ]; rfl)); (case' q1050 => (exact fun _ _ _ h => h)); (case' g1050 => rfl); (case' r1050 => (try simp only [Act.put, List.setIfInBounds_toArray, List.set_cons_zero, List.set_cons_succ]))
                    refine wpAnyH_take (i := 50) (oi := ?o1051) (v := undef) ?a1051 (by kernel_rfl) (by kernel_rfl) (by kernel_rfl) ?q1051 (Or.inr ⟨?g1051, rfl⟩) (by assumption) ?r1051; (case' a1051 => (simp only [List.getElem?_toArray, List.getElem?_cons_zero, List.getElem?_cons_succ]; rfl)); (case' q1051 => (exact fun _ _ _ h => h)); (case' g1051 => rfl); (case' r1051 => (try simp only [Act.put, List.setIfInBounds_toArray, List.set_cons_zero, List.set_cons_succ]))
                    refine wpAnyH_take (i := 51) (oi := ?o1052) (v := undef) ?a1052 (by kernel_rfl) (by kernel_rfl) (by kernel_rfl) ?q1052 (Or.inr ⟨?g1052, rfl⟩) (by assumption) ?r1052; (case' a1052 => (simp only [List.getElem?_toArray, List.getElem?_cons_zero, List.getElem?_cons_succ]; rfl)); (case' q1052 => (exact fun _ _ _ h => h)); (case' g1052 => rfl); (case' r1052 => (try simp only [Act.put, List.setIfInBounds_toArray, List.set_cons_zero, List.set_cons_succ]))
                    refine wpAnyH_take (i := 52) (oi := ?o1053) (v := undef) ?a1053 (by kernel_rfl) (by kernel_rfl) (by kernel_rfl) ?q1053 (Or.inr ⟨?g1053, rfl⟩) (by assumption) ?r1053; (case' a1053 => (simp only [List.getElem?_toArray, List.getElem?_cons_zero, List.getElem?_cons_succ]; rfl)); (case' q1053 => (exact fun _ _ _ h => h)); (case' g1053 => rfl); (case' r1053 => (try simp only [Act.put, List.setIfInBounds_toArray, List.set_cons_zero, List.set_cons_succ]))
                    refine wpAnyH_take (i := 53) (oi := ?o1054) (v := ?v1054) ?a1054 (by kernel_rfl) (by kernel_rfl) (by kernel_rfl) ?q1054 (Or.inl ⟨?g1054, ?y1054⟩) (by assumption) ?r1054; (case' a1054 => (simp only [List.getElem?_toArray, List.getElem?_cons_zero, List.getElem?_cons_succ]; rfl)); (case' q1054 => (exact fun _ _ _ h => h)); (case' g1054 => rfl); (case' y1054 => (intro w hSw; (try dsimp only at hSw); go_simp; try with_reducible rfl)); (case' r1054 => (try simp only [Act.put, List.setIfInBounds_toArray, List.set_cons_zero, List.set_cons_succ]))
                    refine wpAnyH_take (i := 54) (oi := ?o1055) (v := ?v1055) ?a1055 (by kernel_rfl) (by kernel_rfl) (by kernel_rfl) ?q1055 (Or.inl ⟨?g1055, ?y1055⟩) (by assumption) ?r1055; (case' a1055 => (simp only [List.getElem?_toArray, List.getElem?_cons_zero, List.getElem?_cons_succ]; rfl)); (case' q1055 => (exact fun _ _ _ h => h)); (case' g1055 => rfl); (case' y1055 => (intro w hSw; (try dsimp only at hSw); go_simp; try with_reducible rfl)); (case' r1055 => (try simp only [Act.put, List.setIfInBounds_toArray, List.set_cons_zero, List.set_cons_succ]))
                    refine wpAnyH_done (by kernel_rfl) ?_ _
                    have HBN := Lib.hid hHeld.2
                    clear hHeld
                    go_wp2_with fail
                    go_roundw
                    case rel => exact ⟨k + 1, by omega, by go_num, HBN⟩
                    case measure => simp [intOf]; omega
                  exact AllReadyH.nil
                · obtain ⟨k1, hk1⟩ : ∃ k1, k1 + 1 = k := ⟨k - 1, by omega⟩
                  obtain ⟨⟨t1, n1⟩, hp1⟩ : ∃ y, P[k1]? = some y := ⟨P[k1]'(by rw [HPL.out]; omega), List.getElem?_eq_getElem _⟩
                  obtain ⟨c2, c3⟩ := hcp k1 _ hp1
                  have hb1 := HPB.out _ (List.mem_of_getElem? hp1)
                  dsimp only at c2 c3 hb1
                  have d2 := (HB3.out.cell (p := ⟨gp, k1 * 2, none⟩) hgp).trans c2
                  have d3 := (HB3.out.cell (p := ⟨gp, k1 * 2 + 1, none⟩) hgp).trans c3
                  have hS := And.intro (And.intro d0 (And.intro d1 (And.intro d2 d3))) HB3.out
                  have HT1 : Hid (t1.size ≤ maxLen) := Lib.hid (HPS.out _ (List.mem_of_getElem? hp1))
                  have hnext := HNEXT.out k1 _ _ hp1 (by rw [hk1]; exact hp0)
                  dsimp only at hnext
                  have e1 : (k : Int) - 1 = (k1 : Int) := by omega
                  have e2 : IntKind.i64.wrap ((k : Int) - 1) = (k1 : Int) := by rw [e1]; exact IntWalk.i64_in _ (by omega)
                  have g1 : (0 : Int) < (k : Int) := by omega
                  have g1' : 0 < k := by omega
                  have g2 : (0 : Int) ≤ (k1 : Int) := by omega
                  have g3 : (k1 : Int) < (pn : Int) := by omega
                  rcases hnext with hl | ⟨he, hn⟩
                  · have HLS := Lib.hid hl
                    clear hl hcp hp1 hk3 hp0 hk1 kz hb1 e1
                    refine wp_region_held_drew (S := (fun w' => (w'.cell? ⟨gp, k * 2, none⟩ = some (.string t) ∧ w'.cell? ⟨gp, k * 2 + 1, none⟩ = some (.int .i64 n) ∧ w'.cell? ⟨gp, k1 * 2, none⟩ = some (.string t1) ∧ w'.cell? ⟨gp, k1 * 2 + 1, none⟩ = some (.int .i64 n1)) ∧ Below w5.heap.size w5 w')) (by kernel_rfl) (keep4n hS (drewB9 _)) (fun hHeld => ?_)
                    refine wpAnyH_take (i := 0) (oi := ?o1056) (v := ?v1056) ?a1056 (by kernel_rfl) (by kernel_rfl) (by kernel_rfl) ?q1056 (Or.inl ⟨?g1056, ?y1056⟩) (by assumption) ?r1056; (case' a1056 => (simp only [List.getElem?_toArray, List.getElem?_cons_zero]; rfl)); (case' q1056 => (exact fun _ _ _ h => h)); (case' g1056 => rfl); (case' y1056 => (intro w hSw; (try dsimp only at hSw); go_simp; try with_reducible rfl)); (case' r1056 => (try simp only [Act.put, List.setIfInBounds_toArray, List.set_cons_zero, List.set_cons_succ]))
                    refine wpAnyH_take (i := 1) (oi := ?o1057) (v := ?v1057) ?a1057 (by kernel_rfl) (by kernel_rfl) (by kernel_rfl) ?q1057 (Or.inl ⟨?g1057, ?y1057⟩) (by assumption) ?r1057; (case' a1057 => (simp only [List.getElem?_toArray, List.getElem?_cons_zero, List.getElem?_cons_succ]; rfl)); (case' q1057 => (exact fun _ _ _ h => h)); (case' g1057 => rfl); (case' y1057 => (intro w hSw; (try dsimp only at hSw); go_simp; try with_reducible rfl)); (case' r1057 => (try simp only [Act.put, List.setIfInBounds_toArray, List.set_cons_zero, List.set_cons_succ]))
                    refine wpAnyH_take (i := 2) (oi := ?o1058) (v := ?v1058) ?a1058 (by kernel_rfl) (by kernel_rfl) (by kernel_rfl) ?q1058 (Or.inl ⟨?g1058, ?y1058⟩) (by assumption) ?r1058; (case' a1058 => (simp only [List.getElem?_toArray, List.getElem?_cons_zero, List.getElem?_cons_succ]; rfl)); (case' q1058 => (exact fun _ _ _ h => h)); (case' g1058 => rfl); (case' y1058 => (intro w hSw; (try dsimp only at hSw); go_simp; try with_reducible rfl)); (case' r1058 => (try simp only [Act.put, List.setIfInBounds_toArray, List.set_cons_zero, List.set_cons_succ]))
                    refine wpAnyH_take (i := 3) (oi := ?o1059) (v := ?v1059) ?a1059 (by kernel_rfl) (by kernel_rfl) (by kernel_rfl) ?q1059 (Or.inl ⟨?g1059, ?y1059⟩) (by assumption) ?r1059; (case' a1059 => (simp only [List.getElem?_toArray, List.getElem?_cons_zero, List.getElem?_cons_succ]; rfl)); (case' q1059 => (exact fun _ _ _ h => h)); (case' g1059 => rfl); (case' y1059 => (intro w hSw; (try dsimp only at hSw); go_simp; try with_reducible rfl)); (case' r1059 => (try simp only [Act.put, List.setIfInBounds_toArray, List.set_cons_zero, List.set_cons_succ]))
                    refine wpAnyH_take (i := 4) (oi := ?o1060) (v := ?v1060) ?a1060 (by kernel_rfl) (by kernel_rfl) (by kernel_rfl) ?q1060 (Or.inl ⟨?g1060, ?y1060⟩) (by assumption) ?r1060; (case' a1060 => (simp only [List.getElem?_toArray, List.getElem?_cons_zero, List.getElem?_cons_succ]; rfl)); (case' q1060 => (exact fun _ _ _ h => h)); (case' g1060 => rfl); (case' y1060 => (intro w hSw; (try dsimp only at hSw); go_simp; try with_reducible rfl)); (case' r1060 => (try simp only [Act.put, List.setIfInBounds_toArray, List.set_cons_zero, List.set_cons_succ]))
                    refine wpAnyH_ready (rs := [5]) (by kernel_rfl) (by simp) ?_
                    refine AllReadyH.cons (o := ?o1061) ?a1061 (fun K hK => ?s1061) ?m1061; (case' a1061 => (simp only [List.getElem?_toArray, List.getElem?_cons_zero, List.getElem?_cons_succ]; rfl))
                    case s1061 =>
                      go_simp
                      go_at_call 21
                      refine (m9_has t n true (Lib.hid (HMr.out.below (drewB9 _))) HTS.out HHAS).mono ?_
                      rintro e wn ⟨rfl, hbn⟩
                      go_wp2_with fail
                      refine hK.out _ _ (keep4n hHeld hbn) (fun hHeld => ?_)
                      clear hK K
                      (try simp only [Act.put, List.setIfInBounds_toArray, List.set_cons_zero, List.set_cons_succ])
                      refine wpAnyH_take (i := 6) (oi := ?o1062) (v := ?v1062) ?a1062 (by kernel_rfl) (by kernel_rfl) (by kernel_rfl) ?q1062 (Or.inl ⟨?g1062, ?y1062⟩) (by assumption) ?r1062; (case' a1062 => (simp only [List.getElem?_toArray, List.getElem?_cons_zero, List.getElem?_cons_succ]; rfl)); (case' q1062 => (exact fun _ _ _ h => h)); (case' g1062 => rfl); (case' y1062 => (intro w hSw; (try dsimp only at hSw); go_simp; try with_reducible rfl)); (case' r1062 => (try simp only [Act.put, List.setIfInBounds_toArray, List.set_cons_zero, List.set_cons_succ]))
                      refine wpAnyH_take (i := 7) (oi := ?o1063) (v := ?v1063) ?a1063 (by kernel_rfl) (by kernel_rfl) (by kernel_rfl) ?q1063 (Or.inl ⟨?g1063, ?y1063⟩) (by assumption) ?r1063; (case' a1063 => (simp only [List.getElem?_toArray, List.getElem?_cons_zero, List.getElem?_cons_succ]; rfl)); (case' q1063 => (exact fun _ _ _ h => h)); (case' g1063 => rfl); (case' y1063 => (intro w hSw; (try dsimp only at hSw); go_simp; try with_reducible rfl)); (case' r1063 => (try simp only [Act.put, List.setIfInBounds_toArray, List.set_cons_zero, List.set_cons_succ]))
                      refine wpAnyH_take (i := 8) (oi := ?o1064) (v := ?v1064) ?a1064 (by kernel_rfl) (by kernel_rfl) (by kernel_rfl) ?q1064 (Or.inl ⟨?g1064, ?y1064⟩) (by assumption) ?r1064; (case' a1064 => (simp only [List.getElem?_toArray, List.getElem?_cons_zero, List.getElem?_cons_succ]; rfl)); (case' q1064 => (exact fun _ _ _ h => h)); (case' g1064 => rfl); (case' y1064 => (intro w hSw; (try dsimp only at hSw); go_simp; try with_reducible rfl)); (case' r1064 => (try simp only [Act.put, List.setIfInBounds_toArray, List.set_cons_zero, List.set_cons_succ]))
                      refine wpAnyH_take (i := 9) (oi := ?o1065) (v := ?v1065) ?a1065 (by kernel_rfl) (by kernel_rfl) (by kernel_rfl) ?q1065 (Or.inl ⟨?g1065, ?y1065⟩) (by assumption) ?r1065; (case' a1065 => (simp only [List.getElem?_toArray, List.getElem?_cons_zero, List.getElem?_cons_succ]; rfl)); (case' q1065 => (exact fun _ _ _ h => h)); (case' g1065 => rfl); (case' y1065 => (intro w hSw; (try dsimp only at hSw); go_simp; try with_reducible rfl)); (case' r1065 => (try simp only [Act.put, List.setIfInBounds_toArray, List.set_cons_zero, List.set_cons_succ]))
                      refine wpAnyH_take (i := 10) (oi := ?o1066) (v := ?v1066) ?a1066 (by kernel_rfl) (by kernel_rfl) (by kernel_rfl) ?q1066 (Or.inl ⟨?g1066, ?y1066⟩) (by assumption) ?r1066; (case' a1066 => (simp only [List.getElem?_toArray, List.getElem?_cons_zero, List.getElem?_cons_succ]; rfl)); (case' q1066 => (exact fun _ _ _ h => h)); (case' g1066 => rfl); (case' y1066 => (intro w hSw; (try dsimp only at hSw); go_simp; try with_reducible rfl)); (case' r1066 => (try simp only [Act.put, List.setIfInBounds_toArray, List.set_cons_zero, List.set_cons_succ]))
                      refine wpAnyH_take (i := 11) (oi := ?o1067) (v := ?v1067) ?a1067 (by kernel_rfl) (by kernel_rfl) (by kernel_rfl) ?q1067 (Or.inl ⟨?g1067, ?y1067⟩) (by assumption) ?r1067; (case' a1067 => (simp only [List.getElem?_toArray, List.getElem?_cons_zero, List.getElem?_cons_succ]; rfl)); (case' q1067 => (exact fun _ _ _ h => h)); (case' g1067 => rfl); (case' y1067 => (intro w hSw; (try dsimp only at hSw); go_simp; try with_reducible rfl)); (case' r1067 => (try simp only [Act.put, List.setIfInBounds_toArray, List.set_cons_zero, List.set_cons_succ]))
                      refine wpAnyH_take (i := 12) (oi := ?o1068) (v := ?v1068) ?a1068 (by kernel_rfl) (by kernel_rfl) (by kernel_rfl) ?q1068 (Or.inl ⟨?g1068, ?y1068⟩) (by assumption) ?r1068; (case' a1068 => (simp only [List.getElem?_toArray, List.getElem?_cons_zero, List.getElem?_cons_succ]; rfl)); (case' q1068 => (exact fun _ _ _ h => h)); (case' g1068 => rfl); (case' y1068 => (intro w hSw; (try dsimp only at hSw); go_simp; try with_reducible rfl)); (case' r1068 => (try simp only [Act.put, List.setIfInBounds_toArray, List.set_cons_zero, List.set_cons_succ]))
                      refine wpAnyH_take (i := 13) (oi := ?o1069) (v := ?v1069) ?a1069 (by kernel_rfl) (by kernel_rfl) (by kernel_rfl) ?q1069 (Or.inl ⟨?g1069, ?y1069⟩) (by assumption) ?r1069; (case' a1069 => (simp only [List.getElem?_toArray, List.getElem?_cons_zero, List.getElem?_cons_succ]; rfl)); (case' q1069 => (exact fun _ _ _ h => h)); (case' g1069 => rfl); (case' y1069 => (intro w hSw; (try dsimp only at hSw); go_simp; try with_reducible rfl)); (case' r1069 => (try simp only [Act.put, List.setIfInBounds_toArray, List.set_cons_zero, List.set_cons_succ]))
                      refine wpAnyH_take (i := 14) (oi := ?o1070) (v := ?v1070) ?a1070 (by kernel_rfl) (by kernel_rfl) (by kernel_rfl) ?q1070 (Or.inl ⟨?g1070, ?y1070⟩) (by assumption) ?r1070; (case' a1070 => (simp only [List.getElem?_toArray, List.getElem?_cons_zero, List.getElem?_cons_succ]; rfl)); (case' q1070 => (exact fun _ _ _ h => h)); (case' g1070 => rfl); (case' y1070 => (intro w hSw; (try dsimp only at hSw); go_simp; try with_reducible rfl)); (case' r1070 => (try simp only [Act.put, List.setIfInBounds_toArray, List.set_cons_zero, List.set_cons_succ]))
                      refine wpAnyH_take (i := 15) (oi := ?o1071) (v := ?v1071) ?a1071 (by kernel_rfl) (by kernel_rfl) (by kernel_rfl) ?q1071 (Or.inl ⟨?g1071, ?y1071⟩) (by assumption) ?r1071; (case' a1071 => (simp only [List.getElem?_toArray, List.getElem?_cons_zero, List.getElem?_cons_succ]; rfl)); (case' q1071 => (exact fun _ _ _ h => h)); (case' g1071 => rfl); (case' y1071 => (intro w hSw; (try dsimp only at hSw); go_simp; try with_reducible rfl)); (case' r1071 => (try simp only [Act.put, List.setIfInBounds_toArray, List.set_cons_zero, List.set_cons_succ]))
                      refine wpAnyH_take (i := 16) (oi := ?o1072) (v := ?v1072) ?a1072 (by kernel_rfl) (by kernel_rfl) (by kernel_rfl) ?q1072 (Or.inl ⟨?g1072, ?y1072⟩) (by assumption) ?r1072; (case' a1072 => (simp only [List.getElem?_toArray, List.getElem?_cons_zero, List.getElem?_cons_succ]; rfl)); (case' q1072 => (exact fun _ _ _ h => h)); (case' g1072 => rfl); (case' y1072 => (intro w hSw; (try dsimp only at hSw); go_simp; try with_reducible rfl)); (case' r1072 => (try simp only [Act.put, List.setIfInBounds_toArray, List.set_cons_zero, List.set_cons_succ]))
                      refine wpAnyH_take (i := 17) (oi := ?o1073) (v := ?v1073) ?a1073 (by kernel_rfl) (by kernel_rfl) (by kernel_rfl) ?q1073 (Or.inl ⟨?g1073, ?y1073⟩) (by assumption) ?r1073; (case' a1073 => (simp only [List.getElem?_toArray, List.getElem?_cons_zero, List.getElem?_cons_succ]; rfl)); (case' q1073 => (exact fun _ _ _ h => h)); (case' g1073 => rfl); (case' y1073 => (intro w hSw; (try dsimp only at hSw); go_simp; try with_reducible rfl)); (case' r1073 => (try simp only [Act.put, List.setIfInBounds_toArray, List.set_cons_zero, List.set_cons_succ]))
                      refine wpAnyH_take (i := 18) (oi := ?o1074) (v := ?v1074) ?a1074 (by kernel_rfl) (by kernel_rfl) (by kernel_rfl) ?q1074 (Or.inl ⟨?g1074, ?y1074⟩) (by assumption) ?r1074; (case' a1074 => (simp only [List.getElem?_toArray, List.getElem?_cons_zero, List.getElem?_cons_succ]; rfl)); (case' q1074 => (exact fun _ _ _ h => h)); (case' g1074 => rfl); (case' y1074 => (intro w hSw; (try dsimp only at hSw); go_simp; try with_reducible rfl)); (case' r1074 => (try simp only [Act.put, List.setIfInBounds_toArray, List.set_cons_zero, List.set_cons_succ]))
                      refine wpAnyH_take (i := 19) (oi := ?o1075) (v := ?v1075) ?a1075 (by kernel_rfl) (by kernel_rfl) (by kernel_rfl) ?q1075 (Or.inl ⟨?g1075, ?y1075⟩) (by assumption) ?r1075; (case' a1075 => (simp only [List.getElem?_toArray, List.getElem?_cons_zero, List.getElem?_cons_succ]; rfl)); (case' q1075 => (exact fun _ _ _ h => h)); (case' g1075 => rfl); (case' y1075 => (intro w hSw; (try dsimp only at hSw); go_simp; try with_reducible rfl)); (case' r1075 => (try simp only [Act.put, List.setIfInBounds_toArray, List.set_cons_zero, List.set_cons_succ]))
                      refine wpAnyH_take (i := 20) (oi := ?o1076) (v := ?v1076) ?a1076 (by kernel_rfl) (by kernel_rfl) (by kernel_rfl) ?q1076 (Or.inl ⟨?g1076, ?y1076⟩) (by assumption) ?r1076; (case' a1076 => (simp only [List.getElem?_toArray, List.getElem?_cons_zero, List.getElem?_cons_succ]; rfl)); (case' q1076 => (exact fun _ _ _ h => h)); (case' g1076 => rfl); (case' y1076 => (intro w hSw; (try dsimp only at hSw); go_simp; try with_reducible rfl)); (case' r1076 => (try simp only [Act.put, List.setIfInBounds_toArray, List.set_cons_zero, List.set_cons_succ]))
                      refine wpAnyH_take (i := 21) (oi := ?o1077) (v := ?v1077) ?a1077 (by kernel_rfl) (by kernel_rfl) (by kernel_rfl) ?q1077 (Or.inl ⟨?g1077, ?y1077⟩) (by assumption) ?r1077; (case' a1077 => (simp only [List.getElem?_toArray, List.getElem?_cons_zero, List.getElem?_cons_succ]; rfl)); (case' q1077 => (exact fun _ _ _ h => h)); (case' g1077 => rfl); (case' y1077 => (intro w hSw; (try dsimp only at hSw); go_simp; try with_reducible rfl)); (case' r1077 => (try simp only [Act.put, List.setIfInBounds_toArray, List.set_cons_zero, List.set_cons_succ]))
                      refine wpAnyH_ready (rs := [22]) (by kernel_rfl) (by simp) ?_
                      refine AllReadyH.cons (o := ?o1078) ?a1078 (fun K hK => ?s1078) ?m1078; (case' a1078 => (simp only [List.getElem?_toArray, List.getElem?_cons_zero, List.getElem?_cons_succ]; rfl))
                      case s1078 =>
                        go_simp
                        go_at_call 29
                        refine (rless_is t1 t true _ HT1.out HTS.out HLS).mono ?_
                        rintro e wn ⟨rfl, hbn⟩
                        go_wp2_with fail
                        refine hK.out _ _ (keep4n hHeld hbn) (fun hHeld => ?_)
                        clear hK K
                        (try simp only [Act.put, List.setIfInBounds_toArray, List.set_cons_zero, List.set_cons_succ])
                        refine wpAnyH_take (i := 23) (oi := ?o1079) (v := ?v1079) ?a1079 (by kernel_rfl) (by kernel_rfl) (by kernel_rfl) ?q1079 (Or.inl ⟨?g1079, ?y1079⟩) (by assumption) ?r1079; (case' a1079 => (simp only [List.getElem?_toArray, List.getElem?_cons_zero, List.getElem?_cons_succ]; rfl)); (case' q1079 => (exact fun _ _ _ h => h)); (case' g1079 => rfl); (case' y1079 => (intro w hSw; (try dsimp only at hSw); go_simp; try with_reducible rfl)); (case' r1079 => (try simp only [Act.put, List.setIfInBounds_toArray, List.set_cons_zero, List.set_cons_succ]))
                        refine wpAnyH_take (i := 24) (oi := ?o1080) (v := ?v1080) ?a1080 (by kernel_rfl) (by kernel_rfl) (by kernel_rfl) ?q1080 (Or.inl ⟨?g1080, ?y1080⟩) (by assumption) ?r1080; (case' a1080 => (simp only [List.getElem?_toArray, List.getElem?_cons_zero, List.getElem?_cons_succ]; rfl)); (case' q1080 => (exact fun _ _ _ h => h)); (case' g1080 => rfl); (case' y1080 => (intro w hSw; (try dsimp only at hSw); go_simp; try with_reducible rfl)); (case' r1080 => (try simp only [Act.put, List.setIfInBounds_toArray, List.set_cons_zero, List.set_cons_succ]))
                        refine wpAnyH_take (i := 25) (oi := ?o1081) (v := ?v1081) ?a1081 (by kernel_rfl) (by kernel_rfl) (by kernel_rfl) ?q1081 (Or.inl ⟨?g1081, ?y1081⟩) (by assumption) ?r1081; (case' a1081 => (simp only [List.getElem?_toArray, List.getElem?_cons_zero, List.getElem?_cons_succ]; rfl)); (case' q1081 => (exact fun _ _ _ h => h)); (case' g1081 => rfl); (case' y1081 => (intro w hSw; (try dsimp only at hSw); go_simp; try with_reducible rfl)); (case' r1081 => (try simp only [Act.put, List.setIfInBounds_toArray, List.set_cons_zero, List.set_cons_succ]))
                        refine wpAnyH_take (i := 26) (oi := ?o1082) (v := undef) ?a1082 (by kernel_rfl) (by kernel_rfl) (by kernel_rfl) ?q1082 (Or.inr ⟨?g1082, rfl⟩) (by assumption) ?r1082; (case' a1082 => (simp only [List.getElem?_toArray, List.getElem?_cons_zero, List.getElem?_cons_succ]; rfl)); (case' q1082 => (exact fun _ _ _ h => h)); (case' g1082 => rfl); (case' r1082 => (try simp only [Act.put, List.setIfInBounds_toArray, List.set_cons_zero, List.set_cons_succ]))
                        refine wpAnyH_take (i := 27) (oi := ?o1083) (v := undef) ?a1083 (by kernel_rfl) (by kernel_rfl) (by kernel_rfl) ?q1083 (Or.inr ⟨?g1083, rfl⟩) (by assumption) ?r1083; (case' a1083 => (simp only [List.getElem?_toArray, List.getElem?_cons_zero, List.getElem?_cons_succ]; rfl)); (case' q1083 => (exact fun _ _ _ h => h)); (case' g1083 => rfl); (case' r1083 => (try simp only [Act.put, List.setIfInBounds_toArray, List.set_cons_zero, List.set_cons_succ]))
                        refine wpAnyH_take (i := 28) (oi := ?o1084) (v := undef) ?a1084 (by kernel_rfl) (by kernel_rfl) (by kernel_rfl) ?q1084 (Or.inr ⟨?g1084, rfl⟩) (by assumption) ?r1084; (case' a1084 => (simp only [List.getElem?_toArray, List.getElem?_cons_zero, List.getElem?_cons_succ]; rfl)); (case' q1084 => (exact fun _ _ _ h => h)); (case' g1084 => rfl); (case' r1084 => (try simp only [Act.put, List.setIfInBounds_toArray, List.set_cons_zero, List.set_cons_succ]))
                        refine wpAnyH_take (i := 29) (oi := ?o1085) (v := undef) ?a1085 (by kernel_rfl) (by kernel_rfl) (by kernel_rfl) ?q1085 (Or.inr ⟨?g1085, rfl⟩) (by assumption) ?r1085; (case' a1085 => (simp only [List.getElem?_toArray, List.getElem?_cons_zero, List.getElem?_cons_succ]; rfl)); (case' q1085 => (exact fun _ _ _ h => h)); (case' g1085 => rfl); (case' r1085 => (try simp only [Act.put, List.setIfInBounds_toArray, List.set_cons_zero, List.set_cons_succ]))
                        refine wpAnyH_take (i := 30) (oi := ?o1086) (v := undef) ?a1086 (by kernel_rfl) (by kernel_rfl) (by kernel_rfl) ?q1086 (Or.inr ⟨?g1086, rfl⟩) (by assumption) ?r1086; (case' a1086 => (simp only [List.getElem?_toArray, List.getElem?_cons_zero, List.getElem?_cons_succ]; rfl)); (case' q1086 => (exact fun _ _ _ h => h)); (case' g1086 => rfl); (case' r1086 => (try simp only [Act.put, List.setIfInBounds_toArray, List.set_cons_zero, List.set_cons_succ]))
                        refine wpAnyH_take (i := 31) (oi := ?o1087) (v := undef) ?a1087 (by kernel_rfl) (by kernel_rfl) (by kernel_rfl) ?q1087 (Or.inr ⟨?g1087, rfl⟩) (by assumption) ?r1087; (case' a1087 => (simp only [List.getElem?_toArray, List.getElem?_cons_zero, List.getElem?_cons_succ]; rfl)); (case' q1087 => (exact fun _ _ _ h => h)); (case' g1087 => rfl); (case' r1087 => (try simp only [Act.put, List.setIfInBounds_toArray, List.set_cons_zero, List.set_cons_succ]))
                        refine wpAnyH_take (i := 32) (oi := ?o1088) (v := undef) ?a1088 (by kernel_rfl) (by kernel_rfl) (by kernel_rfl) ?q1088 (Or.inr ⟨?g1088, rfl⟩) (by assumption) ?r1088; (case' a1088 => (simp only [List.getElem?_toArray, List.getElem?_cons_zero, List.getElem?_cons_succ]; rfl)); (case' q1088 => (exact fun _ _ _ h => h)); (case' g1088 => rfl); (case' r1088 => (try simp only [Act.put, List.setIfInBounds_toArray, List.set_cons_zero, List.set_cons_succ]))
                        refine wpAnyH_take (i := 33) (oi := ?o1089) (v := undef) ?a1089 (by kernel_rfl) (by kernel_rfl) (by kernel_rfl) ?q1089 (Or.inr ⟨?g1089, rfl⟩) (by assumption) ?r1089; (case' a1089 => (simp only [List.getElem?_toArray, List.getElem?_cons_zero, List.getElem?_cons_succ]; rfl)); (case' q1089 => (exact fun _ _ _ h => h)); (case' g1089 => rfl); (case' r1089 => (try simp only [Act.put, List.setIfInBounds_toArray, List.set_cons_zero, List.set_cons_succ]))
                        refine wpAnyH_take (i := 34) (oi := ?o1090) (v := undef) ?a1090 (by kernel_rfl) (by kernel_rfl) (by kernel_rfl) ?q1090 (Or.inr ⟨?g1090, rfl⟩) (by assumption) ?r1090; (case' a1090 => (simp only [List.getElem?_toArray, List.getElem?_cons_zero, List.getElem?_cons_succ]; rfl)); (case' q1090 => (exact fun _ _ _ h => h)); (case' g1090 => rfl); (case' r1090 => (try simp only [Act.put, List.setIfInBounds_toArray, List.set_cons_zero, List.set_cons_succ]))
                        refine wpAnyH_take (i := 35) (oi := ?o1091) (v := undef) ?a1091 (by kernel_rfl) (by kernel_rfl) (by kernel_rfl) ?q1091 (Or.inr ⟨?g1091, rfl⟩) (by assumption) ?r1091; (case' a1091 => (simp only [List.getElem?_toArray, List.getElem?_cons_zero, List.getElem?_cons_succ]; rfl)); (case' q1091 => (exact fun _ _ _ h => h)); (case' g1091 => rfl); (case' r1091 => (try simp only [Act.put, List.setIfInBounds_toArray, List.set_cons_zero, List.set_cons_succ]))
                        refine wpAnyH_take (i := 36) (oi := ?o1092) (v := undef) ?a1092 (by kernel_rfl) (by kernel_rfl) (by kernel_rfl) ?q1092 (Or.inr ⟨?g1092, rfl⟩) (by assumption) ?r1092; (case' a1092 => (simp only [List.getElem?_toArray, List.getElem?_cons_zero, List.getElem?_cons_succ]; rfl)); (case' q1092 => (exact fun _ _ _ h => h)); (case' g1092 => rfl); (case' r1092 => (try simp only [Act.put, List.setIfInBounds_toArray, List.set_cons_zero, List.set_cons_succ]))
                        refine wpAnyH_take (i := 37) (oi := ?o1093) (v := undef) ?a1093 (by kernel_rfl) (by kernel_rfl) (by kernel_rfl) ?q1093 (Or.inr ⟨?g1093, rfl⟩) (by assumption) ?r1093; (case' a1093 => (simp only [List.getElem?_toArray, List.getElem?_cons_zero, List.getElem?_cons_succ]; rfl)); (case' q1093 => (exact fun _ _ _ h => h)); (case' g1093 => rfl); (case' r1093 => (try simp only [Act.put, List.setIfInBounds_toArray, List.set_cons_zero, List.set_cons_succ]))
                        refine wpAnyH_take (i := 38) (oi := ?o1094) (v := undef) ?a1094 (by kernel_rfl) (by kernel_rfl) (by kernel_rfl) ?q1094 (Or.inr ⟨?g1094, rfl⟩) (by assumption) ?r1094; (case' a1094 => (simp only [List.getElem?_toArray, List.getElem?_cons_zero, List.getElem?_cons_succ]; rfl)); (case' q1094 => (exact fun _ _ _ h => h)); (case' g1094 => rfl); (case' r1094 => (try simp only [Act.put, List.setIfInBounds_toArray, List.set_cons_zero, List.set_cons_succ]))
                        refine wpAnyH_take (i := 39) (oi := ?o1095) (v := undef) ?a1095 (by kernel_rfl) (by kernel_rfl) (by kernel_rfl) ?q1095 (Or.inr ⟨?g1095, rfl⟩) (by assumption) ?r1095; (case' a1095 => (simp only [List.getElem?_toArray, List.getElem?_cons_zero, List.getElem?_cons_succ]; rfl)); (case' q1095 => (exact fun _ _ _ h => h)); (case' g1095 => rfl); (case' r1095 => (try simp only [Act.put, List.setIfInBounds_toArray, List.set_cons_zero, List.set_cons_succ]))
                        refine wpAnyH_take (i := 40) (oi := ?o1096) (v := undef) ?a1096 (by kernel_rfl) (by kernel_rfl) (by kernel_rfl) ?q1096 (Or.inr ⟨?g1096, rfl⟩) (by assumption) ?r1096; (case' a1096 => (simp only [List.getElem?_toArray, List.getElem?_cons_zero, List.getElem?_cons_succ]; rfl)); (case' q1096 => (exact fun _ _ _ h => h)); (case' g1096 => rfl); (case' r1096 => (try simp only [Act.put, List.setIfInBounds_toArray, List.set_cons_zero, List.set_cons_succ]))
                        refine wpAnyH_take (i := 41) (oi := ?o1097) (v := undef) ?a1097 (by kernel_rfl) (by kernel_rfl) (by kernel_rfl) ?q1097 (Or.inr ⟨?g1097, rfl⟩) (by assumption) ?r1097; (case' a1097 => (simp only [List.getElem?_toArray, List.getElem?_cons_zero, List.getElem?_cons_succ]; rfl)); (case' q1097 => (exact fun _ _ _ h => h)); (case' g1097 => rfl); (case' r1097 => (try simp only [Act.put, List.setIfInBounds_toArray, List.set_cons_zero, List.set_cons_succ]))
                        refine wpAnyH_take (i := 42) (oi := ?o1098) (v := undef) ?a1098 (by kernel_rfl) (by kernel_rfl) (by kernel_rfl) ?q1098 (Or.inr ⟨?g1098, rfl⟩) (by assumption) ?r1098; (case' a1098 => (simp only [List.getElem?_toArray, List.getElem?_cons_zero, List.getElem?_cons_succ]; rfl)); (case' q1098 => (exact fun _ _ _ h => h)); (case' g1098 => rfl); (case' r1098 => (try simp only [Act.put, List.setIfInBounds_toArray, List.set_cons_zero, List.set_cons_succ]))
                        refine wpAnyH_take (i := 43) (oi := ?o1099) (v := undef) ?a1099 (by kernel_rfl) (by kernel_rfl) (by kernel_rfl) ?q1099 (Or.inr ⟨?g1099, rfl⟩) (by assumption) ?r1099; (case' a1099 => (simp only [List.getElem?_toArray, List.getElem?_cons_zero, List.getElem?_cons_succ]; rfl)); (case' q1099 => (exact fun _ _ _ h => h)); (case' g1099 => rfl); (case' r1099 => (try simp only [Act.put, List.setIfInBounds_toArray, List.set_cons_zero, List.set_cons_succ]))
                        refine wpAnyH_take (i := 44) (oi := ?o1100) (v := undef) ?a1100 (by kernel_rfl) (by kernel_rfl) (by kernel_rfl) ?q1100 (Or.inr ⟨?g1100, rfl⟩) (by assumption) ?r1100; (case' a1100 => (simp only [List.getElem?_toArray, List.getElem?_cons_zero, List.getElem?_cons_succ]; rfl)); (case' q1100 => (exact fun _ _ _ h => h)); (case' g1100 => rfl); (case' r1100 => (try simp only [Act.put, List.setIfInBounds_toArray, List.set_cons_zero, List.set_cons_succ]))
                        refine wpAnyH_take (i := 45) (oi := ?o1101) (v := undef) ?a1101 (by kernel_rfl) (by kernel_rfl) (by kernel_rfl) ?q1101 (Or.inr ⟨?g1101, rfl⟩) (by assumption) ?r1101; (case' a1101 => (simp only [List.getElem?_toArray, List.getElem?_cons_zero, List.getElem?_cons_succ]; rfl)); (case' q1101 => (exact fun _ _ _ h => h)); (case' g1101 => rfl); (case' r1101 => (try simp only [Act.put, List.setIfInBounds_toArray, List.set_cons_zero, List.set_cons_succ]))
                        refine wpAnyH_take (i := 46) (oi := ?o1102) (v := undef) ?a1102 (by kernel_rfl) (by kernel_rfl) (by kernel_rfl) ?q1102 (Or.inr ⟨?g1102, rfl⟩) (by assumption) ?r1102; (case' a1102 => (simp only [List.getElem?_toArray, List.getElem?_cons_zero, List.getElem?_cons_succ]; rfl)); (case' q1102 => (exact fun _ _ _ h => h)); (case' g1102 => rfl); (case' r1102 => (try simp only [Act.put, List.setIfInBounds_toArray, List.set_cons_zero, List.set_cons_succ]))
                        refine wpAnyH_take (i := 47) (oi := ?o1103) (v := undef) ?a1103 (by kernel_rfl) (by kernel_rfl) (by kernel_rfl) ?q1103 (Or.inr ⟨?g1103, rfl⟩) (by assumption) ?r1103; (case' a1103 => (simp only [List.getElem?_toArray, List.getElem?_cons_zero, List.getElem?_cons_succ]; rfl)); (case' q1103 => (exact fun _ _ _ h => h)); (case' g1103 => rfl); (case' r1103 => (try simp only [Act.put, List.setIfInBounds_toArray, List.set_cons_zero, List.set_cons_succ]))
                        refine wpAnyH_take (i := 48) (oi := ?o1104) (v := undef) ?a1104 (by kernel_rfl) (by kernel_rfl) (by kernel_rfl) ?q1104 (Or.inr ⟨?g1104, rfl⟩) (by assumption) ?r1104; (case' a1104 => (simp only [List.getElem?_toArray, List.getElem?_cons_zero, List.getElem?_cons_succ]; rfl)); (case' q1104 => (exact fun _ _ _ h => h)); (case' g1104 => rfl); (case' r1104 => (try simp only [Act.put, List.setIfInBounds_toArray, List.set_cons_zero, List.set_cons_succ]))
                        refine wpAnyH_take (i := 49) (oi := ?o1105) (v := undef) ?a1105 (by kernel_rfl) (by kernel_rfl) (by kernel_rfl) ?q1105 (Or.inr ⟨?g1105, rfl⟩) (by assumption) ?r1105; (case' a1105 => (simp only [List.getElem?_toArray, List.getElem?_cons_zero, List.getElem?_cons_succ]; rfl)); (case' q1105 => (exact fun _ _ _ h => h)); (case' g1105 => rfl); (case' r1105 => (try simp only [Act.put, List.setIfInBounds_toArray, List.set_cons_zero, List.set_cons_succ]))
                        refine wpAnyH_take (i := 50) (oi := ?o1106) (v := undef) ?a1106 (by kernel_rfl) (by kernel_rfl) (by kernel_rfl) ?q1106 (Or.inr ⟨?g1106, rfl⟩) (by assumption) ?r1106; (case' a1106 => (simp only [List.getElem?_toArray, List.getElem?_cons_zero, List.getElem?_cons_succ]; rfl)); (case' q1106 => (exact fun _ _ _ h => h)); (case' g1106 => rfl); (case' r1106 => (try simp only [Act.put, List.setIfInBounds_toArray, List.set_cons_zero, List.set_cons_succ]))
                        refine wpAnyH_take (i := 51) (oi := ?o1107) (v := undef) ?a1107 (by kernel_rfl) (by kernel_rfl) (by kernel_rfl) ?q1107 (Or.inr ⟨?g1107, rfl⟩) (by assumption) ?r1107; (case' a1107 => (simp only [List.getElem?_toArray, List.getElem?_cons_zero, List.getElem?_cons_succ]; rfl)); (case' q1107 => (exact fun _ _ _ h => h)); (case' g1107 => rfl); (case' r1107 => (try simp only [Act.put, List.setIfInBounds_toArray, List.set_cons_zero, List.set_cons_succ]))
                        refine wpAnyH_take (i := 52) (oi := ?o1108) (v := undef) ?a1108 (by kernel_rfl) (by kernel_rfl) (by kernel_rfl) ?q1108 (Or.inr ⟨?g1108, rfl⟩) (by assumption) ?r1108; (case' a1108 => (simp only [List.getElem?_toArray, List.getElem?_cons_zero, List.getElem?_cons_succ]; rfl)); (case' q1108 => (exact fun _ _ _ h => h)); (case' g1108 => rfl); (case' r1108 => (try simp only [Act.put, List.setIfInBounds_toArray, List.set_cons_zero, List.set_cons_succ]))
                        refine wpAnyH_take (i := 53) (oi := ?o1109) (v := ?v1109) ?a1109 (by kernel_rfl) (by kernel_rfl) (by kernel_rfl) ?q1109 (Or.inl ⟨?g1109, ?y1109⟩) (by assumption) ?r1109; (case' a1109 => (simp only [List.getElem?_toArray, List.getElem?_cons_zero, List.getElem?_cons_succ]; rfl)); (case' q1109 => (exact fun _ _ _ h => h)); (case' g1109 => rfl); (case' y1109 => (intro w hSw; (try dsimp only at hSw); go_simp; try with_reducible rfl)); (case' r1109 => (try simp only [Act.put, List.setIfInBounds_toArray, List.set_cons_zero, List.set_cons_succ]))
                        refine wpAnyH_take (i := 54) (oi := ?o1110) (v := ?v1110) ?a1110 (by kernel_rfl) (by kernel_rfl) (by kernel_rfl) ?q1110 (Or.inl ⟨?g1110, ?y1110⟩) (by assumption) ?r1110; (case' a1110 => (simp only [List.getElem?_toArray, List.getElem?_cons_zero, List.getElem?_cons_succ]; rfl)); (case' q1110 => (exact fun _ _ _ h => h)); (case' g1110 => rfl); (case' y1110 => (intro w hSw; (try dsimp only at hSw); go_simp; try with_reducible rfl)); (case' r1110 => (try simp only [Act.put, List.setIfInBounds_toArray, List.set_cons_zero, List.set_cons_succ]))
                        refine wpAnyH_done (by kernel_rfl) ?_ _
                        have HBN := Lib.hid hHeld.2
                        clear hHeld
                        go_wp2_with fail
                        go_roundw
                        case rel => exact ⟨k + 1, by omega, by go_num, HBN⟩
                        case measure => simp [intOf]; omega
                      exact AllReadyH.nil
                    exact AllReadyH.nil
                  · have wn : IntKind.i64.wrap (n1 + 1) = n := by rw [hn]; exact IntWalk.i64_in _ (by omega)
                    have HLS : Hid (lessB t1 t1 = false) := Lib.hid (less_irr t1)
                    subst he
                    clear hcp hp1 hk3 hp0 hk1 kz hb1 hn e1
                    go_region_held3 (fun w' => (w'.cell? ⟨gp, k * 2, none⟩ = some (.string t1) ∧ w'.cell? ⟨gp, k * 2 + 1, none⟩ = some (.int .i64 n) ∧ w'.cell? ⟨gp, k1 * 2, none⟩ = some (.string t1) ∧ w'.cell? ⟨gp, k1 * 2 + 1, none⟩ = some (.int .i64 n1)) ∧ Below w5.heap.size w5 w')
                      (first | assumption | exact keep4n hS (drewB9 _) | exact keep4n (by assumption) (by assumption) | exact keep4n (by assumption) (drewB9 _))
                      (first | (go_at_call 29; refine (rless_is t1 t1 false _ HT1.out HTS.out HLS).mono ?_; rintro e w22 ⟨rfl, hb22⟩) | (go_at_call 21; refine (m9_has t1 n true (by first | exact HMr | exact Lib.hid (HMr.out.below (drewB9 _))) HTS.out HHAS).mono ?_; rintro e w21 ⟨rfl, hb21⟩))
                    all_goals
                      rename_i hh
                      have HBN := Lib.hid hh.2
                      clear hh
                      go_wp2_with fail
                      go_roundw
                      case rel => exact ⟨k + 1, by omega, by go_num, HBN⟩
                      case measure => simp [intOf]; omega
              · have kl : ¬ (k : Int) < (pn : Int) := by omega
                have M6 := Lib.hid (M5.out.below HB3.out)
                have R14 := Lib.hid (reads_keep R12b.out (KeepC.below HB3.out) HB3.out.size)
                clear hkl hk3 R11 HNEXT HHASA HPS HB3 M5 R12b
                go_wp2_with fail
                go_loopw [14] (fun p wr => ∃ k : Nat, k ≤ on ∧ p = .int .i64 k ∧ Hid (Below wr3.heap.size wr3 wr)) (fun p _ => on - (intOf p).toNat)
                case atStart => exact ⟨0, Nat.zero_le _, rfl, Lib.hid (Below.refl _ _)⟩
                case round =>
                  obtain ⟨k4, hk4, rfl, HB4⟩ := hrel
                  by_cases hkl : k4 < on
                  · obtain ⟨gp, rfl, hgp, hcp⟩ := R14.out (by rw [HONL.out]; omega)
                    obtain ⟨y, hp0⟩ : ∃ y, ON[k4]? = some y := ⟨ON[k4]'(by rw [HONL.out]; exact hkl), List.getElem?_eq_getElem _⟩
                    obtain rfl := HONG.out _ _ hp0
                    obtain ⟨e0, e1⟩ := hcp k4 _ hp0
                    dsimp only at e0 e1
                    have d0 := (HB4.out.cell (p := ⟨gp, k4 * 2, none⟩) hgp).trans e0
                    have d1 := (HB4.out.cell (p := ⟨gp, k4 * 2 + 1, none⟩) hgp).trans e1
                    have hS := And.intro (And.intro d0 d1) HB4.out
                    have k0 : (0 : Int) ≤ (k4 : Int) := by omega
                    have kl : (k4 : Int) < (on : Int) := by omega
                    clear e0 e1 hcp hp0
                    go_upto_region 26 with fail
                    go_region_held3 (fun w' => (w'.cell? ⟨gp, k4 * 2, none⟩ = some (.string u) ∧ w'.cell? ⟨gp, k4 * 2 + 1, none⟩ = some (.int .i64 (k4 : Int))) ∧ Below wr3.heap.size wr3 w')
                      (first | assumption | exact keep2n hS (drewB9 _) | exact keep2n (by assumption) (by assumption) | exact keep2n (by assumption) (drewB9 _))
                      (first | (go_at_call 9; refine (cut_is _ a1 u HA1.out HU).mono ?_; rintro e wz ⟨rfl, hwz⟩; obtain rfl := hwz.symm))
                    all_goals
                      rename_i hh
                      have HBN := Lib.hid hh.2
                      clear hh
                      go_wp2_with fail
                      go_roundw
                      case rel => exact ⟨k4 + 1, by omega, by go_num, HBN⟩
                      case measure => simp [intOf]; omega
                  · have kl : ¬ (k4 : Int) < (on : Int) := by omega
                    have M7 := Lib.hid (M6.out.below HB4.out)
                    clear hkl hk4 HB4
                    go_wp2_with (go_at_call 26; have _q := M7; refine (fixed9_any _).mono ?_; rintro e w20 ⟨rfl, h20⟩)
                    go_ret
                    exact ⟨rfl, (M7.out.below h20).bel⟩

set_option maxRecDepth 100000 in
set_option maxHeartbeats 1000000 in
theorem lifted (os : Os) (started : os.Started) (H : Type) (enc : TypeId × Value → H) :
    ReturnsInHanded {} Try.checked os 5 .any (Rows.topicsPartsSpec.pre6 enc Try.prog Try.f5 Rows.topicsPartsRow.domain false) (Rows.topicsPartsSpec.post enc Try.prog Try.f5 false true false false) := by
  refine returnsInHanded_of_change (C := Try.checked) own started (by kernel_rfl) Try.func5
    (ChangeSpec.witness6 (enc := enc) (C := Try.checked) false ⟨#[], #[.slice none 0 0, .string ByteArray.empty], []⟩ 8 (by kernel_rfl) (by kernel_rfl) (by kernel_rfl) (by kernel_rfl)) ?_
  intro W base args ds gs before hval0 hW _ _
  have hval : ∀ (j : Nat) t v, Try.f5.params[j]? = some t → args[j]? = some v → Value.okWide Try.prog W .any base t v := hval0
  have hW' := hW
  obtain ⟨p, q, hA0, hV, rfl, hfz, hnd⟩ := hW
  have hA : DataW.TrodAll enc Try.prog W 0 (fun _ => true) true Try.f5.params.toList args.toList ds p := hA0
  rw [Try.params5] at hA hval
  obtain ⟨v0, vs0, d0, ds0, p0, q0, hargs, rfl, rfl, h0, r0⟩ := trodAll_cons hA
  obtain ⟨v1, vs1, d1, ds1, p1, q1, rfl, rfl, rfl, h1, r1⟩ := trodAll_cons r0
  obtain ⟨rfl, rfl, rfl⟩ := trodAll_nil r1
  obtain rfl : args = #[v0, v1] := by cases args; simp_all
  obtain ⟨rfl, rfl⟩ := trodVars_none hV
  have k0 := h0
  have lt0 : ∀ x ∈ p0, x.block < W.heap.size := by obtain ⟨m, hm⟩ := k0; exact DataW.trod_lt m _ _ _ hm
  have k1 := h1
  have lt1 : ∀ x ∈ p1, x.block < W.heap.size := by obtain ⟨m, hm⟩ := k1; exact DataW.trod_lt m _ _ _ hm
  obtain ⟨A0, l0, c0, e0, R0⟩ := L9.open_ops (hval 0 22 v0 rfl rfl) h0
  subst e0
  obtain ⟨a1, e1, _, _, w1⟩ := open_string Try.underlying9 (hval 1 9 v1 rfl rfl) h1
  subst e1
  clear hA0 hval0
  refine (walk W A0 l0 c0 R0 a1 w1).mono fun e W' ⟨he, bel⟩ => ?_
  subst he
  exact ⟨_, rfl, _, _, _, [], _, [], hW', trodAll_mk1 (shut_bool Try.underlying4 _), (trodAll_cons_mk (Below.trod laidOut (by kernel_rfl) (of_decide_eq_true (by kernel_rfl)) k0 bel lt0) (trodAll_cons_mk (Below.trod laidOut (by kernel_rfl) (of_decide_eq_true (by kernel_rfl)) k1 bel lt1) trodAll_mk0)), rfl, bel.frame _, fun h => by cases h⟩

theorem over : Rows.topicsPartsRow.holds Try.pinned (OpenSpec.ofChange Rows.topicsPartsSpec) :=
  OpenClaim.holds_of_wide 5 Try.f5 rfl rfl rfl rfl rfl rfl rfl ⟨rfl, rfl, rfl, rfl, rfl⟩ rfl rfl rfl rfl rfl (by kernel_rfl) Try.func5 (by kernel_rfl)
    (of_decide_eq_true (by kernel_rfl)) (by unfold Func.isWrapper; first | (rw [if_pos (by decide +kernel)]; kernel_rfl) | (rw [if_neg (by decide +kernel)]; exact ⟨rfl, rfl⟩))
    (fun os started H enc _ => lifted os started H enc)

/-- the statement -/
theorem proved : Rows.TopicsPartsSaid :=
  over
#print axioms proved
end Go.Proofs.Ytohfbmgonjkhhaa.topicsParts
