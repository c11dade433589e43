/-
  Contract: by stretches, the document's.
-/
import Derived.Test.YthongbobopampaaAsRng
import Derived.Test.YthongbobopampaaAsRwho
import Derived.Deep.RegionHeld3
import Derived.Deep.RegionHeld
import Derived.Deep.QuietTactic
import Derived.BigQuiet
import Derived.Deep.RegionLaw
import Derived.BigRegion
namespace Go.Proofs.Ythongbobopampaa.L10
open Go.RowKit
open L3 L4 L9

theorem keep4d {W w1 w2 : World} {a1 a2 a3 a4 : Addr} {v1 v2 v3 v4 : Value} (h : ((w1.cell? a1 = some v1 ∧ w1.cell? a2 = some v2) ∧ w1.cell? a3 = some v3 ∧ w1.cell? a4 = some v4) ∧ Below W.heap.size W w1) (hb : Below w1.heap.size w1 w2) : ((w2.cell? a1 = some v1 ∧ w2.cell? a2 = some v2) ∧ w2.cell? a3 = some v3 ∧ w2.cell? a4 = some v4) ∧ Below W.heap.size W w2 := by
  obtain ⟨⟨⟨h1, h2⟩, h3, h4⟩, h5⟩ := h
  exact ⟨⟨⟨(hb.cell (World.block_lt_of_cell? _ _ h1)).trans h1, (hb.cell (World.block_lt_of_cell? _ _ h2)).trans h2⟩, (hb.cell (World.block_lt_of_cell? _ _ h3)).trans h3, (hb.cell (World.block_lt_of_cell? _ _ h4)).trans h4⟩, h5.trans (hb.mono h5.size)⟩
/-- one list more -/
theorem Lists.push {w w3 : World} {B B' n c : Nat} {A : Option Addr} {v v' : Value} {sl : List Sl} {x : List Pt} {o : Obj} (h : Lists w B v sl) (hs : w.ownsRow B' 27 2 (.slice A n c) n (rowP x)) (hB : B ≤ B') (hx : x.length = n)
    (hap : ∀ s ∈ sl, ∀ k ∈ bk s.A, k < B') (ho : w3.ownsRow B 36 1 v' (sl.length + 1) (sl.map Sl.v ++ [.slice A n c])) (hg : (w.alloc o).grownBy w3 v.ownBlock) : Lists w3 B v' (sl ++ [⟨A, c, x⟩]) := by
  have keep : ∀ {bs m k c' : Nat} {A' : Option Addr} {xs : List Value}, w.ownsRow bs 27 2 (.slice A' m c') k xs → w3.ownsRow bs 27 2 (.slice A' m c') k xs := fun r => own_at r (fun i e => by
    obtain ⟨cs, _, hi, q⟩ := own_bk' r e
    refine (hg.block i (by simp; omega) (fun e2 => ?_)).trans (Below.heap_alloc _ _ _ hi)
    obtain ⟨cs', _, _, q'⟩ := own_bk' h.out e2.symm
    rw [q] at q'; injection q' with q'; injection q' with _ q'; exact absurd q' (by decide))
  refine ⟨?_, fun s hsm => ?_, ?_⟩
  · have e : (sl ++ [(⟨A, c, x⟩ : Sl)]).length = sl.length + 1 := by simp
    have e2 : (sl ++ [(⟨A, c, x⟩ : Sl)]).map Sl.v = sl.map Sl.v ++ [.slice A n c] := by simp [Sl.v, hx]
    rw [e, e2]; exact ho
  · rcases List.mem_append.1 hsm with hsm | hsm
    · exact keep (h.inn s hsm)
    · rw [List.mem_singleton.1 hsm]
      show World.ownsRow _ B _ 2 (.slice A x.length c) x.length (rowP x)
      rw [hx]
      exact own_base (keep hs) hB
  · refine List.pairwise_append.2 ⟨h.apart, List.pairwise_singleton _ _, fun s hsm t ht k hk hk' => ?_⟩
    rw [List.mem_singleton.1 ht] at hk'
    have h1 := hap s hsm k hk
    obtain ⟨_, h2, _⟩ := own_bk hs k hk'
    omega
theorem rngL_next {l : List Pt} (ms : List Mb) (a : Nat) {j : Nat} {x : Pt} (h : l[j]? = some x) : rngL (l.take (j + 1)) ms a = rngL (l.take j) ms a ++ rngT ms a x := by
  unfold rngL
  rw [List.take_add_one, h, List.flatMap_append]
  simp
/-- a stretch, up to a number -/
def strT (t : ByteArray) (f y : Nat) : List Pt := (List.range (y - f)).map (fun d : Nat => (⟨t, ((f + d : Nat) : Int)⟩ : Pt))
theorem strT_next (t : ByteArray) {f y : Nat} (h : f ≤ y) : strT t f (y + 1) = strT t f y ++ [⟨t, (y : Int)⟩] := by
  unfold strT
  rw [show y + 1 - f = (y - f) + 1 by omega, List.range_succ, List.map_append]
  simp only [List.map_cons, List.map_nil]
  rw [show f + (y - f) = y by omega]
theorem strT_len (t : ByteArray) (f y : Nat) : (strT t f y).length = y - f := by simp [strT]

theorem min_n (a b : Nat) : min (a : Int) (b : Int) = ((min a b : Nat) : Int) := by omega
theorem rng_nums {a Kn N : Nat} (haK : a < Kn) (hK8 : Kn ≤ 8) (hN : N ≤ 8) : ∃ qn rn b p1 p2 m1 m2 : Nat,
    IntKind.i64.wrap ((N : Int).tdiv (Kn : Int)) = (qn : Int) ∧ IntKind.i64.wrap ((N : Int).tmod (Kn : Int)) = (rn : Int) ∧ (N : Int) / (Kn : Int) = (qn : Int) ∧ (N : Int) % (Kn : Int) = (rn : Int) ∧ ((Kn : Int) == 0) = false ∧ (Kn : Int) ≠ 0 ∧
    wrap64 ((a : Int) + 1) = (b : Int) ∧ wrap64 ((a : Int) * (qn : Int)) = (p1 : Int) ∧ wrap64 (((a : Int) + 1) * (qn : Int)) = (p2 : Int) ∧ min (a : Int) (rn : Int) = (m1 : Int) ∧ min ((a : Int) + 1) (rn : Int) = (m2 : Int) ∧
    wrap64 ((p1 : Int) + (m1 : Int)) = ((p1 + m1 : Nat) : Int) ∧ wrap64 ((p2 : Int) + (m2 : Int)) = ((p2 + m2 : Nat) : Int) ∧ wrap64 (qn : Int) = (qn : Int) ∧ wrap64 (rn : Int) = (rn : Int) ∧ fromR Kn N a = p1 + m1 ∧ fromR Kn N (a + 1) = p2 + m2 := by
  have hK0 : 0 < Kn := by omega
  have hN6 : N ≤ 1000000 := by omega
  have hq8 : N / Kn ≤ 8 := Nat.le_trans (Nat.div_le_self N Kn) hN
  have hr8 : N % Kn ≤ 8 := Nat.le_trans (Nat.mod_le N Kn) hN
  have h1 : a * (N / Kn) ≤ 72 := Nat.mul_le_mul (show a ≤ 9 by omega) hq8
  have h2 : (a + 1) * (N / Kn) ≤ 72 := Nat.mul_le_mul (show a + 1 ≤ 9 by omega) hq8
  have h3 : min a (N % Kn) ≤ 8 := Nat.le_trans (Nat.min_le_right _ _) hr8
  have h4 : min (a + 1) (N % Kn) ≤ 8 := Nat.le_trans (Nat.min_le_right _ _) hr8
  refine ⟨N / Kn, N % Kn, a + 1, a * (N / Kn), (a + 1) * (N / Kn), min a (N % Kn), min (a + 1) (N % Kn), tdiv_k N Kn _ rfl hN6, tmod_k N Kn _ rfl hN6, ediv_n N Kn _ rfl, emod_n N Kn _ rfl, nz hK0, nz' hK0, ?_, ?_, ?_, ?_, ?_, ?_, ?_, ?_, ?_, rfl, rfl⟩
  · exact wrap_n (a + 1) (by omega)
  · rw [← Int.natCast_mul]; exact wrap_n _ (Nat.le_trans h1 (by decide))
  · show wrap64 (((a + 1 : Nat) : Int) * _) = _
    rw [← Int.natCast_mul]; exact wrap_n _ (Nat.le_trans h2 (by decide))
  · exact min_n _ _
  · exact min_n (a + 1) _
  · exact wrap_n _ (Nat.le_trans (Nat.add_le_add h1 h3) (by decide))
  · exact wrap_n _ (Nat.le_trans (Nat.add_le_add h2 h4) (by decide))
  · exact wrap_n _ (Nat.le_trans hq8 (by decide))
  · exact wrap_n _ (Nat.le_trans hr8 (by decide))

set_option maxRecDepth 100000 in
set_option maxHeartbeats 16000000 in
theorem rrange_ok (w : World) (A Am : Option Addr) (n c nm cm : Nat) (l : List Pt) (ms : List Mb) (hL : Hid (IsL w w.heap.size A n c l)) (hM : Hid (IsM w w.heap.size Am nm cm ms)) (HX : Hid (chkE l ms 0)) :
    Calls Try.prog 6 #[.slice A n c, .slice Am nm cm] w fun e w' => ∃ A' c', e = .returned (.tuple #[.slice A' nm c', .int .i64 0]) ∧ ReadsL w' w.heap.size w'.heap.size A' (rangeL l ms) ∧ Below w.heap.size w w' := by
  obtain ⟨hG, hm8, -⟩ := chk_ok HX.out
  have hn8 := hG.len
  have HG := Lib.hid hG
  rw [hM.out.len] at hm8
  rw [hL.out.len] at hn8
  have HML := Lib.hid hM.out.len
  have HLL := Lib.hid hL.out.len
  have H64 : Hid (∀ i, i < nm → (rngL l ms i).length ≤ 64) := Lib.hid (fun i hi => range_64 HX.out (by rw [rangeL_eq]; exact List.mem_map.2 ⟨i, List.mem_range.2 (by rw [hM.out.len]; exact hi), rfl⟩))
  obtain ⟨i0, hi0, hz0, hz1, hz2⟩ := info_parts ptInfo
  obtain ⟨i1, hi1, hy0, hy1, hy2⟩ := info_parts slInfo
  clear hG
  go_enter Try.func6, Try.ntmps6
  go_wp2_with (go_at_call 9; refine (rcheck_is w A Am n c nm cm l ms 0 hL hM HX).mono ?_; rintro e w1 ⟨rfl, hb1⟩; have HB1 := Lib.hid hb1; clear hb1)
  have HI0 : Hid (Lists (w1.alloc (.cells #[] 36)) w.heap.size (.slice (some ⟨w1.heap.size, 0, none⟩) 0 0) []) := Lib.hid ⟨World.ownsRow_made (size := 1) w1 #[] 0 HB1.out.size (by unfold maxLen; omega) rfl, (fun s hs => by cases hs), List.Pairwise.nil⟩
  have HBA : Hid (Below w.heap.size w (w1.alloc (.cells #[] 36))) := Lib.hid (HB1.out.alloc HB1.out.size _)
  go_loopw [7, 8] (fun v s wr => ∃ i : Nat, i ≤ nm ∧ s = .int .i64 i ∧ (∃ (A' : Option Addr) (c' : Nat) (sl : List Sl), v = .slice A' i c' ∧ Hid (Lists wr w.heap.size (.slice A' i c') sl) ∧ Hid (sl.map (·.x) = (List.range i).map (rngL l ms))) ∧ Hid (Below w.heap.size w wr)) (fun _ s _ => nm - (intOf s).toNat)
  case atStart => exact ⟨0, by omega, rfl, ⟨_, _, [], rfl, HI0, Lib.hid rfl⟩, HBA⟩
  case round =>
    obtain ⟨i, hi, rfl, ⟨A', c', sl, rfl, HI, HSL⟩, HB⟩ := hrel
    by_cases hlt : i < nm
    · have HLN : Hid (sl.length = i) := Lib.hid (by have := congrArg List.length HSL.out; simpa using this)
      have HAP : Hid (∀ s ∈ sl, ∀ k ∈ bk s.A, k < wr.heap.size) := Lib.hid (fun s hs k hk => own_lt (HI.out.inn s hs) k hk)
      have HO1 : Hid ((wr.alloc (.cells #[] 27)).ownsRow wr.heap.size 27 2 (.slice (some ⟨wr.heap.size, 0, none⟩) 0 0) 0 []) := Lib.hid (World.ownsRow_made (size := 2) wr #[] 0 (Nat.le_refl _) (by unfold maxLen; omega) rfl)
      have HB6 : Hid (Below wr.heap.size wr (wr.alloc (.cells #[] 27))) := Lib.hid (one_box' _)
      have b0 : (0 : Int) ≤ (i : Int) := by omega
      have b1 : (i : Int) < (nm : Int) := by omega
      go_wp2_with fail
      obtain ⟨wi, hwi⟩ : ∃ wi, wi = wr := ⟨_, rfl⟩
      rw [← hwi] at HI HB HAP HO1 HB6 ⊢
      clear hwi
      go_loopw [9, 10] (fun v s wr => ∃ j : Nat, j ≤ n ∧ s = .int .i64 j ∧ (∃ (A2 : Option Addr) (q c2 : Nat), v = .slice A2 q c2 ∧ q ≤ 64 ∧ Hid ((rngL (l.take j) ms i).length = q) ∧ Hid (wr.ownsRow wi.heap.size 27 2 (.slice A2 q c2) q (rowP (rngL (l.take j) ms i)))) ∧ Hid (Below wi.heap.size wi wr)) (fun _ s _ => n - (intOf s).toNat)
      case atStart => exact ⟨0, by omega, rfl, ⟨_, 0, 0, rfl, by omega, Lib.hid rfl, HO1⟩, HB6⟩
      case round =>
        obtain ⟨j, hj, rfl, ⟨A2, q, c2, rfl, hq64, HQ, HO⟩, HBJ⟩ := hrel
        by_cases hltj : j < n
        · have hw2 : Below w.heap.size w wr := HB.out.trans (HBJ.out.mono HB.out.size)
          obtain ⟨gl, hAl, hgl, hcl⟩ := hL.out.rd (by rw [HLL.out]; omega)
          obtain ⟨⟨xt, N0⟩, hs⟩ : ∃ s, l[j]? = some s := ⟨_, List.getElem?_eq_getElem (by rw [HLL.out]; omega)⟩
          have hfit := HG.out.fit _ (List.mem_of_getElem? hs)
          dsimp only at hfit
          obtain ⟨N, rfl⟩ : ∃ N : Nat, N0 = (N : Int) := ⟨N0.toNat, by omega⟩
          obtain ⟨d0, d1⟩ := hcl j _ hs
          dsimp only at d0 d1
          have d0 := (hw2.cell (p := ⟨gl, j * 2, none⟩) hgl).trans d0
          have d1 := (hw2.cell (p := ⟨gl, j * 2 + 1, none⟩) hgl).trans d1
          obtain ⟨gm, hAm, hgm, hcm⟩ := hM.out.rd (by rw [HML.out]; omega)
          obtain ⟨⟨nk, ts⟩, hms⟩ : ∃ s, ms[i]? = some s := ⟨_, List.getElem?_eq_getElem (by rw [HML.out]; omega)⟩
          obtain ⟨f0, At, ct, f1, hrt⟩ := hcm i _ hms
          obtain ⟨z0, z1, z2⟩ := hM.out.sz _ (List.mem_of_getElem? hms)
          dsimp only at f0 f1 hrt z1
          obtain ⟨tn, htn⟩ : ∃ tn, ts.length = tn := ⟨_, rfl⟩
          rw [htn] at f1 z1
          have f0 := (hw2.cell (p := ⟨gm, i * 2, none⟩) hgm).trans f0
          have f1 := (hw2.cell (p := ⟨gm, i * 2 + 1, none⟩) hgm).trans f1
          obtain ⟨v, hv⟩ : ∃ v, anyB ts xt = v := ⟨_, rfl⟩
          have HV := Lib.hid hv
          have HWA : Hid (wantAt ms i xt = v) := Lib.hid (by rw [wantAt_at hms]; exact hv)
          have HRT := Lib.hid (hrt.below hw2.drew)
          have HTN := Lib.hid htn
          have HZW : Hid (w.heap.size ≤ wr.heap.size) := Lib.hid hw2.size
          have HNX := Lib.hid (rngL_next ms i hs)
          have HW2 := Lib.hid hw2
          have HTS : Hid (xt.size ≤ 281474976710656) := Lib.hid (by omega)
          have HTK : Hid ((rngL (l.take (j + 1)) ms i).length ≤ 64) := Lib.hid (Nat.le_trans (by
            unfold rngL
            conv => rhs; rw [← List.take_append_drop (j + 1) l]
            rw [List.flatMap_append, List.length_append]
            omega) (H64.out i hlt))
          have c0 : (0 : Int) ≤ (j : Int) := by omega
          have c1 : (j : Int) < (n : Int) := by omega
          have hN8 : N ≤ 8 := by omega
          have hS4 := Lib.hid (show ((wr.cell? ⟨gl, j * 2, none⟩ = some (.string xt) ∧ wr.cell? ⟨gl, j * 2 + 1, none⟩ = some (.int .i64 (N : Int))) ∧ wr.cell? ⟨gm, i * 2, none⟩ = some (.string nk) ∧ wr.cell? ⟨gm, i * 2 + 1, none⟩ = some (.slice At tn ct)) ∧ Below wr.heap.size wr wr from ⟨⟨⟨d0, d1⟩, f0, f1⟩, Below.refl _ _⟩)
          subst hAl
          subst hAm
          clear hcl hs hcm hms hrt htn hv hw2 hfit
          go_wp2_with fail
          go_region_held3 (fun w' => ((w'.cell? ⟨gl, j * 2, none⟩ = some (.string xt) ∧ w'.cell? ⟨gl, j * 2 + 1, none⟩ = some (.int .i64 (N : Int))) ∧ w'.cell? ⟨gm, i * 2, none⟩ = some (.string nk) ∧ w'.cell? ⟨gm, i * 2 + 1, none⟩ = some (.slice At tn ct)) ∧ Below wr.heap.size wr w')
            (first | with_reducible assumption | exact keep4d hS4.out HB3.out | exact keep4d hS4.out (Below.refl _ _).drew)
            (first
              | (go_at_call 15; refine (rwants_is nk xt ts At ct tn w.heap.size v _ HRT HZW.out HTN z1 HV).mono ?_; rintro e w3 ⟨rfl, hb3⟩; have HB3 := Lib.hid ((Below.refl _ wr).drew.trans hb3)))
          rename_i hHeld
          have HH := Lib.hid hHeld.2
          have HS3 := Lib.hid hHeld.1
          have HO3 := Lib.hid (own_below HO.out hHeld.2)
          have HBI : Hid (Below wi.heap.size wi w3) := Lib.hid (HBJ.out.trans (hHeld.2.mono HBJ.out.size))
          clear hHeld d0 d1 f0 f1
          cases v with
          | false =>
            have HNN : Hid (rngL (l.take (j + 1)) ms i = rngL (l.take j) ms i) := Lib.hid (by
              rw [HNX.out]
              unfold rngT
              rw [if_neg (by rw [show wantAt ms i (⟨xt, (N : Int)⟩ : Pt).t = false from HWA.out]; simp), List.append_nil])
            go_wp2_with fail
            go_roundw
            case rel => exact ⟨j + 1, by omega, by go_num, ⟨A2, q, c2, rfl, hq64, by rw [HNN.out]; exact HQ, by rw [HNN.out]; exact HO3⟩, HBI⟩
            case measure => simp [intOf]; omega
          | true =>
            obtain ⟨Kn, hKn⟩ : ∃ Kn, (able ms xt).length = Kn := ⟨_, rfl⟩
            obtain ⟨a, ha⟩ : ∃ a, cntA ms xt i = a := ⟨_, rfl⟩
            have hab := able_at HWA.out
            rw [hKn, ha] at hab
            have haK : a < Kn := hab.2
            have hK8 : Kn ≤ 8 := by rw [← hKn]; unfold able; have := ableTo_len ms xt ms.length; rw [HML.out] at this ⊢; omega
            have HKK : Hid ((ableTo ms xt nm).length = Kn) := Lib.hid (by rw [← hKn]; unfold able; rw [HML.out])
            have HAA : Hid ((ableTo ms xt i).length = a) := Lib.hid ha
            have HST : Hid (rngL (l.take (j + 1)) ms i = rngL (l.take j) ms i ++ strT xt (fromR Kn N a) (fromR Kn N (a + 1))) := Lib.hid (by
              rw [HNX.out]
              unfold rngT
              rw [if_pos HWA.out]
              show _ ++ (List.range (fromR (able ms xt).length (N : Int).toNat (cntA ms xt i + 1) - fromR (able ms xt).length (N : Int).toNat (cntA ms xt i))).map _ = _
              rw [hKn, ha]
              rfl)
            have HIM3 : Hid (∀ W, Below wr.heap.size wr W → IsM W w.heap.size (some ⟨gm, 0, none⟩) nm cm ms) := Lib.hid (fun W hW => hM.out.below (HW2.out.trans (hW.mono HZW.out)))
            have HZ3 : Hid (w.heap.size ≤ w3.heap.size) := Lib.hid (Nat.le_trans HZW.out HH.out.size)
            clear hKn ha hab
            go_wp2_with fail
            refine wp_region_held_drew (S := fun w' => ((w'.cell? ⟨gl, j * 2, none⟩ = some (.string xt) ∧ w'.cell? ⟨gl, j * 2 + 1, none⟩ = some (.int .i64 (N : Int))) ∧ w'.cell? ⟨gm, i * 2, none⟩ = some (.string nk) ∧ w'.cell? ⟨gm, i * 2 + 1, none⟩ = some (.slice At tn ct)) ∧ Below wr.heap.size wr w') (by kernel_rfl) (keep4d ⟨HS3.out, HH.out⟩ (Below.refl _ _).drew) (fun hHeld => ?_)
            refine wpAnyH_take (i := 0) (oi := ?o1) (v := ?v1) ?a1 (by kernel_rfl) (by kernel_rfl) (by kernel_rfl) ?q1 (Or.inl ⟨?g1, ?y1⟩) (by assumption) ?r1; (case' a1 => (simp only [List.getElem?_toArray, List.getElem?_cons_zero]; rfl)); (case' q1 => (exact fun _ _ _ h => h)); (case' g1 => rfl); (case' y1 => (intro w hSw; (try dsimp only at hSw); go_simp; try with_reducible rfl)); (case' r1 => (try simp only [Act.put, List.setIfInBounds_toArray, List.set_cons_zero, List.set_cons_succ]))
            refine wpAnyH_take (i := 1) (oi := ?o2) (v := ?v2) ?a2 (by kernel_rfl) (by kernel_rfl) (by kernel_rfl) ?q2 (Or.inl ⟨?g2, ?y2⟩) (by assumption) ?r2; (case' a2 => (simp only [List.getElem?_toArray, List.getElem?_cons_zero, List.getElem?_cons_succ]; rfl)); (case' q2 => (exact fun _ _ _ h => h)); (case' g2 => rfl); (case' y2 => (intro w hSw; (try dsimp only at hSw); go_simp; try with_reducible rfl)); (case' r2 => (try simp only [Act.put, List.setIfInBounds_toArray, List.set_cons_zero, List.set_cons_succ]))
            refine wpAnyH_take (i := 2) (oi := ?o3) (v := ?v3) ?a3 (by kernel_rfl) (by kernel_rfl) (by kernel_rfl) ?q3 (Or.inl ⟨?g3, ?y3⟩) (by assumption) ?r3; (case' a3 => (simp only [List.getElem?_toArray, List.getElem?_cons_zero, List.getElem?_cons_succ]; rfl)); (case' q3 => (exact fun _ _ _ h => h)); (case' g3 => rfl); (case' y3 => (intro w hSw; (try dsimp only at hSw); go_simp; try with_reducible rfl)); (case' r3 => (try simp only [Act.put, List.setIfInBounds_toArray, List.set_cons_zero, List.set_cons_succ]))
            refine wpAnyH_take (i := 3) (oi := ?o4) (v := ?v4) ?a4 (by kernel_rfl) (by kernel_rfl) (by kernel_rfl) ?q4 (Or.inl ⟨?g4, ?y4⟩) (by assumption) ?r4; (case' a4 => (simp only [List.getElem?_toArray, List.getElem?_cons_zero, List.getElem?_cons_succ]; rfl)); (case' q4 => (exact fun _ _ _ h => h)); (case' g4 => rfl); (case' y4 => (intro w hSw; (try dsimp only at hSw); go_simp; try with_reducible rfl)); (case' r4 => (try simp only [Act.put, List.setIfInBounds_toArray, List.set_cons_zero, List.set_cons_succ]))
            refine wpAnyH_take (i := 4) (oi := ?o5) (v := ?v5) ?a5 (by kernel_rfl) (by kernel_rfl) (by kernel_rfl) ?q5 (Or.inl ⟨?g5, ?y5⟩) (by assumption) ?r5; (case' a5 => (simp only [List.getElem?_toArray, List.getElem?_cons_zero, List.getElem?_cons_succ]; rfl)); (case' q5 => (exact fun _ _ _ h => h)); (case' g5 => rfl); (case' y5 => (intro w hSw; (try dsimp only at hSw); go_simp; try with_reducible rfl)); (case' r5 => (try simp only [Act.put, List.setIfInBounds_toArray, List.set_cons_zero, List.set_cons_succ]))
            refine wpAnyH_take (i := 5) (oi := ?o6) (v := ?v6) ?a6 (by kernel_rfl) (by kernel_rfl) (by kernel_rfl) ?q6 (Or.inl ⟨?g6, ?y6⟩) (by assumption) ?r6; (case' a6 => (simp only [List.getElem?_toArray, List.getElem?_cons_zero, List.getElem?_cons_succ]; rfl)); (case' q6 => (exact fun _ _ _ h => h)); (case' g6 => rfl); (case' y6 => (intro w hSw; (try dsimp only at hSw); go_simp; try with_reducible rfl)); (case' r6 => (try simp only [Act.put, List.setIfInBounds_toArray, List.set_cons_zero, List.set_cons_succ]))
            refine wpAnyH_take (i := 6) (oi := ?o7) (v := ?v7) ?a7 (by kernel_rfl) (by kernel_rfl) (by kernel_rfl) ?q7 (Or.inl ⟨?g7, ?y7⟩) (by assumption) ?r7; (case' a7 => (simp only [List.getElem?_toArray, List.getElem?_cons_zero, List.getElem?_cons_succ]; rfl)); (case' q7 => (exact fun _ _ _ h => h)); (case' g7 => rfl); (case' y7 => (intro w hSw; (try dsimp only at hSw); go_simp; try with_reducible rfl)); (case' r7 => (try simp only [Act.put, List.setIfInBounds_toArray, List.set_cons_zero, List.set_cons_succ]))
            refine wpAnyH_take (i := 7) (oi := ?o8) (v := ?v8) ?a8 (by kernel_rfl) (by kernel_rfl) (by kernel_rfl) ?q8 (Or.inl ⟨?g8, ?y8⟩) (by assumption) ?r8; (case' a8 => (simp only [List.getElem?_toArray, List.getElem?_cons_zero, List.getElem?_cons_succ]; rfl)); (case' q8 => (exact fun _ _ _ h => h)); (case' g8 => rfl); (case' y8 => (intro w hSw; (try dsimp only at hSw); go_simp; try with_reducible rfl)); (case' r8 => (try simp only [Act.put, List.setIfInBounds_toArray, List.set_cons_zero, List.set_cons_succ]))
            refine wpAnyH_take (i := 9) (oi := ?o9) (v := ?v9) ?a9 (by kernel_rfl) (by kernel_rfl) (by kernel_rfl) ?q9 (Or.inl ⟨?g9, ?y9⟩) (by assumption) ?r9; (case' a9 => (simp only [List.getElem?_toArray, List.getElem?_cons_zero, List.getElem?_cons_succ]; rfl)); (case' q9 => (exact fun _ _ _ h => h)); (case' g9 => rfl); (case' y9 => (intro w hSw; (try dsimp only at hSw); go_simp; try with_reducible rfl)); (case' r9 => (try simp only [Act.put, List.setIfInBounds_toArray, List.set_cons_zero, List.set_cons_succ]))
            refine wpAnyH_take (i := 10) (oi := ?o10) (v := ?v10) ?a10 (by kernel_rfl) (by kernel_rfl) (by kernel_rfl) ?q10 (Or.inl ⟨?g10, ?y10⟩) (by assumption) ?r10; (case' a10 => (simp only [List.getElem?_toArray, List.getElem?_cons_zero, List.getElem?_cons_succ]; rfl)); (case' q10 => (exact fun _ _ _ h => h)); (case' g10 => rfl); (case' y10 => (intro w hSw; (try dsimp only at hSw); go_simp; try with_reducible rfl)); (case' r10 => (try simp only [Act.put, List.setIfInBounds_toArray, List.set_cons_zero, List.set_cons_succ]))
            refine wpAnyH_take (i := 11) (oi := ?o11) (v := ?v11) ?a11 (by kernel_rfl) (by kernel_rfl) (by kernel_rfl) ?q11 (Or.inl ⟨?g11, ?y11⟩) (by assumption) ?r11; (case' a11 => (simp only [List.getElem?_toArray, List.getElem?_cons_zero, List.getElem?_cons_succ]; rfl)); (case' q11 => (exact fun _ _ _ h => h)); (case' g11 => rfl); (case' y11 => (intro w hSw; (try dsimp only at hSw); go_simp; try with_reducible rfl)); (case' r11 => (try simp only [Act.put, List.setIfInBounds_toArray, List.set_cons_zero, List.set_cons_succ]))
            refine wpAnyH_take (i := 12) (oi := ?o12) (v := ?v12) ?a12 (by kernel_rfl) (by kernel_rfl) (by kernel_rfl) ?q12 (Or.inl ⟨?g12, ?y12⟩) (by assumption) ?r12; (case' a12 => (simp only [List.getElem?_toArray, List.getElem?_cons_zero, List.getElem?_cons_succ]; rfl)); (case' q12 => (exact fun _ _ _ h => h)); (case' g12 => rfl); (case' y12 => (intro w hSw; (try dsimp only at hSw); go_simp; try with_reducible rfl)); (case' r12 => (try simp only [Act.put, List.setIfInBounds_toArray, List.set_cons_zero, List.set_cons_succ]))
            refine wpAnyH_take (i := 13) (oi := ?o13) (v := ?v13) ?a13 (by kernel_rfl) (by kernel_rfl) (by kernel_rfl) ?q13 (Or.inl ⟨?g13, ?y13⟩) (by assumption) ?r13; (case' a13 => (simp only [List.getElem?_toArray, List.getElem?_cons_zero, List.getElem?_cons_succ]; rfl)); (case' q13 => (exact fun _ _ _ h => h)); (case' g13 => rfl); (case' y13 => (intro w hSw; (try dsimp only at hSw); go_simp; try with_reducible rfl)); (case' r13 => (try simp only [Act.put, List.setIfInBounds_toArray, List.set_cons_zero, List.set_cons_succ]))
            refine wpAnyH_take (i := 14) (oi := ?o14) (v := ?v14) ?a14 (by kernel_rfl) (by kernel_rfl) (by kernel_rfl) ?q14 (Or.inl ⟨?g14, ?y14⟩) (by assumption) ?r14; (case' a14 => (simp only [List.getElem?_toArray, List.getElem?_cons_zero, List.getElem?_cons_succ]; rfl)); (case' q14 => (exact fun _ _ _ h => h)); (case' g14 => rfl); (case' y14 => (intro w hSw; (try dsimp only at hSw); go_simp; try with_reducible rfl)); (case' r14 => (try simp only [Act.put, List.setIfInBounds_toArray, List.set_cons_zero, List.set_cons_succ]))
            refine wpAnyH_take (i := 15) (oi := ?o15) (v := ?v15) ?a15 (by kernel_rfl) (by kernel_rfl) (by kernel_rfl) ?q15 (Or.inl ⟨?g15, ?y15⟩) (by assumption) ?r15; (case' a15 => (simp only [List.getElem?_toArray, List.getElem?_cons_zero, List.getElem?_cons_succ]; rfl)); (case' q15 => (exact fun _ _ _ h => h)); (case' g15 => rfl); (case' y15 => (intro w hSw; (try dsimp only at hSw); go_simp; try with_reducible rfl)); (case' r15 => (try simp only [Act.put, List.setIfInBounds_toArray, List.set_cons_zero, List.set_cons_succ]))
            refine wpAnyH_take (i := 17) (oi := ?o16) (v := ?v16) ?a16 (by kernel_rfl) (by kernel_rfl) (by kernel_rfl) ?q16 (Or.inl ⟨?g16, ?y16⟩) (by assumption) ?r16; (case' a16 => (simp only [List.getElem?_toArray, List.getElem?_cons_zero, List.getElem?_cons_succ]; rfl)); (case' q16 => (exact fun _ _ _ h => h)); (case' g16 => rfl); (case' y16 => (intro w hSw; (try dsimp only at hSw); go_simp; try with_reducible rfl)); (case' r16 => (try simp only [Act.put, List.setIfInBounds_toArray, List.set_cons_zero, List.set_cons_succ]))
            refine wpAnyH_take (i := 18) (oi := ?o17) (v := ?v17) ?a17 (by kernel_rfl) (by kernel_rfl) (by kernel_rfl) ?q17 (Or.inl ⟨?g17, ?y17⟩) (by assumption) ?r17; (case' a17 => (simp only [List.getElem?_toArray, List.getElem?_cons_zero, List.getElem?_cons_succ]; rfl)); (case' q17 => (exact fun _ _ _ h => h)); (case' g17 => rfl); (case' y17 => (intro w hSw; (try dsimp only at hSw); go_simp; try with_reducible rfl)); (case' r17 => (try simp only [Act.put, List.setIfInBounds_toArray, List.set_cons_zero, List.set_cons_succ]))
            refine wpAnyH_take (i := 19) (oi := ?o18) (v := ?v18) ?a18 (by kernel_rfl) (by kernel_rfl) (by kernel_rfl) ?q18 (Or.inl ⟨?g18, ?y18⟩) (by assumption) ?r18; (case' a18 => (simp only [List.getElem?_toArray, List.getElem?_cons_zero, List.getElem?_cons_succ]; rfl)); (case' q18 => (exact fun _ _ _ h => h)); (case' g18 => rfl); (case' y18 => (intro w hSw; (try dsimp only at hSw); go_simp; try with_reducible rfl)); (case' r18 => (try simp only [Act.put, List.setIfInBounds_toArray, List.set_cons_zero, List.set_cons_succ]))
            refine wpAnyH_take (i := 20) (oi := ?o19) (v := ?v19) ?a19 (by kernel_rfl) (by kernel_rfl) (by kernel_rfl) ?q19 (Or.inl ⟨?g19, ?y19⟩) (by assumption) ?r19; (case' a19 => (simp only [List.getElem?_toArray, List.getElem?_cons_zero, List.getElem?_cons_succ]; rfl)); (case' q19 => (exact fun _ _ _ h => h)); (case' g19 => rfl); (case' y19 => (intro w hSw; (try dsimp only at hSw); go_simp; try with_reducible rfl)); (case' r19 => (try simp only [Act.put, List.setIfInBounds_toArray, List.set_cons_zero, List.set_cons_succ]))
            refine wpAnyH_take (i := 21) (oi := ?o20) (v := ?v20) ?a20 (by kernel_rfl) (by kernel_rfl) (by kernel_rfl) ?q20 (Or.inl ⟨?g20, ?y20⟩) (by assumption) ?r20; (case' a20 => (simp only [List.getElem?_toArray, List.getElem?_cons_zero, List.getElem?_cons_succ]; rfl)); (case' q20 => (exact fun _ _ _ h => h)); (case' g20 => rfl); (case' y20 => (intro w hSw; (try dsimp only at hSw); go_simp; try with_reducible rfl)); (case' r20 => (try simp only [Act.put, List.setIfInBounds_toArray, List.set_cons_zero, List.set_cons_succ]))
            refine wpAnyH_ready (rs := [8]) (by kernel_rfl) (by simp) ?_
            refine AllReadyH.cons (o := ?o21) ?a21 (fun K hK => ?s21) ?m21; (case' a21 => (simp only [List.getElem?_toArray, List.getElem?_cons_zero, List.getElem?_cons_succ]; rfl))
            case s21 =>
              go_simp
              go_at_call 19
              refine (ahead_is (some ⟨gm, 0, none⟩) cm nm w.heap.size nm Kn ms xt _ (Lib.hid (HIM3.out _ hHeld.2)) (Nat.le_trans HZW.out hHeld.2.size) (Nat.le_refl _) HKK).mono ?_
              rintro e wn ⟨rfl, hbn⟩
              go_wp2_with fail
              refine hK.out _ _ (keep4d hHeld hbn) (fun hHeld => ?_)
              clear hK K
              (try simp only [Act.put, List.setIfInBounds_toArray, List.set_cons_zero, List.set_cons_succ])
              refine wpAnyH_ready (rs := [16]) (by kernel_rfl) (by simp) ?_
              refine AllReadyH.cons (o := ?o22) ?a22 (fun K hK => ?s22) ?m22; (case' a22 => (simp only [List.getElem?_toArray, List.getElem?_cons_zero, List.getElem?_cons_succ]; rfl))
              case s22 =>
                go_simp
                go_at_call 19
                refine (ahead_is (some ⟨gm, 0, none⟩) cm nm w.heap.size i a ms xt _ (Lib.hid (HIM3.out _ hHeld.2)) (Nat.le_trans HZW.out hHeld.2.size) (by omega) HAA).mono ?_
                rintro e wn ⟨rfl, hbn⟩
                go_wp2_with fail
                refine hK.out _ _ (keep4d hHeld hbn) (fun hHeld => ?_)
                clear hK K
                (try simp only [Act.put, List.setIfInBounds_toArray, List.set_cons_zero, List.set_cons_succ])
                refine wpAnyH_take (i := 22) (oi := ?o23) (v := ?v23) ?a23 (by kernel_rfl) (by kernel_rfl) (by kernel_rfl) ?q23 (Or.inl ⟨?g23, ?y23⟩) (by assumption) ?r23; (case' a23 => (simp only [List.getElem?_toArray, List.getElem?_cons_zero, List.getElem?_cons_succ]; rfl)); (case' q23 => (exact fun _ _ _ h => h)); (case' g23 => rfl); (case' y23 => (intro w hSw; (try dsimp only at hSw); go_simp; try with_reducible rfl)); (case' r23 => (try simp only [Act.put, List.setIfInBounds_toArray, List.set_cons_zero, List.set_cons_succ]))
                refine wpAnyH_take (i := 23) (oi := ?o24) (v := ?v24) ?a24 (by kernel_rfl) (by kernel_rfl) (by kernel_rfl) ?q24 (Or.inl ⟨?g24, ?y24⟩) (by assumption) ?r24; (case' a24 => (simp only [List.getElem?_toArray, List.getElem?_cons_zero, List.getElem?_cons_succ]; rfl)); (case' q24 => (exact fun _ _ _ h => h)); (case' g24 => rfl); (case' y24 => (intro w hSw; (try dsimp only at hSw); go_simp; try with_reducible rfl)); (case' r24 => (try simp only [Act.put, List.setIfInBounds_toArray, List.set_cons_zero, List.set_cons_succ]))
                refine wpAnyH_take (i := 24) (oi := ?o25) (v := ?v25) ?a25 (by kernel_rfl) (by kernel_rfl) (by kernel_rfl) ?q25 (Or.inl ⟨?g25, ?y25⟩) (by assumption) ?r25; (case' a25 => (simp only [List.getElem?_toArray, List.getElem?_cons_zero, List.getElem?_cons_succ]; rfl)); (case' q25 => (exact fun _ _ _ h => h)); (case' g25 => rfl); (case' y25 => (intro w hSw; (try dsimp only at hSw); go_simp; try with_reducible rfl)); (case' r25 => (try simp only [Act.put, List.setIfInBounds_toArray, List.set_cons_zero, List.set_cons_succ]))
                refine wpAnyH_done (by kernel_rfl) ?_ _
                have HS5 := Lib.hid hHeld.1
                have HB5 := Lib.hid hHeld.2
                clear hHeld
                obtain ⟨qn, rn, b, p1, p2, m1, m2, a1, a2, a1', a2', z1, z1', a0, a4, a5, a6, a7, a8, a9, aq, ar, hf1, hf2⟩ := rng_nums haK hK8 hN8
                have HF1 := Lib.hid hf1
                have HF2 := Lib.hid hf2
                have HAQ := Lib.hid aq
                have HAR := Lib.hid ar
                have HA5 := Lib.hid a5
                have HA7 := Lib.hid a7
                have HA9 := Lib.hid a9
                have HA0 := Lib.hid a0
                clear hf1 hf2 aq ar a5 a7 a9 a0
                go_wp2_with fail
                go_quiet (fail)
                simp only [HAQ.out, a4, a8]
                clear a4 a6 a8
                have a0 := HA0.out
                have a5 := HA5.out
                have a7 := HA7.out
                have a9 := HA9.out
                go_wp2_with fail
                go_quiet (fail)
                simp only [HAQ.out, a5, a9]
                clear a0 a1 a2 a1' a2' a5 a7 a9 z1 z1'
                obtain ⟨x1, hx1⟩ : ∃ x, p1 + m1 = x := ⟨_, rfl⟩
                obtain ⟨x2, hx2⟩ : ∃ x, p2 + m2 = x := ⟨_, rfl⟩
                have HF1' : Hid (fromR Kn N a = x1) := Lib.hid (HF1.out.trans hx1)
                have HF2' : Hid (fromR Kn N (a + 1) = x2) := Lib.hid (HF2.out.trans hx2)
                rw [hx1, hx2]
                have hx12 : x1 ≤ x2 := by rw [← HF1'.out, ← HF2'.out]; exact from_mono Kn N (Nat.le_succ a)
                have hx2N : x2 ≤ 8 := by rw [← HF2'.out]; exact Nat.le_trans (Nat.le_trans (from_mono Kn N haK) (Nat.le_of_eq (from_all N (Nat.lt_of_le_of_lt (Nat.zero_le a) haK)))) hN8
                clear hx1 hx2
                have HSX : Hid (rngL (l.take (j + 1)) ms i = rngL (l.take j) ms i ++ strT xt x1 x2) := Lib.hid (by rw [HST.out, HF1'.out, HF2'.out])
                have HOn := Lib.hid (own_below HO.out HB5.out)
                have HBN : Hid (Below wi.heap.size wi wn) := Lib.hid (HBJ.out.trans (HB5.out.mono HBJ.out.size))
                have hglw : gl < wi.heap.size := Nat.lt_of_lt_of_le hgl HB.out.size
                have HDI : Hid (wi.cell? ⟨gl, j * 2, none⟩ = some (.string xt)) := Lib.hid ((HBN.out.cell (p := ⟨gl, j * 2, none⟩) hglw).symm.trans HS5.out.1.1)
                have hgen : ∀ p q, Below wn.heap.size wn ((wn.drewN p).drewN q) := fun p q => drewN_below (drewN_below (Below.refl _ _) p) q
                have HGEN := Lib.hid hgen
                have HX12 := Lib.hid hx12
                clear hgen
                go_wp2_with fail
                go_loopw [9, 16] (fun v s wr => ∃ (y : Nat) (A3 : Option Addr) (q3 c3 : Nat), x1 ≤ y ∧ y ≤ x2 ∧ s = .int .i64 y ∧ v = .slice A3 q3 c3 ∧ q3 = q + (y - x1) ∧ Hid (wr.ownsRow wi.heap.size 27 2 (.slice A3 q3 c3) q3 (rowP (rngL (l.take j) ms i ++ strT xt x1 y))) ∧ Hid (Below wi.heap.size wi wr)) (fun _ s _ => x2 - (intOf s).toNat)
                case atStart => exact ⟨x1, A2, q, c2, Nat.le_refl _, hx12, rfl, rfl, by omega, Lib.hid (by rw [show strT xt x1 x1 = [] by simp [strT], List.append_nil]; exact own_below HOn.out (HGEN.out _ _)), Lib.hid (HBN.out.trans ((HGEN.out _ _).mono HBN.out.size))⟩
                case round =>
                  obtain ⟨y, A3, q3, c3, hy1', hy2', rfl, rfl, hq3, HOY, HBY⟩ := hrel
                  by_cases hlty : y < x2
                  · have d0 := (HBY.out.cell (p := ⟨gl, j * 2, none⟩) hglw).trans HDI.out
                    have e0 : (0 : Int) ≤ (y : Int) := by omega
                    have e1 : (y : Int) < (x2 : Int) := by omega
                    have hq372 : q3 ≤ 72 := by omega
                    have HQ3 := Lib.hid hq3
                    clear hq3
                    go_wp2_with (at_builtin; refine wpList_append_own _ rfl _ _ 36 rfl wi.heap.size 27 i0 _ 2 24 Try.underlying36 hi0 hz0 hz1 hz2 rfl (by decide) _ _ _ rfl (HOY.out.alloc _) ⟨wr.heap.size, 0, none⟩ 1 1 [.string xt, .int .i64 y] rfl rfl (World.news_of_block (cs := #[.string xt, .int .i64 y]) (t := 27) (fr := (0, 0)) (heap_alloc_new wr _)) (by simp [Value.oneCell']) (by unfold maxLen; omega) (by omega) (by have := HBY.out.size; simp; omega) ?_; intro v' w9 hown' hgrow _)
                    obtain ⟨A4, c4, rfl⟩ := L9.own_len hown'
                    have HO9 : Hid (w9.ownsRow wi.heap.size 27 2 (.slice A4 (q3 + 1) c4) (q3 + 1) (rowP (rngL (l.take j) ms i ++ strT xt x1 (y + 1)))) := Lib.hid (by rw [strT_next xt hy1', ← List.append_assoc, rowP_app]; exact hown')
                    have HB9 : Hid (Below wi.heap.size wi w9) := Lib.hid ((HBY.out.alloc HBY.out.size _).grown hgrow (by have := HBY.out.size; simp; omega) (fun j e => (HOY.out.lt j e).1))
                    clear hown' hgrow
                    go_roundw
                    case rel => exact ⟨y + 1, A4, q3 + 1, c4, by omega, by omega, by go_num, rfl, by have := HQ3.out; omega, HO9, HB9⟩
                    case measure => (simp [intOf]; try omega)
                  · obtain rfl : y = x2 := by omega
                    have hlen : (rngL (l.take (j + 1)) ms i).length = q3 := by rw [HSX.out, List.length_append, HQ.out, strT_len]; omega
                    have HLEN := Lib.hid hlen
                    have hq3' : q3 ≤ 64 := by rw [← hlen]; exact HTK.out
                    have HO9 : Hid (wr.ownsRow wi.heap.size 27 2 (.slice A3 q3 c3) q3 (rowP (rngL (l.take (j + 1)) ms i))) := Lib.hid (by rw [HSX.out]; exact HOY.out)
                    clear hlen hq3
                    go_wp2_with fail
                    go_roundw
                    case rel => exact ⟨j + 1, by omega, by go_num, ⟨A3, q3, c3, rfl, hq3', HLEN, HO9⟩, HBY⟩
                    case measure => (simp [intOf]; try omega)
              exact AllReadyH.nil
            exact AllReadyH.nil
        · obtain rfl : j = n := by omega
          have hall : l.take j = l := List.take_of_length_le (by rw [HLL.out]; exact Nat.le_refl _)
          have HQ' : Hid ((rngL l ms i).length = q) := Lib.hid (by have := HQ.out; rwa [hall] at this)
          have HO' : Hid (wr.ownsRow wi.heap.size 27 2 (.slice A2 q c2) q (rowP (rngL l ms i))) := Lib.hid (by have := HO.out; rwa [hall] at this)
          have HI9 := Lib.hid (HI.out.below HBJ.out)
          have HOT : Hid (wr.ownsRow w.heap.size 36 1 (.slice A' i c') i (sl.map Sl.v)) := Lib.hid (by have := HI9.out.out; rwa [HLN.out] at this)
          have HBW : Hid (Below w.heap.size w wr) := Lib.hid (HB.out.trans (HBJ.out.mono HB.out.size))
          have HAP9 : Hid (∀ s ∈ sl, ∀ k ∈ bk s.A, k < wi.heap.size) := HAP
          clear hall
          go_wp2_with (at_builtin; refine wpList_append_own _ rfl _ _ 29 rfl w.heap.size 36 i1 _ 1 24 Try.underlying29 hi1 hy0 hy1 hy2 rfl (by decide) _ _ _ rfl (HOT.out.alloc _) ⟨wr.heap.size, 0, none⟩ 1 1 [.slice A2 q c2] rfl rfl (World.news_of_block (cs := #[.slice A2 q c2]) (t := 36) (fr := (0, 0)) (heap_alloc_new wr _)) (by simp [Value.oneCell']) (by unfold maxLen; omega) (by omega) (by have := HBW.out.size; simp; omega) ?_; intro v' w9 hown' hgrow _)
          obtain ⟨A5, c5, rfl⟩ := L9.own_len hown'
          have HL9 : Hid (Lists w9 w.heap.size (.slice A5 (i + 1) c5) (sl ++ [⟨A2, c2, rngL l ms i⟩])) := Lib.hid (Lists.push HI9.out HO'.out HB.out.size HQ'.out HAP9.out (by rw [HLN.out]; exact hown') hgrow)
          have HS9 : Hid ((sl ++ [(⟨A2, c2, rngL l ms i⟩ : Sl)]).map (·.x) = (List.range (i + 1)).map (rngL l ms)) := Lib.hid (by rw [List.map_append, HSL.out, List.range_succ, List.map_append]; rfl)
          have HB9 : Hid (Below w.heap.size w w9) := Lib.hid ((HBW.out.alloc HBW.out.size _).grown hgrow (by have := HBW.out.size; simp; omega) (fun j e => (HOT.out.lt j e).1))
          clear hown' hgrow
          go_roundw
          case rel => exact ⟨i + 1, by omega, by go_num, ⟨A5, c5, _, rfl, HL9, HS9⟩, HB9⟩
          case measure => (simp [intOf]; try omega)
    · obtain rfl : i = nm := by omega
      have HRD : Hid (ReadsL wr w.heap.size wr.heap.size A' (rangeL l ms)) := Lib.hid (HI.out.reads (by rw [HSL.out, rangeL_eq, hM.out.len]))
      go_wp2_with fail
      go_ret2
      exact ⟨A', c', rfl, HRD.out, HB.out⟩
end Go.Proofs.Ythongbobopampaa.L10
