/-
  The document's own: Load.
-/
import Derived.Test.YtcpfihagcmadcaaOfSrc
import Derived.OrdersHeld
import Derived.Deep.RegionHeld
namespace Go.Proofs.Ytcpfihagcmadcaa.L12
open Go.RowKit
open Go.Maps
open L3 L4

/-- what the document's Load tells -/
def RLoadP (w : World) (x : Int) (e : Ending) (w' : World) : Prop :=
  Below w.heap.size w w' ∧ ((x ≠ 0 ∧ e = .returned (.tuple #[.pointer none, .int .i64 x])) ∨ (x = 0 ∧ ∃ k, e = .returned (.tuple #[.pointer (some ⟨k, 0, none⟩), .int .i64 0])))
set_option maxRecDepth 100000 in
set_option maxHeartbeats 8000000 in
theorem rload_is (w : World) (A : Option Addr) (n cap : Nat) (l : List Mr) (x : Int) (hE : Hid (IsM w A n l)) (hnil : Hid (A = none → n = 0 ∧ cap = 0)) (HX : Hid (loadE l x)) :
    Calls Try.prog 22 #[.slice A n cap] w (RLoadP w x) := by
  have hn1 := hE.out.n1
  obtain ⟨i0, hi0, hz0, hz1, hz2⟩ := info_parts markInfo
  go_enter Try.func22, Try.ntmps22
  go_wp2_with fail
  go_loopw [4] (fun i wr => ∃ k : Nat, k ≤ n ∧ i = .int .i64 k ∧ Hid (OkTo l k) ∧ Hid (Below w.heap.size w wr)) (fun i _ => n - (intOf i).toNat)
  case atStart => exact ⟨0, Nat.zero_le _, rfl, Lib.hid (fun i hi => absurd hi (by omega)), Lib.hid (Below.refl _ _)⟩
  case round =>
    obtain ⟨k, hk, rfl, HOK, HBJ⟩ := hrel
    by_cases hlt : k < n
    · obtain ⟨ga, oo, rfl, hga, hcells⟩ := hE.out.rd (by rw [hE.out.len]; omega)
      obtain ⟨⟨gr, t, p, o⟩, hst⟩ : ∃ st, l[k]? = some st := ⟨l[k]'(by rw [hE.out.len]; exact hlt), List.getElem?_eq_getElem _⟩
      obtain ⟨c0, c1, c2, c3⟩ := hcells k _ hst
      have d0 := cell_at HBJ.out c0
      have d1 := cell_at HBJ.out c1
      have d2 := cell_at HBJ.out c2
      have d3 := cell_at HBJ.out c3
      dsimp only at d0 d1 d2 d3
      obtain ⟨z0, z1, z2, z3⟩ := hE.out.sz _ (List.mem_of_getElem? hst)
      dsimp only at z0 z1 z2 z3
      have HZ0 : Hid (gr.size ≤ maxLen) := Lib.hid (by unfold maxLen; omega)
      have HZ1 : Hid (t.size ≤ maxLen) := Lib.hid (by unfold maxLen; omega)
      have k0 : (0 : Int) ≤ (k : Int) := by omega
      have kl : (k : Int) < (n : Int) := by omega
      have hk1 : k ≤ 1000000 := by omega
      have HST := Lib.hid hst
      have HKN : Hid (k < l.length) := Lib.hid (by rw [hE.out.len]; exact hlt)
      have HGT := Lib.hid hcells
      clear hst hcells c0 c1 c2 c3 z2 z3
      obtain ⟨v, hv⟩ : ∃ v, mayR ⟨gr, t, p, o⟩ = v := ⟨_, rfl⟩
      have HV := Lib.hid hv
      have MAY : ∀ W', Calls Try.prog 25 #[.agg #[.string gr, .string t, .int .i64 p, .int .i64 o]] W' fun e w' => e = .returned (.bool v) ∧ Below W'.heap.size W' w' := fun W' => rmay_is gr t p o v W' HZ0 HZ1 HV
      have BB := Lib.hid (And.intro d0 (And.intro d1 (And.intro d2 d3)))
      go_upto_region 4 with (fail)
      clear d0 d1 d2 d3
      cases v with
      | false =>
        have HX1 : Hid (x = 1) := Lib.hid (load_no HX.out HKN.out (fun q => by have := (q _ HST.out).1; rw [hv] at this; cases this))
        clear hv
        refine wp_region_held_drew (S := fun w' => (w'.cell? ⟨ga, oo + k * 4, none⟩ = some (.string gr) ∧ w'.cell? ⟨ga, oo + k * 4 + 1, none⟩ = some (.string t) ∧ w'.cell? ⟨ga, oo + k * 4 + 2, none⟩ = some (.int .i64 p) ∧ w'.cell? ⟨ga, oo + k * 4 + 3, none⟩ = some (.int .i64 o)) ∧ Below w.heap.size w w') (by kernel_rfl) (keep4 ⟨BB.out, HBJ.out⟩ (Below.refl _ _).drew) (fun hHeld => ?_)
        refine wpAnyH_take (i := 0) (oi := ?o1) (v := ?v1) ?a1 (by kernel_rfl) (by kernel_rfl) (by kernel_rfl) ?q1 (Or.inl ⟨?g1, ?y1⟩) (by assumption) ?r1; (case' a1 => (simp only [List.getElem?_toArray, List.getElem?_cons_zero]; rfl)); (case' q1 => (exact fun _ _ _ h => h)); (case' g1 => rfl); (case' y1 => (intro w hSw; (try dsimp only at hSw); go_simp; try with_reducible rfl)); (case' r1 => (try simp only [Act.put, List.setIfInBounds_toArray, List.set_cons_zero, List.set_cons_succ]))
        refine wpAnyH_take (i := 1) (oi := ?o2) (v := ?v2) ?a2 (by kernel_rfl) (by kernel_rfl) (by kernel_rfl) ?q2 (Or.inl ⟨?g2, ?y2⟩) (by assumption) ?r2; (case' a2 => (simp only [List.getElem?_toArray, List.getElem?_cons_zero, List.getElem?_cons_succ]; rfl)); (case' q2 => (exact fun _ _ _ h => h)); (case' g2 => rfl); (case' y2 => (intro w hSw; (try dsimp only at hSw); go_simp; try with_reducible rfl)); (case' r2 => (try simp only [Act.put, List.setIfInBounds_toArray, List.set_cons_zero, List.set_cons_succ]))
        refine wpAnyH_take (i := 2) (oi := ?o3) (v := ?v3) ?a3 (by kernel_rfl) (by kernel_rfl) (by kernel_rfl) ?q3 (Or.inl ⟨?g3, ?y3⟩) (by assumption) ?r3; (case' a3 => (simp only [List.getElem?_toArray, List.getElem?_cons_zero, List.getElem?_cons_succ]; rfl)); (case' q3 => (exact fun _ _ _ h => h)); (case' g3 => rfl); (case' y3 => (intro w hSw; (try dsimp only at hSw); go_simp; try with_reducible rfl)); (case' r3 => (try simp only [Act.put, List.setIfInBounds_toArray, List.set_cons_zero, List.set_cons_succ]))
        refine wpAnyH_take (i := 3) (oi := ?o4) (v := ?v4) ?a4 (by kernel_rfl) (by kernel_rfl) (by kernel_rfl) ?q4 (Or.inl ⟨?g4, ?y4⟩) (by assumption) ?r4; (case' a4 => (simp only [List.getElem?_toArray, List.getElem?_cons_zero, List.getElem?_cons_succ]; rfl)); (case' q4 => (exact fun _ _ _ h => h)); (case' g4 => rfl); (case' y4 => (intro w hSw; (try dsimp only at hSw); go_simp; try with_reducible rfl)); (case' r4 => (try simp only [Act.put, List.setIfInBounds_toArray, List.set_cons_zero, List.set_cons_succ]))
        refine wpAnyH_ready (rs := [4]) (by kernel_rfl) (by simp) ?_
        refine AllReadyH.cons (o := ?o5) ?a5 (fun K hK => ?s5) ?m5; (case' a5 => (simp only [List.getElem?_toArray, List.getElem?_cons_zero, List.getElem?_cons_succ]; rfl))
        case s5 =>
          go_simp
          go_at_call 25
          refine (MAY _).mono ?_
          rintro e wn ⟨rfl, hbn⟩
          go_wp2_with fail
          refine hK.out _ _ (keep4 hHeld hbn) (fun hHeld => ?_)
          clear hK K
          (try simp only [Act.put, List.setIfInBounds_toArray, List.set_cons_zero, List.set_cons_succ])
          refine wpAnyH_take (i := 5) (oi := ?o6) (v := ?v6) ?a6 (by kernel_rfl) (by kernel_rfl) (by kernel_rfl) ?q6 (Or.inl ⟨?g6, ?y6⟩) (by assumption) ?r6; (case' a6 => (simp only [List.getElem?_toArray, List.getElem?_cons_zero, List.getElem?_cons_succ]; rfl)); (case' q6 => (exact fun _ _ _ h => h)); (case' g6 => rfl); (case' y6 => (intro w hSw; (try dsimp only at hSw); go_simp; try with_reducible rfl)); (case' r6 => (try simp only [Act.put, List.setIfInBounds_toArray, List.set_cons_zero, List.set_cons_succ]))
          refine wpAnyH_take (i := 6) (oi := ?o7) (v := ?v7) ?a7 (by kernel_rfl) (by kernel_rfl) (by kernel_rfl) ?q7 (Or.inl ⟨?g7, ?y7⟩) (by assumption) ?r7; (case' a7 => (simp only [List.getElem?_toArray, List.getElem?_cons_zero, List.getElem?_cons_succ]; rfl)); (case' q7 => (exact fun _ _ _ h => h)); (case' g7 => rfl); (case' y7 => (intro w hSw; (try dsimp only at hSw); go_simp; try with_reducible rfl)); (case' r7 => (try simp only [Act.put, List.setIfInBounds_toArray, List.set_cons_zero, List.set_cons_succ]))
          refine wpAnyH_take (i := 7) (oi := ?o8) (v := undef) ?a8 (by kernel_rfl) (by kernel_rfl) (by kernel_rfl) ?q8 (Or.inr ⟨?g8, rfl⟩) (by assumption) ?r8; (case' a8 => (simp only [List.getElem?_toArray, List.getElem?_cons_zero, List.getElem?_cons_succ]; rfl)); (case' q8 => (exact fun _ _ _ h => h)); (case' g8 => rfl); (case' r8 => (try simp only [Act.put, List.setIfInBounds_toArray, List.set_cons_zero, List.set_cons_succ]))
          refine wpAnyH_take (i := 8) (oi := ?o9) (v := undef) ?a9 (by kernel_rfl) (by kernel_rfl) (by kernel_rfl) ?q9 (Or.inr ⟨?g9, rfl⟩) (by assumption) ?r9; (case' a9 => (simp only [List.getElem?_toArray, List.getElem?_cons_zero, List.getElem?_cons_succ]; rfl)); (case' q9 => (exact fun _ _ _ h => h)); (case' g9 => rfl); (case' r9 => (try simp only [Act.put, List.setIfInBounds_toArray, List.set_cons_zero, List.set_cons_succ]))
          refine wpAnyH_take (i := 9) (oi := ?o10) (v := undef) ?a10 (by kernel_rfl) (by kernel_rfl) (by kernel_rfl) ?q10 (Or.inr ⟨?g10, rfl⟩) (by assumption) ?r10; (case' a10 => (simp only [List.getElem?_toArray, List.getElem?_cons_zero, List.getElem?_cons_succ]; rfl)); (case' q10 => (exact fun _ _ _ h => h)); (case' g10 => rfl); (case' r10 => (try simp only [Act.put, List.setIfInBounds_toArray, List.set_cons_zero, List.set_cons_succ]))
          refine wpAnyH_take (i := 10) (oi := ?o11) (v := undef) ?a11 (by kernel_rfl) (by kernel_rfl) (by kernel_rfl) ?q11 (Or.inr ⟨?g11, rfl⟩) (by assumption) ?r11; (case' a11 => (simp only [List.getElem?_toArray, List.getElem?_cons_zero, List.getElem?_cons_succ]; rfl)); (case' q11 => (exact fun _ _ _ h => h)); (case' g11 => rfl); (case' r11 => (try simp only [Act.put, List.setIfInBounds_toArray, List.set_cons_zero, List.set_cons_succ]))
          refine wpAnyH_take (i := 11) (oi := ?o12) (v := undef) ?a12 (by kernel_rfl) (by kernel_rfl) (by kernel_rfl) ?q12 (Or.inr ⟨?g12, rfl⟩) (by assumption) ?r12; (case' a12 => (simp only [List.getElem?_toArray, List.getElem?_cons_zero, List.getElem?_cons_succ]; rfl)); (case' q12 => (exact fun _ _ _ h => h)); (case' g12 => rfl); (case' r12 => (try simp only [Act.put, List.setIfInBounds_toArray, List.set_cons_zero, List.set_cons_succ]))
          refine wpAnyH_take (i := 12) (oi := ?o13) (v := undef) ?a13 (by kernel_rfl) (by kernel_rfl) (by kernel_rfl) ?q13 (Or.inr ⟨?g13, rfl⟩) (by assumption) ?r13; (case' a13 => (simp only [List.getElem?_toArray, List.getElem?_cons_zero, List.getElem?_cons_succ]; rfl)); (case' q13 => (exact fun _ _ _ h => h)); (case' g13 => rfl); (case' r13 => (try simp only [Act.put, List.setIfInBounds_toArray, List.set_cons_zero, List.set_cons_succ]))
          refine wpAnyH_take (i := 13) (oi := ?o14) (v := undef) ?a14 (by kernel_rfl) (by kernel_rfl) (by kernel_rfl) ?q14 (Or.inr ⟨?g14, rfl⟩) (by assumption) ?r14; (case' a14 => (simp only [List.getElem?_toArray, List.getElem?_cons_zero, List.getElem?_cons_succ]; rfl)); (case' q14 => (exact fun _ _ _ h => h)); (case' g14 => rfl); (case' r14 => (try simp only [Act.put, List.setIfInBounds_toArray, List.set_cons_zero, List.set_cons_succ]))
          refine wpAnyH_take (i := 14) (oi := ?o15) (v := undef) ?a15 (by kernel_rfl) (by kernel_rfl) (by kernel_rfl) ?q15 (Or.inr ⟨?g15, rfl⟩) (by assumption) ?r15; (case' a15 => (simp only [List.getElem?_toArray, List.getElem?_cons_zero, List.getElem?_cons_succ]; rfl)); (case' q15 => (exact fun _ _ _ h => h)); (case' g15 => rfl); (case' r15 => (try simp only [Act.put, List.setIfInBounds_toArray, List.set_cons_zero, List.set_cons_succ]))
          refine wpAnyH_take (i := 15) (oi := ?o16) (v := undef) ?a16 (by kernel_rfl) (by kernel_rfl) (by kernel_rfl) ?q16 (Or.inr ⟨?g16, rfl⟩) (by assumption) ?r16; (case' a16 => (simp only [List.getElem?_toArray, List.getElem?_cons_zero, List.getElem?_cons_succ]; rfl)); (case' q16 => (exact fun _ _ _ h => h)); (case' g16 => rfl); (case' r16 => (try simp only [Act.put, List.setIfInBounds_toArray, List.set_cons_zero, List.set_cons_succ]))
          refine wpAnyH_take (i := 16) (oi := ?o17) (v := undef) ?a17 (by kernel_rfl) (by kernel_rfl) (by kernel_rfl) ?q17 (Or.inr ⟨?g17, rfl⟩) (by assumption) ?r17; (case' a17 => (simp only [List.getElem?_toArray, List.getElem?_cons_zero, List.getElem?_cons_succ]; rfl)); (case' q17 => (exact fun _ _ _ h => h)); (case' g17 => rfl); (case' r17 => (try simp only [Act.put, List.setIfInBounds_toArray, List.set_cons_zero, List.set_cons_succ]))
          refine wpAnyH_take (i := 17) (oi := ?o18) (v := undef) ?a18 (by kernel_rfl) (by kernel_rfl) (by kernel_rfl) ?q18 (Or.inr ⟨?g18, rfl⟩) (by assumption) ?r18; (case' a18 => (simp only [List.getElem?_toArray, List.getElem?_cons_zero, List.getElem?_cons_succ]; rfl)); (case' q18 => (exact fun _ _ _ h => h)); (case' g18 => rfl); (case' r18 => (try simp only [Act.put, List.setIfInBounds_toArray, List.set_cons_zero, List.set_cons_succ]))
          refine wpAnyH_take (i := 18) (oi := ?o19) (v := undef) ?a19 (by kernel_rfl) (by kernel_rfl) (by kernel_rfl) ?q19 (Or.inr ⟨?g19, rfl⟩) (by assumption) ?r19; (case' a19 => (simp only [List.getElem?_toArray, List.getElem?_cons_zero, List.getElem?_cons_succ]; rfl)); (case' q19 => (exact fun _ _ _ h => h)); (case' g19 => rfl); (case' r19 => (try simp only [Act.put, List.setIfInBounds_toArray, List.set_cons_zero, List.set_cons_succ]))
          refine wpAnyH_take (i := 19) (oi := ?o20) (v := undef) ?a20 (by kernel_rfl) (by kernel_rfl) (by kernel_rfl) ?q20 (Or.inr ⟨?g20, rfl⟩) (by assumption) ?r20; (case' a20 => (simp only [List.getElem?_toArray, List.getElem?_cons_zero, List.getElem?_cons_succ]; rfl)); (case' q20 => (exact fun _ _ _ h => h)); (case' g20 => rfl); (case' r20 => (try simp only [Act.put, List.setIfInBounds_toArray, List.set_cons_zero, List.set_cons_succ]))
          refine wpAnyH_take (i := 20) (oi := ?o21) (v := undef) ?a21 (by kernel_rfl) (by kernel_rfl) (by kernel_rfl) ?q21 (Or.inr ⟨?g21, rfl⟩) (by assumption) ?r21; (case' a21 => (simp only [List.getElem?_toArray, List.getElem?_cons_zero, List.getElem?_cons_succ]; rfl)); (case' q21 => (exact fun _ _ _ h => h)); (case' g21 => rfl); (case' r21 => (try simp only [Act.put, List.setIfInBounds_toArray, List.set_cons_zero, List.set_cons_succ]))
          refine wpAnyH_take (i := 21) (oi := ?o22) (v := undef) ?a22 (by kernel_rfl) (by kernel_rfl) (by kernel_rfl) ?q22 (Or.inr ⟨?g22, rfl⟩) (by assumption) ?r22; (case' a22 => (simp only [List.getElem?_toArray, List.getElem?_cons_zero, List.getElem?_cons_succ]; rfl)); (case' q22 => (exact fun _ _ _ h => h)); (case' g22 => rfl); (case' r22 => (try simp only [Act.put, List.setIfInBounds_toArray, List.set_cons_zero, List.set_cons_succ]))
          refine wpAnyH_take (i := 22) (oi := ?o23) (v := ?v23) ?a23 (by kernel_rfl) (by kernel_rfl) (by kernel_rfl) ?q23 (Or.inl ⟨?g23, ?y23⟩) (by assumption) ?r23; (case' a23 => (simp only [List.getElem?_toArray, List.getElem?_cons_zero, List.getElem?_cons_succ]; rfl)); (case' q23 => (exact fun _ _ _ h => h)); (case' g23 => rfl); (case' y23 => (intro w hSw; (try dsimp only at hSw); go_simp; try with_reducible rfl)); (case' r23 => (try simp only [Act.put, List.setIfInBounds_toArray, List.set_cons_zero, List.set_cons_succ]))
          refine wpAnyH_done (by kernel_rfl) ?_ _
          have HWN := Lib.hid hHeld.2
          clear hHeld
          go_wp2_with fail
          go_ret2
          exact ⟨HWN.out, .inl ⟨by rw [HX1.out]; decide, by rw [HX1.out]; rfl⟩⟩
        exact AllReadyH.nil
      | true =>
        have HMAY := Lib.hid hv
        clear hv
        by_cases hk0 : k = 0
        · have h0 : decide ((0 : Int) < (k : Int)) = false := decide_eq_false (by omega)
          have HNX : Hid (OkTo l (k + 1)) := Lib.hid (HOK.out.next (fun y hy => by rw [HST.out] at hy; injection hy with hy; subst hy; exact ⟨HMAY.out, fun q => absurd q (by omega)⟩))
          have h0n : decide (0 < k) = false := decide_eq_false (by omega)
          have h0' : ¬ (0 : Int) < (k : Int) := by omega
          have h0n' : ¬ 0 < k := by omega
          clear hk0
          refine wp_region_held_drew (S := fun w' => (w'.cell? ⟨ga, oo + k * 4, none⟩ = some (.string gr) ∧ w'.cell? ⟨ga, oo + k * 4 + 1, none⟩ = some (.string t) ∧ w'.cell? ⟨ga, oo + k * 4 + 2, none⟩ = some (.int .i64 p) ∧ w'.cell? ⟨ga, oo + k * 4 + 3, none⟩ = some (.int .i64 o)) ∧ Below w.heap.size w w') (by kernel_rfl) (keep4 ⟨BB.out, HBJ.out⟩ (Below.refl _ _).drew) (fun hHeld => ?_)
          refine wpAnyH_take (i := 0) (oi := ?o24) (v := ?v24) ?a24 (by kernel_rfl) (by kernel_rfl) (by kernel_rfl) ?q24 (Or.inl ⟨?g24, ?y24⟩) (by assumption) ?r24; (case' a24 => (simp only [List.getElem?_toArray, List.getElem?_cons_zero]; rfl)); (case' q24 => (exact fun _ _ _ h => h)); (case' g24 => rfl); (case' y24 => (intro w hSw; (try dsimp only at hSw); go_simp; try with_reducible rfl)); (case' r24 => (try simp only [Act.put, List.setIfInBounds_toArray, List.set_cons_zero, List.set_cons_succ]))
          refine wpAnyH_take (i := 1) (oi := ?o25) (v := ?v25) ?a25 (by kernel_rfl) (by kernel_rfl) (by kernel_rfl) ?q25 (Or.inl ⟨?g25, ?y25⟩) (by assumption) ?r25; (case' a25 => (simp only [List.getElem?_toArray, List.getElem?_cons_zero, List.getElem?_cons_succ]; rfl)); (case' q25 => (exact fun _ _ _ h => h)); (case' g25 => rfl); (case' y25 => (intro w hSw; (try dsimp only at hSw); go_simp; try with_reducible rfl)); (case' r25 => (try simp only [Act.put, List.setIfInBounds_toArray, List.set_cons_zero, List.set_cons_succ]))
          refine wpAnyH_take (i := 2) (oi := ?o26) (v := ?v26) ?a26 (by kernel_rfl) (by kernel_rfl) (by kernel_rfl) ?q26 (Or.inl ⟨?g26, ?y26⟩) (by assumption) ?r26; (case' a26 => (simp only [List.getElem?_toArray, List.getElem?_cons_zero, List.getElem?_cons_succ]; rfl)); (case' q26 => (exact fun _ _ _ h => h)); (case' g26 => rfl); (case' y26 => (intro w hSw; (try dsimp only at hSw); go_simp; try with_reducible rfl)); (case' r26 => (try simp only [Act.put, List.setIfInBounds_toArray, List.set_cons_zero, List.set_cons_succ]))
          refine wpAnyH_take (i := 3) (oi := ?o27) (v := ?v27) ?a27 (by kernel_rfl) (by kernel_rfl) (by kernel_rfl) ?q27 (Or.inl ⟨?g27, ?y27⟩) (by assumption) ?r27; (case' a27 => (simp only [List.getElem?_toArray, List.getElem?_cons_zero, List.getElem?_cons_succ]; rfl)); (case' q27 => (exact fun _ _ _ h => h)); (case' g27 => rfl); (case' y27 => (intro w hSw; (try dsimp only at hSw); go_simp; try with_reducible rfl)); (case' r27 => (try simp only [Act.put, List.setIfInBounds_toArray, List.set_cons_zero, List.set_cons_succ]))
          refine wpAnyH_ready (rs := [4]) (by kernel_rfl) (by simp) ?_
          refine AllReadyH.cons (o := ?o28) ?a28 (fun K hK => ?s28) ?m28; (case' a28 => (simp only [List.getElem?_toArray, List.getElem?_cons_zero, List.getElem?_cons_succ]; rfl))
          case s28 =>
            go_simp
            go_at_call 25
            refine (MAY _).mono ?_
            rintro e wn ⟨rfl, hbn⟩
            go_wp2_with fail
            refine hK.out _ _ (keep4 hHeld hbn) (fun hHeld => ?_)
            clear hK K
            (try simp only [Act.put, List.setIfInBounds_toArray, List.set_cons_zero, List.set_cons_succ])
            refine wpAnyH_take (i := 5) (oi := ?o29) (v := ?v29) ?a29 (by kernel_rfl) (by kernel_rfl) (by kernel_rfl) ?q29 (Or.inl ⟨?g29, ?y29⟩) (by assumption) ?r29; (case' a29 => (simp only [List.getElem?_toArray, List.getElem?_cons_zero, List.getElem?_cons_succ]; rfl)); (case' q29 => (exact fun _ _ _ h => h)); (case' g29 => rfl); (case' y29 => (intro w hSw; (try dsimp only at hSw); go_simp; try with_reducible rfl)); (case' r29 => (try simp only [Act.put, List.setIfInBounds_toArray, List.set_cons_zero, List.set_cons_succ]))
            refine wpAnyH_take (i := 6) (oi := ?o30) (v := ?v30) ?a30 (by kernel_rfl) (by kernel_rfl) (by kernel_rfl) ?q30 (Or.inl ⟨?g30, ?y30⟩) (by assumption) ?r30; (case' a30 => (simp only [List.getElem?_toArray, List.getElem?_cons_zero, List.getElem?_cons_succ]; rfl)); (case' q30 => (exact fun _ _ _ h => h)); (case' g30 => rfl); (case' y30 => (intro w hSw; (try dsimp only at hSw); go_simp; try with_reducible rfl)); (case' r30 => (try simp only [Act.put, List.setIfInBounds_toArray, List.set_cons_zero, List.set_cons_succ]))
            refine wpAnyH_take (i := 7) (oi := ?o31) (v := ?v31) ?a31 (by kernel_rfl) (by kernel_rfl) (by kernel_rfl) ?q31 (Or.inl ⟨?g31, ?y31⟩) (by assumption) ?r31; (case' a31 => (simp only [List.getElem?_toArray, List.getElem?_cons_zero, List.getElem?_cons_succ]; rfl)); (case' q31 => (exact fun _ _ _ h => h)); (case' g31 => rfl); (case' y31 => (intro w hSw; (try dsimp only at hSw); go_simp; try with_reducible rfl)); (case' r31 => (try simp only [Act.put, List.setIfInBounds_toArray, List.set_cons_zero, List.set_cons_succ]))
            refine wpAnyH_take (i := 8) (oi := ?o32) (v := ?v32) ?a32 (by kernel_rfl) (by kernel_rfl) (by kernel_rfl) ?q32 (Or.inl ⟨?g32, ?y32⟩) (by assumption) ?r32; (case' a32 => (simp only [List.getElem?_toArray, List.getElem?_cons_zero, List.getElem?_cons_succ]; rfl)); (case' q32 => (exact fun _ _ _ h => h)); (case' g32 => rfl); (case' y32 => (intro w hSw; (try dsimp only at hSw); go_simp; try with_reducible rfl)); (case' r32 => (try simp only [Act.put, List.setIfInBounds_toArray, List.set_cons_zero, List.set_cons_succ]))
            refine wpAnyH_take (i := 9) (oi := ?o33) (v := ?v33) ?a33 (by kernel_rfl) (by kernel_rfl) (by kernel_rfl) ?q33 (Or.inl ⟨?g33, ?y33⟩) (by assumption) ?r33; (case' a33 => (simp only [List.getElem?_toArray, List.getElem?_cons_zero, List.getElem?_cons_succ]; rfl)); (case' q33 => (exact fun _ _ _ h => h)); (case' g33 => rfl); (case' y33 => (intro w hSw; (try dsimp only at hSw); go_simp; try with_reducible rfl)); (case' r33 => (try simp only [Act.put, List.setIfInBounds_toArray, List.set_cons_zero, List.set_cons_succ]))
            refine wpAnyH_take (i := 10) (oi := ?o34) (v := undef) ?a34 (by kernel_rfl) (by kernel_rfl) (by kernel_rfl) ?q34 (Or.inr ⟨?g34, rfl⟩) (by assumption) ?r34; (case' a34 => (simp only [List.getElem?_toArray, List.getElem?_cons_zero, List.getElem?_cons_succ]; rfl)); (case' q34 => (exact fun _ _ _ h => h)); (case' g34 => rfl); (case' r34 => (try simp only [Act.put, List.setIfInBounds_toArray, List.set_cons_zero, List.set_cons_succ]))
            refine wpAnyH_take (i := 11) (oi := ?o35) (v := undef) ?a35 (by kernel_rfl) (by kernel_rfl) (by kernel_rfl) ?q35 (Or.inr ⟨?g35, rfl⟩) (by assumption) ?r35; (case' a35 => (simp only [List.getElem?_toArray, List.getElem?_cons_zero, List.getElem?_cons_succ]; rfl)); (case' q35 => (exact fun _ _ _ h => h)); (case' g35 => rfl); (case' r35 => (try simp only [Act.put, List.setIfInBounds_toArray, List.set_cons_zero, List.set_cons_succ]))
            refine wpAnyH_take (i := 12) (oi := ?o36) (v := undef) ?a36 (by kernel_rfl) (by kernel_rfl) (by kernel_rfl) ?q36 (Or.inr ⟨?g36, rfl⟩) (by assumption) ?r36; (case' a36 => (simp only [List.getElem?_toArray, List.getElem?_cons_zero, List.getElem?_cons_succ]; rfl)); (case' q36 => (exact fun _ _ _ h => h)); (case' g36 => rfl); (case' r36 => (try simp only [Act.put, List.setIfInBounds_toArray, List.set_cons_zero, List.set_cons_succ]))
            refine wpAnyH_take (i := 13) (oi := ?o37) (v := undef) ?a37 (by kernel_rfl) (by kernel_rfl) (by kernel_rfl) ?q37 (Or.inr ⟨?g37, rfl⟩) (by assumption) ?r37; (case' a37 => (simp only [List.getElem?_toArray, List.getElem?_cons_zero, List.getElem?_cons_succ]; rfl)); (case' q37 => (exact fun _ _ _ h => h)); (case' g37 => rfl); (case' r37 => (try simp only [Act.put, List.setIfInBounds_toArray, List.set_cons_zero, List.set_cons_succ]))
            refine wpAnyH_take (i := 14) (oi := ?o38) (v := undef) ?a38 (by kernel_rfl) (by kernel_rfl) (by kernel_rfl) ?q38 (Or.inr ⟨?g38, rfl⟩) (by assumption) ?r38; (case' a38 => (simp only [List.getElem?_toArray, List.getElem?_cons_zero, List.getElem?_cons_succ]; rfl)); (case' q38 => (exact fun _ _ _ h => h)); (case' g38 => rfl); (case' r38 => (try simp only [Act.put, List.setIfInBounds_toArray, List.set_cons_zero, List.set_cons_succ]))
            refine wpAnyH_take (i := 15) (oi := ?o39) (v := undef) ?a39 (by kernel_rfl) (by kernel_rfl) (by kernel_rfl) ?q39 (Or.inr ⟨?g39, rfl⟩) (by assumption) ?r39; (case' a39 => (simp only [List.getElem?_toArray, List.getElem?_cons_zero, List.getElem?_cons_succ]; rfl)); (case' q39 => (exact fun _ _ _ h => h)); (case' g39 => rfl); (case' r39 => (try simp only [Act.put, List.setIfInBounds_toArray, List.set_cons_zero, List.set_cons_succ]))
            refine wpAnyH_take (i := 16) (oi := ?o40) (v := undef) ?a40 (by kernel_rfl) (by kernel_rfl) (by kernel_rfl) ?q40 (Or.inr ⟨?g40, rfl⟩) (by assumption) ?r40; (case' a40 => (simp only [List.getElem?_toArray, List.getElem?_cons_zero, List.getElem?_cons_succ]; rfl)); (case' q40 => (exact fun _ _ _ h => h)); (case' g40 => rfl); (case' r40 => (try simp only [Act.put, List.setIfInBounds_toArray, List.set_cons_zero, List.set_cons_succ]))
            refine wpAnyH_take (i := 17) (oi := ?o41) (v := undef) ?a41 (by kernel_rfl) (by kernel_rfl) (by kernel_rfl) ?q41 (Or.inr ⟨?g41, rfl⟩) (by assumption) ?r41; (case' a41 => (simp only [List.getElem?_toArray, List.getElem?_cons_zero, List.getElem?_cons_succ]; rfl)); (case' q41 => (exact fun _ _ _ h => h)); (case' g41 => rfl); (case' r41 => (try simp only [Act.put, List.setIfInBounds_toArray, List.set_cons_zero, List.set_cons_succ]))
            refine wpAnyH_take (i := 18) (oi := ?o42) (v := undef) ?a42 (by kernel_rfl) (by kernel_rfl) (by kernel_rfl) ?q42 (Or.inr ⟨?g42, rfl⟩) (by assumption) ?r42; (case' a42 => (simp only [List.getElem?_toArray, List.getElem?_cons_zero, List.getElem?_cons_succ]; rfl)); (case' q42 => (exact fun _ _ _ h => h)); (case' g42 => rfl); (case' r42 => (try simp only [Act.put, List.setIfInBounds_toArray, List.set_cons_zero, List.set_cons_succ]))
            refine wpAnyH_take (i := 19) (oi := ?o43) (v := undef) ?a43 (by kernel_rfl) (by kernel_rfl) (by kernel_rfl) ?q43 (Or.inr ⟨?g43, rfl⟩) (by assumption) ?r43; (case' a43 => (simp only [List.getElem?_toArray, List.getElem?_cons_zero, List.getElem?_cons_succ]; rfl)); (case' q43 => (exact fun _ _ _ h => h)); (case' g43 => rfl); (case' r43 => (try simp only [Act.put, List.setIfInBounds_toArray, List.set_cons_zero, List.set_cons_succ]))
            refine wpAnyH_take (i := 20) (oi := ?o44) (v := undef) ?a44 (by kernel_rfl) (by kernel_rfl) (by kernel_rfl) ?q44 (Or.inr ⟨?g44, rfl⟩) (by assumption) ?r44; (case' a44 => (simp only [List.getElem?_toArray, List.getElem?_cons_zero, List.getElem?_cons_succ]; rfl)); (case' q44 => (exact fun _ _ _ h => h)); (case' g44 => rfl); (case' r44 => (try simp only [Act.put, List.setIfInBounds_toArray, List.set_cons_zero, List.set_cons_succ]))
            refine wpAnyH_take (i := 21) (oi := ?o45) (v := ?v45) ?a45 (by kernel_rfl) (by kernel_rfl) (by kernel_rfl) ?q45 (Or.inl ⟨?g45, ?y45⟩) (by assumption) ?r45; (case' a45 => (simp only [List.getElem?_toArray, List.getElem?_cons_zero, List.getElem?_cons_succ]; rfl)); (case' q45 => (exact fun _ _ _ h => h)); (case' g45 => rfl); (case' y45 => (intro w hSw; (try dsimp only at hSw); go_simp; try with_reducible rfl)); (case' r45 => (try simp only [Act.put, List.setIfInBounds_toArray, List.set_cons_zero, List.set_cons_succ]))
            refine wpAnyH_take (i := 22) (oi := ?o46) (v := ?v46) ?a46 (by kernel_rfl) (by kernel_rfl) (by kernel_rfl) ?q46 (Or.inl ⟨?g46, ?y46⟩) (by assumption) ?r46; (case' a46 => (simp only [List.getElem?_toArray, List.getElem?_cons_zero, List.getElem?_cons_succ]; rfl)); (case' q46 => (exact fun _ _ _ h => h)); (case' g46 => rfl); (case' y46 => (intro w hSw; (try dsimp only at hSw); go_simp; try with_reducible rfl)); (case' r46 => (try simp only [Act.put, List.setIfInBounds_toArray, List.set_cons_zero, List.set_cons_succ]))
            refine wpAnyH_done (by kernel_rfl) ?_ _
            have HWN := Lib.hid hHeld.2
            clear hHeld
            go_wp2_with fail
            go_roundw
            case rel => exact ⟨k + 1, by omega, by go_num, HNX, HWN⟩
            case measure => simp [intOf]; omega
          exact AllReadyH.nil
        · obtain ⟨j, hj⟩ : ∃ j, k = j + 1 := ⟨k - 1, by omega⟩
          obtain ⟨⟨g2, t2, p2, o2⟩, hpr⟩ : ∃ pr, l[j]? = some pr := ⟨l[j]'(by have := HKN.out; omega), List.getElem?_eq_getElem _⟩
          obtain ⟨f0, f1, f2, f3⟩ := HGT.out j _ hpr
          obtain ⟨zz0, zz1, _, _⟩ := hE.out.sz _ (List.mem_of_getElem? hpr)
          have ZP0 : Hid (g2.size ≤ maxLen) := Lib.hid (by unfold maxLen; dsimp only at zz0; omega)
          have ZP1 : Hid (t2.size ≤ maxLen) := Lib.hid (by unfold maxLen; dsimp only at zz1; omega)
          have HPR : Hid (l[k - 1]? = some ⟨g2, t2, p2, o2⟩) := Lib.hid (by rw [show k - 1 = j by omega]; exact hpr)
          have PP := Lib.hid (And.intro (cell_at HBJ.out f0) (And.intro (cell_at HBJ.out f1) (And.intro (cell_at HBJ.out f2) (cell_at HBJ.out f3))))
          dsimp only at PP
          have i1 : IntKind.i64.wrap ((k : Int) - 1) = (k : Int) - 1 := by rw [IntKind.wrap_i64]; omega
          have j0 : (0 : Int) ≤ (k : Int) - 1 := by omega
          have j1 : (k : Int) - 1 < (n : Int) := by omega
          have j2 : (0 : Int) < (k : Int) := by omega
          have j4 : 0 < k := by omega
          have j5 : (1 : Int) ≤ (k : Int) := by omega
          have j6 : 1 ≤ k := by omega
          have j7 : (k : Int) ≤ (n : Int) := by omega
          have j3 : ((k : Int) - 1).toNat = j := by omega
          have j9 : decide ((0 : Int) < (k : Int)) = true := decide_eq_true (by omega)
          have j10 : decide (0 < k) = true := decide_eq_true (by omega)
          obtain ⟨r, hr⟩ : ∃ r, befR ⟨g2, t2, p2, o2⟩ ⟨gr, t, p, o⟩ = r := ⟨_, rfl⟩
          have HRR := Lib.hid hr
          have BEF : ∀ W', Calls Try.prog 26 #[.agg #[.string g2, .string t2, .int .i64 p2, .int .i64 o2], .agg #[.string gr, .string t, .int .i64 p, .int .i64 o]] W' fun e w' => e = .returned (.bool r) ∧ Below W'.heap.size W' w' := fun W' => rbefore_is g2 t2 gr t p2 o2 p o r W' ZP0.out ZP1.out HZ0.out HZ1.out HRR
          clear f0 f1 f2 f3 hpr hk0 hj zz0 zz1
          cases r with
          | true =>
            have HNX : Hid (OkTo l (k + 1)) := Lib.hid (HOK.out.next (fun y hy => by rw [HST.out] at hy; injection hy with hy; subst hy; exact ⟨HMAY.out, fun _ z hz => by rw [HPR.out] at hz; injection hz with hz; subst hz; exact hr⟩))
            clear hr
            refine wp_region_held_drew (S := fun w' => ((w'.cell? ⟨ga, oo + k * 4, none⟩ = some (.string gr) ∧ w'.cell? ⟨ga, oo + k * 4 + 1, none⟩ = some (.string t) ∧ w'.cell? ⟨ga, oo + k * 4 + 2, none⟩ = some (.int .i64 p) ∧ w'.cell? ⟨ga, oo + k * 4 + 3, none⟩ = some (.int .i64 o)) ∧ (w'.cell? ⟨ga, oo + j * 4, none⟩ = some (.string g2) ∧ w'.cell? ⟨ga, oo + j * 4 + 1, none⟩ = some (.string t2) ∧ w'.cell? ⟨ga, oo + j * 4 + 2, none⟩ = some (.int .i64 p2) ∧ w'.cell? ⟨ga, oo + j * 4 + 3, none⟩ = some (.int .i64 o2))) ∧ Below w.heap.size w w') (by kernel_rfl) (keep8 ⟨⟨BB.out, PP.out⟩, HBJ.out⟩ (Below.refl _ _).drew) (fun hHeld => ?_)
            refine wpAnyH_take (i := 0) (oi := ?o47) (v := ?v47) ?a47 (by kernel_rfl) (by kernel_rfl) (by kernel_rfl) ?q47 (Or.inl ⟨?g47, ?y47⟩) (by assumption) ?r47; (case' a47 => (simp only [List.getElem?_toArray, List.getElem?_cons_zero]; rfl)); (case' q47 => (exact fun _ _ _ h => h)); (case' g47 => rfl); (case' y47 => (intro w hSw; (try dsimp only at hSw); go_simp; try with_reducible rfl)); (case' r47 => (try simp only [Act.put, List.setIfInBounds_toArray, List.set_cons_zero, List.set_cons_succ]))
            refine wpAnyH_take (i := 1) (oi := ?o48) (v := ?v48) ?a48 (by kernel_rfl) (by kernel_rfl) (by kernel_rfl) ?q48 (Or.inl ⟨?g48, ?y48⟩) (by assumption) ?r48; (case' a48 => (simp only [List.getElem?_toArray, List.getElem?_cons_zero, List.getElem?_cons_succ]; rfl)); (case' q48 => (exact fun _ _ _ h => h)); (case' g48 => rfl); (case' y48 => (intro w hSw; (try dsimp only at hSw); go_simp; try with_reducible rfl)); (case' r48 => (try simp only [Act.put, List.setIfInBounds_toArray, List.set_cons_zero, List.set_cons_succ]))
            refine wpAnyH_take (i := 2) (oi := ?o49) (v := ?v49) ?a49 (by kernel_rfl) (by kernel_rfl) (by kernel_rfl) ?q49 (Or.inl ⟨?g49, ?y49⟩) (by assumption) ?r49; (case' a49 => (simp only [List.getElem?_toArray, List.getElem?_cons_zero, List.getElem?_cons_succ]; rfl)); (case' q49 => (exact fun _ _ _ h => h)); (case' g49 => rfl); (case' y49 => (intro w hSw; (try dsimp only at hSw); go_simp; try with_reducible rfl)); (case' r49 => (try simp only [Act.put, List.setIfInBounds_toArray, List.set_cons_zero, List.set_cons_succ]))
            refine wpAnyH_take (i := 3) (oi := ?o50) (v := ?v50) ?a50 (by kernel_rfl) (by kernel_rfl) (by kernel_rfl) ?q50 (Or.inl ⟨?g50, ?y50⟩) (by assumption) ?r50; (case' a50 => (simp only [List.getElem?_toArray, List.getElem?_cons_zero, List.getElem?_cons_succ]; rfl)); (case' q50 => (exact fun _ _ _ h => h)); (case' g50 => rfl); (case' y50 => (intro w hSw; (try dsimp only at hSw); go_simp; try with_reducible rfl)); (case' r50 => (try simp only [Act.put, List.setIfInBounds_toArray, List.set_cons_zero, List.set_cons_succ]))
            refine wpAnyH_ready (rs := [4]) (by kernel_rfl) (by simp) ?_
            refine AllReadyH.cons (o := ?o51) ?a51 (fun K hK => ?s51) ?m51; (case' a51 => (simp only [List.getElem?_toArray, List.getElem?_cons_zero, List.getElem?_cons_succ]; rfl))
            case s51 =>
              go_simp
              go_at_call 25
              refine (MAY _).mono ?_
              rintro e wn ⟨rfl, hbn⟩
              go_wp2_with fail
              refine hK.out _ _ (keep8 hHeld hbn) (fun hHeld => ?_)
              clear hK K
              (try simp only [Act.put, List.setIfInBounds_toArray, List.set_cons_zero, List.set_cons_succ])
              refine wpAnyH_take (i := 5) (oi := ?o52) (v := ?v52) ?a52 (by kernel_rfl) (by kernel_rfl) (by kernel_rfl) ?q52 (Or.inl ⟨?g52, ?y52⟩) (by assumption) ?r52; (case' a52 => (simp only [List.getElem?_toArray, List.getElem?_cons_zero, List.getElem?_cons_succ]; rfl)); (case' q52 => (exact fun _ _ _ h => h)); (case' g52 => rfl); (case' y52 => (intro w hSw; (try dsimp only at hSw); go_simp; try with_reducible rfl)); (case' r52 => (try simp only [Act.put, List.setIfInBounds_toArray, List.set_cons_zero, List.set_cons_succ]))
              refine wpAnyH_take (i := 6) (oi := ?o53) (v := ?v53) ?a53 (by kernel_rfl) (by kernel_rfl) (by kernel_rfl) ?q53 (Or.inl ⟨?g53, ?y53⟩) (by assumption) ?r53; (case' a53 => (simp only [List.getElem?_toArray, List.getElem?_cons_zero, List.getElem?_cons_succ]; rfl)); (case' q53 => (exact fun _ _ _ h => h)); (case' g53 => rfl); (case' y53 => (intro w hSw; (try dsimp only at hSw); go_simp; try with_reducible rfl)); (case' r53 => (try simp only [Act.put, List.setIfInBounds_toArray, List.set_cons_zero, List.set_cons_succ]))
              refine wpAnyH_take (i := 7) (oi := ?o54) (v := ?v54) ?a54 (by kernel_rfl) (by kernel_rfl) (by kernel_rfl) ?q54 (Or.inl ⟨?g54, ?y54⟩) (by assumption) ?r54; (case' a54 => (simp only [List.getElem?_toArray, List.getElem?_cons_zero, List.getElem?_cons_succ]; rfl)); (case' q54 => (exact fun _ _ _ h => h)); (case' g54 => rfl); (case' y54 => (intro w hSw; (try dsimp only at hSw); go_simp; try with_reducible rfl)); (case' r54 => (try simp only [Act.put, List.setIfInBounds_toArray, List.set_cons_zero, List.set_cons_succ]))
              refine wpAnyH_take (i := 8) (oi := ?o55) (v := ?v55) ?a55 (by kernel_rfl) (by kernel_rfl) (by kernel_rfl) ?q55 (Or.inl ⟨?g55, ?y55⟩) (by assumption) ?r55; (case' a55 => (simp only [List.getElem?_toArray, List.getElem?_cons_zero, List.getElem?_cons_succ]; rfl)); (case' q55 => (exact fun _ _ _ h => h)); (case' g55 => rfl); (case' y55 => (intro w hSw; (try dsimp only at hSw); go_simp; try with_reducible rfl)); (case' r55 => (try simp only [Act.put, List.setIfInBounds_toArray, List.set_cons_zero, List.set_cons_succ]))
              refine wpAnyH_take (i := 9) (oi := ?o56) (v := ?v56) ?a56 (by kernel_rfl) (by kernel_rfl) (by kernel_rfl) ?q56 (Or.inl ⟨?g56, ?y56⟩) (by assumption) ?r56; (case' a56 => (simp only [List.getElem?_toArray, List.getElem?_cons_zero, List.getElem?_cons_succ]; rfl)); (case' q56 => (exact fun _ _ _ h => h)); (case' g56 => rfl); (case' y56 => (intro w hSw; (try dsimp only at hSw); go_simp; try with_reducible rfl)); (case' r56 => (try simp only [Act.put, List.setIfInBounds_toArray, List.set_cons_zero, List.set_cons_succ]))
              refine wpAnyH_take (i := 10) (oi := ?o57) (v := ?v57) ?a57 (by kernel_rfl) (by kernel_rfl) (by kernel_rfl) ?q57 (Or.inl ⟨?g57, ?y57⟩) (by assumption) ?r57; (case' a57 => (simp only [List.getElem?_toArray, List.getElem?_cons_zero, List.getElem?_cons_succ]; rfl)); (case' q57 => (exact fun _ _ _ h => h)); (case' g57 => rfl); (case' y57 => (intro w hSw; (try dsimp only at hSw); go_simp; try with_reducible rfl)); (case' r57 => (try simp only [Act.put, List.setIfInBounds_toArray, List.set_cons_zero, List.set_cons_succ]))
              refine wpAnyH_take (i := 11) (oi := ?o58) (v := ?v58) ?a58 (by kernel_rfl) (by kernel_rfl) (by kernel_rfl) ?q58 (Or.inl ⟨?g58, ?y58⟩) (by assumption) ?r58; (case' a58 => (simp only [List.getElem?_toArray, List.getElem?_cons_zero, List.getElem?_cons_succ]; rfl)); (case' q58 => (exact fun _ _ _ h => h)); (case' g58 => rfl); (case' y58 => (intro w hSw; (try dsimp only at hSw); go_simp; try with_reducible rfl)); (case' r58 => (try simp only [Act.put, List.setIfInBounds_toArray, List.set_cons_zero, List.set_cons_succ]))
              refine wpAnyH_take (i := 12) (oi := ?o59) (v := ?v59) ?a59 (by kernel_rfl) (by kernel_rfl) (by kernel_rfl) ?q59 (Or.inl ⟨?g59, ?y59⟩) (by assumption) ?r59; (case' a59 => (simp only [List.getElem?_toArray, List.getElem?_cons_zero, List.getElem?_cons_succ]; rfl)); (case' q59 => (exact fun _ _ _ h => h)); (case' g59 => rfl); (case' y59 => (intro w hSw; (try dsimp only at hSw); go_simp; try with_reducible rfl)); (case' r59 => (try simp only [Act.put, List.setIfInBounds_toArray, List.set_cons_zero, List.set_cons_succ]))
              refine wpAnyH_take (i := 13) (oi := ?o60) (v := ?v60) ?a60 (by kernel_rfl) (by kernel_rfl) (by kernel_rfl) ?q60 (Or.inl ⟨?g60, ?y60⟩) (by assumption) ?r60; (case' a60 => (simp only [List.getElem?_toArray, List.getElem?_cons_zero, List.getElem?_cons_succ]; rfl)); (case' q60 => (exact fun _ _ _ h => h)); (case' g60 => rfl); (case' y60 => (intro w hSw; (try dsimp only at hSw); go_simp; try with_reducible rfl)); (case' r60 => (try simp only [Act.put, List.setIfInBounds_toArray, List.set_cons_zero, List.set_cons_succ]))
              refine wpAnyH_take (i := 14) (oi := ?o61) (v := ?v61) ?a61 (by kernel_rfl) (by kernel_rfl) (by kernel_rfl) ?q61 (Or.inl ⟨?g61, ?y61⟩) (by assumption) ?r61; (case' a61 => (simp only [List.getElem?_toArray, List.getElem?_cons_zero, List.getElem?_cons_succ]; rfl)); (case' q61 => (exact fun _ _ _ h => h)); (case' g61 => rfl); (case' y61 => (intro w hSw; (try dsimp only at hSw); go_simp; try with_reducible rfl)); (case' r61 => (try simp only [Act.put, List.setIfInBounds_toArray, List.set_cons_zero, List.set_cons_succ]))
              refine wpAnyH_take (i := 15) (oi := ?o62) (v := ?v62) ?a62 (by kernel_rfl) (by kernel_rfl) (by kernel_rfl) ?q62 (Or.inl ⟨?g62, ?y62⟩) (by assumption) ?r62; (case' a62 => (simp only [List.getElem?_toArray, List.getElem?_cons_zero, List.getElem?_cons_succ]; rfl)); (case' q62 => (exact fun _ _ _ h => h)); (case' g62 => rfl); (case' y62 => (intro w hSw; (try dsimp only at hSw); go_simp; try with_reducible rfl)); (case' r62 => (try simp only [Act.put, List.setIfInBounds_toArray, List.set_cons_zero, List.set_cons_succ]))
              refine wpAnyH_take (i := 16) (oi := ?o63) (v := ?v63) ?a63 (by kernel_rfl) (by kernel_rfl) (by kernel_rfl) ?q63 (Or.inl ⟨?g63, ?y63⟩) (by assumption) ?r63; (case' a63 => (simp only [List.getElem?_toArray, List.getElem?_cons_zero, List.getElem?_cons_succ]; rfl)); (case' q63 => (exact fun _ _ _ h => h)); (case' g63 => rfl); (case' y63 => (intro w hSw; (try dsimp only at hSw); go_simp; try with_reducible rfl)); (case' r63 => (try simp only [Act.put, List.setIfInBounds_toArray, List.set_cons_zero, List.set_cons_succ]))
              refine wpAnyH_take (i := 17) (oi := ?o64) (v := ?v64) ?a64 (by kernel_rfl) (by kernel_rfl) (by kernel_rfl) ?q64 (Or.inl ⟨?g64, ?y64⟩) (by assumption) ?r64; (case' a64 => (simp only [List.getElem?_toArray, List.getElem?_cons_zero, List.getElem?_cons_succ]; rfl)); (case' q64 => (exact fun _ _ _ h => h)); (case' g64 => rfl); (case' y64 => (intro w hSw; (try dsimp only at hSw); go_simp; try with_reducible rfl)); (case' r64 => (try simp only [Act.put, List.setIfInBounds_toArray, List.set_cons_zero, List.set_cons_succ]))
              refine wpAnyH_take (i := 18) (oi := ?o65) (v := ?v65) ?a65 (by kernel_rfl) (by kernel_rfl) (by kernel_rfl) ?q65 (Or.inl ⟨?g65, ?y65⟩) (by assumption) ?r65; (case' a65 => (simp only [List.getElem?_toArray, List.getElem?_cons_zero, List.getElem?_cons_succ]; rfl)); (case' q65 => (exact fun _ _ _ h => h)); (case' g65 => rfl); (case' y65 => (intro w hSw; (try dsimp only at hSw); go_simp; try with_reducible rfl)); (case' r65 => (try simp only [Act.put, List.setIfInBounds_toArray, List.set_cons_zero, List.set_cons_succ]))
              refine wpAnyH_ready (rs := [19]) (by kernel_rfl) (by simp) ?_
              refine AllReadyH.cons (o := ?o66) ?a66 (fun K hK => ?s66) ?m66; (case' a66 => (simp only [List.getElem?_toArray, List.getElem?_cons_zero, List.getElem?_cons_succ]; rfl))
              case s66 =>
                go_simp
                go_at_call 26
                refine (BEF _).mono ?_
                rintro e wn ⟨rfl, hbn⟩
                go_wp2_with fail
                refine hK.out _ _ (keep8 hHeld hbn) (fun hHeld => ?_)
                clear hK K
                (try simp only [Act.put, List.setIfInBounds_toArray, List.set_cons_zero, List.set_cons_succ])
                refine wpAnyH_take (i := 20) (oi := ?o67) (v := ?v67) ?a67 (by kernel_rfl) (by kernel_rfl) (by kernel_rfl) ?q67 (Or.inl ⟨?g67, ?y67⟩) (by assumption) ?r67; (case' a67 => (simp only [List.getElem?_toArray, List.getElem?_cons_zero, List.getElem?_cons_succ]; rfl)); (case' q67 => (exact fun _ _ _ h => h)); (case' g67 => rfl); (case' y67 => (intro w hSw; (try dsimp only at hSw); go_simp; try with_reducible rfl)); (case' r67 => (try simp only [Act.put, List.setIfInBounds_toArray, List.set_cons_zero, List.set_cons_succ]))
                refine wpAnyH_take (i := 21) (oi := ?o68) (v := ?v68) ?a68 (by kernel_rfl) (by kernel_rfl) (by kernel_rfl) ?q68 (Or.inl ⟨?g68, ?y68⟩) (by assumption) ?r68; (case' a68 => (simp only [List.getElem?_toArray, List.getElem?_cons_zero, List.getElem?_cons_succ]; rfl)); (case' q68 => (exact fun _ _ _ h => h)); (case' g68 => rfl); (case' y68 => (intro w hSw; (try dsimp only at hSw); go_simp; try with_reducible rfl)); (case' r68 => (try simp only [Act.put, List.setIfInBounds_toArray, List.set_cons_zero, List.set_cons_succ]))
                refine wpAnyH_take (i := 22) (oi := ?o69) (v := ?v69) ?a69 (by kernel_rfl) (by kernel_rfl) (by kernel_rfl) ?q69 (Or.inl ⟨?g69, ?y69⟩) (by assumption) ?r69; (case' a69 => (simp only [List.getElem?_toArray, List.getElem?_cons_zero, List.getElem?_cons_succ]; rfl)); (case' q69 => (exact fun _ _ _ h => h)); (case' g69 => rfl); (case' y69 => (intro w hSw; (try dsimp only at hSw); go_simp; try with_reducible rfl)); (case' r69 => (try simp only [Act.put, List.setIfInBounds_toArray, List.set_cons_zero, List.set_cons_succ]))
                refine wpAnyH_done (by kernel_rfl) ?_ _
                have HWN := Lib.hid hHeld.2
                clear hHeld
                go_wp2_with fail
                go_roundw
                case rel => exact ⟨k + 1, by omega, by go_num, HNX, HWN⟩
                case measure => simp [intOf]; omega
              exact AllReadyH.nil
            exact AllReadyH.nil
          | false =>
            have HX1 : Hid (x = 1) := Lib.hid (load_no HX.out HKN.out (fun q => by have := (q _ HST.out).2 j4 _ HPR.out; rw [hr] at this; cases this))
            clear hr
            refine wp_region_held_drew (S := fun w' => ((w'.cell? ⟨ga, oo + k * 4, none⟩ = some (.string gr) ∧ w'.cell? ⟨ga, oo + k * 4 + 1, none⟩ = some (.string t) ∧ w'.cell? ⟨ga, oo + k * 4 + 2, none⟩ = some (.int .i64 p) ∧ w'.cell? ⟨ga, oo + k * 4 + 3, none⟩ = some (.int .i64 o)) ∧ (w'.cell? ⟨ga, oo + j * 4, none⟩ = some (.string g2) ∧ w'.cell? ⟨ga, oo + j * 4 + 1, none⟩ = some (.string t2) ∧ w'.cell? ⟨ga, oo + j * 4 + 2, none⟩ = some (.int .i64 p2) ∧ w'.cell? ⟨ga, oo + j * 4 + 3, none⟩ = some (.int .i64 o2))) ∧ Below w.heap.size w w') (by kernel_rfl) (keep8 ⟨⟨BB.out, PP.out⟩, HBJ.out⟩ (Below.refl _ _).drew) (fun hHeld => ?_)
            refine wpAnyH_take (i := 0) (oi := ?o70) (v := ?v70) ?a70 (by kernel_rfl) (by kernel_rfl) (by kernel_rfl) ?q70 (Or.inl ⟨?g70, ?y70⟩) (by assumption) ?r70; (case' a70 => (simp only [List.getElem?_toArray, List.getElem?_cons_zero]; rfl)); (case' q70 => (exact fun _ _ _ h => h)); (case' g70 => rfl); (case' y70 => (intro w hSw; (try dsimp only at hSw); go_simp; try with_reducible rfl)); (case' r70 => (try simp only [Act.put, List.setIfInBounds_toArray, List.set_cons_zero, List.set_cons_succ]))
            refine wpAnyH_take (i := 1) (oi := ?o71) (v := ?v71) ?a71 (by kernel_rfl) (by kernel_rfl) (by kernel_rfl) ?q71 (Or.inl ⟨?g71, ?y71⟩) (by assumption) ?r71; (case' a71 => (simp only [List.getElem?_toArray, List.getElem?_cons_zero, List.getElem?_cons_succ]; rfl)); (case' q71 => (exact fun _ _ _ h => h)); (case' g71 => rfl); (case' y71 => (intro w hSw; (try dsimp only at hSw); go_simp; try with_reducible rfl)); (case' r71 => (try simp only [Act.put, List.setIfInBounds_toArray, List.set_cons_zero, List.set_cons_succ]))
            refine wpAnyH_take (i := 2) (oi := ?o72) (v := ?v72) ?a72 (by kernel_rfl) (by kernel_rfl) (by kernel_rfl) ?q72 (Or.inl ⟨?g72, ?y72⟩) (by assumption) ?r72; (case' a72 => (simp only [List.getElem?_toArray, List.getElem?_cons_zero, List.getElem?_cons_succ]; rfl)); (case' q72 => (exact fun _ _ _ h => h)); (case' g72 => rfl); (case' y72 => (intro w hSw; (try dsimp only at hSw); go_simp; try with_reducible rfl)); (case' r72 => (try simp only [Act.put, List.setIfInBounds_toArray, List.set_cons_zero, List.set_cons_succ]))
            refine wpAnyH_take (i := 3) (oi := ?o73) (v := ?v73) ?a73 (by kernel_rfl) (by kernel_rfl) (by kernel_rfl) ?q73 (Or.inl ⟨?g73, ?y73⟩) (by assumption) ?r73; (case' a73 => (simp only [List.getElem?_toArray, List.getElem?_cons_zero, List.getElem?_cons_succ]; rfl)); (case' q73 => (exact fun _ _ _ h => h)); (case' g73 => rfl); (case' y73 => (intro w hSw; (try dsimp only at hSw); go_simp; try with_reducible rfl)); (case' r73 => (try simp only [Act.put, List.setIfInBounds_toArray, List.set_cons_zero, List.set_cons_succ]))
            refine wpAnyH_ready (rs := [4]) (by kernel_rfl) (by simp) ?_
            refine AllReadyH.cons (o := ?o74) ?a74 (fun K hK => ?s74) ?m74; (case' a74 => (simp only [List.getElem?_toArray, List.getElem?_cons_zero, List.getElem?_cons_succ]; rfl))
            case s74 =>
              go_simp
              go_at_call 25
              refine (MAY _).mono ?_
              rintro e wn ⟨rfl, hbn⟩
              go_wp2_with fail
              refine hK.out _ _ (keep8 hHeld hbn) (fun hHeld => ?_)
              clear hK K
              (try simp only [Act.put, List.setIfInBounds_toArray, List.set_cons_zero, List.set_cons_succ])
              refine wpAnyH_take (i := 5) (oi := ?o75) (v := ?v75) ?a75 (by kernel_rfl) (by kernel_rfl) (by kernel_rfl) ?q75 (Or.inl ⟨?g75, ?y75⟩) (by assumption) ?r75; (case' a75 => (simp only [List.getElem?_toArray, List.getElem?_cons_zero, List.getElem?_cons_succ]; rfl)); (case' q75 => (exact fun _ _ _ h => h)); (case' g75 => rfl); (case' y75 => (intro w hSw; (try dsimp only at hSw); go_simp; try with_reducible rfl)); (case' r75 => (try simp only [Act.put, List.setIfInBounds_toArray, List.set_cons_zero, List.set_cons_succ]))
              refine wpAnyH_take (i := 6) (oi := ?o76) (v := ?v76) ?a76 (by kernel_rfl) (by kernel_rfl) (by kernel_rfl) ?q76 (Or.inl ⟨?g76, ?y76⟩) (by assumption) ?r76; (case' a76 => (simp only [List.getElem?_toArray, List.getElem?_cons_zero, List.getElem?_cons_succ]; rfl)); (case' q76 => (exact fun _ _ _ h => h)); (case' g76 => rfl); (case' y76 => (intro w hSw; (try dsimp only at hSw); go_simp; try with_reducible rfl)); (case' r76 => (try simp only [Act.put, List.setIfInBounds_toArray, List.set_cons_zero, List.set_cons_succ]))
              refine wpAnyH_take (i := 7) (oi := ?o77) (v := ?v77) ?a77 (by kernel_rfl) (by kernel_rfl) (by kernel_rfl) ?q77 (Or.inl ⟨?g77, ?y77⟩) (by assumption) ?r77; (case' a77 => (simp only [List.getElem?_toArray, List.getElem?_cons_zero, List.getElem?_cons_succ]; rfl)); (case' q77 => (exact fun _ _ _ h => h)); (case' g77 => rfl); (case' y77 => (intro w hSw; (try dsimp only at hSw); go_simp; try with_reducible rfl)); (case' r77 => (try simp only [Act.put, List.setIfInBounds_toArray, List.set_cons_zero, List.set_cons_succ]))
              refine wpAnyH_take (i := 8) (oi := ?o78) (v := ?v78) ?a78 (by kernel_rfl) (by kernel_rfl) (by kernel_rfl) ?q78 (Or.inl ⟨?g78, ?y78⟩) (by assumption) ?r78; (case' a78 => (simp only [List.getElem?_toArray, List.getElem?_cons_zero, List.getElem?_cons_succ]; rfl)); (case' q78 => (exact fun _ _ _ h => h)); (case' g78 => rfl); (case' y78 => (intro w hSw; (try dsimp only at hSw); go_simp; try with_reducible rfl)); (case' r78 => (try simp only [Act.put, List.setIfInBounds_toArray, List.set_cons_zero, List.set_cons_succ]))
              refine wpAnyH_take (i := 9) (oi := ?o79) (v := ?v79) ?a79 (by kernel_rfl) (by kernel_rfl) (by kernel_rfl) ?q79 (Or.inl ⟨?g79, ?y79⟩) (by assumption) ?r79; (case' a79 => (simp only [List.getElem?_toArray, List.getElem?_cons_zero, List.getElem?_cons_succ]; rfl)); (case' q79 => (exact fun _ _ _ h => h)); (case' g79 => rfl); (case' y79 => (intro w hSw; (try dsimp only at hSw); go_simp; try with_reducible rfl)); (case' r79 => (try simp only [Act.put, List.setIfInBounds_toArray, List.set_cons_zero, List.set_cons_succ]))
              refine wpAnyH_take (i := 10) (oi := ?o80) (v := ?v80) ?a80 (by kernel_rfl) (by kernel_rfl) (by kernel_rfl) ?q80 (Or.inl ⟨?g80, ?y80⟩) (by assumption) ?r80; (case' a80 => (simp only [List.getElem?_toArray, List.getElem?_cons_zero, List.getElem?_cons_succ]; rfl)); (case' q80 => (exact fun _ _ _ h => h)); (case' g80 => rfl); (case' y80 => (intro w hSw; (try dsimp only at hSw); go_simp; try with_reducible rfl)); (case' r80 => (try simp only [Act.put, List.setIfInBounds_toArray, List.set_cons_zero, List.set_cons_succ]))
              refine wpAnyH_take (i := 11) (oi := ?o81) (v := ?v81) ?a81 (by kernel_rfl) (by kernel_rfl) (by kernel_rfl) ?q81 (Or.inl ⟨?g81, ?y81⟩) (by assumption) ?r81; (case' a81 => (simp only [List.getElem?_toArray, List.getElem?_cons_zero, List.getElem?_cons_succ]; rfl)); (case' q81 => (exact fun _ _ _ h => h)); (case' g81 => rfl); (case' y81 => (intro w hSw; (try dsimp only at hSw); go_simp; try with_reducible rfl)); (case' r81 => (try simp only [Act.put, List.setIfInBounds_toArray, List.set_cons_zero, List.set_cons_succ]))
              refine wpAnyH_take (i := 12) (oi := ?o82) (v := ?v82) ?a82 (by kernel_rfl) (by kernel_rfl) (by kernel_rfl) ?q82 (Or.inl ⟨?g82, ?y82⟩) (by assumption) ?r82; (case' a82 => (simp only [List.getElem?_toArray, List.getElem?_cons_zero, List.getElem?_cons_succ]; rfl)); (case' q82 => (exact fun _ _ _ h => h)); (case' g82 => rfl); (case' y82 => (intro w hSw; (try dsimp only at hSw); go_simp; try with_reducible rfl)); (case' r82 => (try simp only [Act.put, List.setIfInBounds_toArray, List.set_cons_zero, List.set_cons_succ]))
              refine wpAnyH_take (i := 13) (oi := ?o83) (v := ?v83) ?a83 (by kernel_rfl) (by kernel_rfl) (by kernel_rfl) ?q83 (Or.inl ⟨?g83, ?y83⟩) (by assumption) ?r83; (case' a83 => (simp only [List.getElem?_toArray, List.getElem?_cons_zero, List.getElem?_cons_succ]; rfl)); (case' q83 => (exact fun _ _ _ h => h)); (case' g83 => rfl); (case' y83 => (intro w hSw; (try dsimp only at hSw); go_simp; try with_reducible rfl)); (case' r83 => (try simp only [Act.put, List.setIfInBounds_toArray, List.set_cons_zero, List.set_cons_succ]))
              refine wpAnyH_take (i := 14) (oi := ?o84) (v := ?v84) ?a84 (by kernel_rfl) (by kernel_rfl) (by kernel_rfl) ?q84 (Or.inl ⟨?g84, ?y84⟩) (by assumption) ?r84; (case' a84 => (simp only [List.getElem?_toArray, List.getElem?_cons_zero, List.getElem?_cons_succ]; rfl)); (case' q84 => (exact fun _ _ _ h => h)); (case' g84 => rfl); (case' y84 => (intro w hSw; (try dsimp only at hSw); go_simp; try with_reducible rfl)); (case' r84 => (try simp only [Act.put, List.setIfInBounds_toArray, List.set_cons_zero, List.set_cons_succ]))
              refine wpAnyH_take (i := 15) (oi := ?o85) (v := ?v85) ?a85 (by kernel_rfl) (by kernel_rfl) (by kernel_rfl) ?q85 (Or.inl ⟨?g85, ?y85⟩) (by assumption) ?r85; (case' a85 => (simp only [List.getElem?_toArray, List.getElem?_cons_zero, List.getElem?_cons_succ]; rfl)); (case' q85 => (exact fun _ _ _ h => h)); (case' g85 => rfl); (case' y85 => (intro w hSw; (try dsimp only at hSw); go_simp; try with_reducible rfl)); (case' r85 => (try simp only [Act.put, List.setIfInBounds_toArray, List.set_cons_zero, List.set_cons_succ]))
              refine wpAnyH_take (i := 16) (oi := ?o86) (v := ?v86) ?a86 (by kernel_rfl) (by kernel_rfl) (by kernel_rfl) ?q86 (Or.inl ⟨?g86, ?y86⟩) (by assumption) ?r86; (case' a86 => (simp only [List.getElem?_toArray, List.getElem?_cons_zero, List.getElem?_cons_succ]; rfl)); (case' q86 => (exact fun _ _ _ h => h)); (case' g86 => rfl); (case' y86 => (intro w hSw; (try dsimp only at hSw); go_simp; try with_reducible rfl)); (case' r86 => (try simp only [Act.put, List.setIfInBounds_toArray, List.set_cons_zero, List.set_cons_succ]))
              refine wpAnyH_take (i := 17) (oi := ?o87) (v := ?v87) ?a87 (by kernel_rfl) (by kernel_rfl) (by kernel_rfl) ?q87 (Or.inl ⟨?g87, ?y87⟩) (by assumption) ?r87; (case' a87 => (simp only [List.getElem?_toArray, List.getElem?_cons_zero, List.getElem?_cons_succ]; rfl)); (case' q87 => (exact fun _ _ _ h => h)); (case' g87 => rfl); (case' y87 => (intro w hSw; (try dsimp only at hSw); go_simp; try with_reducible rfl)); (case' r87 => (try simp only [Act.put, List.setIfInBounds_toArray, List.set_cons_zero, List.set_cons_succ]))
              refine wpAnyH_take (i := 18) (oi := ?o88) (v := ?v88) ?a88 (by kernel_rfl) (by kernel_rfl) (by kernel_rfl) ?q88 (Or.inl ⟨?g88, ?y88⟩) (by assumption) ?r88; (case' a88 => (simp only [List.getElem?_toArray, List.getElem?_cons_zero, List.getElem?_cons_succ]; rfl)); (case' q88 => (exact fun _ _ _ h => h)); (case' g88 => rfl); (case' y88 => (intro w hSw; (try dsimp only at hSw); go_simp; try with_reducible rfl)); (case' r88 => (try simp only [Act.put, List.setIfInBounds_toArray, List.set_cons_zero, List.set_cons_succ]))
              refine wpAnyH_ready (rs := [19]) (by kernel_rfl) (by simp) ?_
              refine AllReadyH.cons (o := ?o89) ?a89 (fun K hK => ?s89) ?m89; (case' a89 => (simp only [List.getElem?_toArray, List.getElem?_cons_zero, List.getElem?_cons_succ]; rfl))
              case s89 =>
                go_simp
                go_at_call 26
                refine (BEF _).mono ?_
                rintro e wn ⟨rfl, hbn⟩
                go_wp2_with fail
                refine hK.out _ _ (keep8 hHeld hbn) (fun hHeld => ?_)
                clear hK K
                (try simp only [Act.put, List.setIfInBounds_toArray, List.set_cons_zero, List.set_cons_succ])
                refine wpAnyH_take (i := 20) (oi := ?o90) (v := ?v90) ?a90 (by kernel_rfl) (by kernel_rfl) (by kernel_rfl) ?q90 (Or.inl ⟨?g90, ?y90⟩) (by assumption) ?r90; (case' a90 => (simp only [List.getElem?_toArray, List.getElem?_cons_zero, List.getElem?_cons_succ]; rfl)); (case' q90 => (exact fun _ _ _ h => h)); (case' g90 => rfl); (case' y90 => (intro w hSw; (try dsimp only at hSw); go_simp; try with_reducible rfl)); (case' r90 => (try simp only [Act.put, List.setIfInBounds_toArray, List.set_cons_zero, List.set_cons_succ]))
                refine wpAnyH_take (i := 21) (oi := ?o91) (v := ?v91) ?a91 (by kernel_rfl) (by kernel_rfl) (by kernel_rfl) ?q91 (Or.inl ⟨?g91, ?y91⟩) (by assumption) ?r91; (case' a91 => (simp only [List.getElem?_toArray, List.getElem?_cons_zero, List.getElem?_cons_succ]; rfl)); (case' q91 => (exact fun _ _ _ h => h)); (case' g91 => rfl); (case' y91 => (intro w hSw; (try dsimp only at hSw); go_simp; try with_reducible rfl)); (case' r91 => (try simp only [Act.put, List.setIfInBounds_toArray, List.set_cons_zero, List.set_cons_succ]))
                refine wpAnyH_take (i := 22) (oi := ?o92) (v := ?v92) ?a92 (by kernel_rfl) (by kernel_rfl) (by kernel_rfl) ?q92 (Or.inl ⟨?g92, ?y92⟩) (by assumption) ?r92; (case' a92 => (simp only [List.getElem?_toArray, List.getElem?_cons_zero, List.getElem?_cons_succ]; rfl)); (case' q92 => (exact fun _ _ _ h => h)); (case' g92 => rfl); (case' y92 => (intro w hSw; (try dsimp only at hSw); go_simp; try with_reducible rfl)); (case' r92 => (try simp only [Act.put, List.setIfInBounds_toArray, List.set_cons_zero, List.set_cons_succ]))
                refine wpAnyH_done (by kernel_rfl) ?_ _
                have HWN := Lib.hid hHeld.2
                clear hHeld
                go_wp2_with fail
                go_ret2
                exact ⟨HWN.out, .inl ⟨by rw [HX1.out]; decide, by rw [HX1.out]; rfl⟩⟩
              exact AllReadyH.nil
            exact AllReadyH.nil
    · have hkn : k = n := by omega
      have HX0 : Hid (x = 0) := Lib.hid (by
        have hok : OkTo l l.length := by rw [hE.out.len, ← hkn]; exact HOK.out
        rcases HX.out with ⟨h, _⟩ | ⟨_, h⟩
        · exact h
        · exact absurd hok h)
      have q3 : ¬ (k : Int) < (n : Int) := by omega
      have hw := HBJ.out.size
      have HL1 : Hid ((rowM l).length = n * 4) := Lib.hid (by rw [rowM_len, hE.out.len])
      have HSRC : Hid (∀ w', Below w.heap.size w w' → Src w' A (rowM l)) := Lib.hid (fun w' hb => (reads_src hE.out.rd (fun e => List.eq_nil_of_length_eq_zero (by rw [hE.out.len]; exact (hnil.out e).1))).below hb)
      have hB1 : Below w.heap.size w (wr.alloc (.cells #[] 32)) := HBJ.out.alloc hw _
      clear hkn hlt
      go_wp2_with (at_builtin; refine wpList_append_src (by rfl) _ _ 26 (by rfl) w.heap.size 32 i0 _ 4 48 Try.underlying26 hi0 hz0 hz1 hz2 rfl (by decide) _ 0 [] (by rfl) (World.ownsRow_made wr #[] 0 hw (by unfold maxLen; omega) rfl) A n cap (rowM l) (by rfl) HL1.out (HSRC.out _ hB1) hnil.out (rowM_one _) (by unfold maxLen; omega) (by omega) (by simp; omega) ?_; intro v3 w3 hown3 hgrow3; rw [Nat.zero_add, List.nil_append] at hown3; have hB3 : Below w.heap.size w w3 := hB1.grown hgrow3 (by simp; omega) (fun q e => by simp [Value.ownBlock] at e; omega); obtain ⟨A3, c3, rfl⟩ := own_len hown3; have hw3 := hB3.size)
      go_ret2
      exact ⟨hB3.alloc hw3 _, .inr ⟨HX0.out, _, rfl⟩⟩
end Go.Proofs.Ytcpfihagcmadcaa.L12
