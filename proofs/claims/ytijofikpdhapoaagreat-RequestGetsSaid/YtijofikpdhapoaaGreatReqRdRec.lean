/-
  Contracts: the reader's next record.
-/
import Derived.Test.YtijofikpdhapoaaGreatReqRdM
namespace Go.Proofs.YtijofikpdhapoaaGreat.L4
open Go.RowKit
open L3

theorem set4 {w : World} {H : Nat} {a0 a1 a2 a3 v0 v1 v2 v3 : Value} {T : TypeId} (h : w.heap[H]? = some (.cells #[a0, a1, a2, a3] T (0, 0))) :
    ((((w.setCell ⟨H, 0, none⟩ v0).setCell ⟨H, 1, none⟩ v1).setCell ⟨H, 2, none⟩ v2).setCell ⟨H, 3, none⟩ v3).heap[H]? = some (.cells #[v0, v1, v2, v3] T (0, 0)) :=
  heap_setCell_same _ H 3 _ _ v3 (heap_setCell_same _ H 2 _ _ v2 (heap_setCell_same _ H 1 _ _ v1 (heap_setCell_same _ H 0 _ _ v0 h)))
theorem set4_other {w : World} {H k : Nat} {v0 v1 v2 v3 : Value} (hk : k ≠ H) :
    ((((w.setCell ⟨H, 0, none⟩ v0).setCell ⟨H, 1, none⟩ v1).setCell ⟨H, 2, none⟩ v2).setCell ⟨H, 3, none⟩ v3).heap[k]? = w.heap[k]? := by
  rw [heap_setCell_other _ ⟨H, 3, none⟩ k _ hk, heap_setCell_other _ ⟨H, 2, none⟩ k _ hk, heap_setCell_other _ ⟨H, 1, none⟩ k _ hk, heap_setCell_other _ ⟨H, 0, none⟩ k _ hk]
theorem set4_below {w w1 : World} {B H : Nat} (h : Below B w w1) (hH : B ≤ H) (v0 v1 v2 v3 : Value) :
    Below B w ((((w1.setCell ⟨H, 0, none⟩ v0).setCell ⟨H, 1, none⟩ v1).setCell ⟨H, 2, none⟩ v2).setCell ⟨H, 3, none⟩ v3) :=
  (((h.setCell (p := ⟨H, 0, none⟩) hH v0).setCell (p := ⟨H, 1, none⟩) hH v1).setCell (p := ⟨H, 2, none⟩) hH v2).setCell (p := ⟨H, 3, none⟩) hH v3
/-- behind the last store -/
theorem rec_post {w w2 : World} {P : Nat} {s : ByteArray} {q : Option Int} (hP : P < w.heap.size) (hr : Rdr P s q w2) (hg : w.grownBy w2 (some P)) (v0 v1 v2 v3 : Value) :
    Rdr P s q ((((w2.setCell ⟨w.heap.size, 0, none⟩ v0).setCell ⟨w.heap.size, 1, none⟩ v1).setCell ⟨w.heap.size, 2, none⟩ v2).setCell ⟨w.heap.size, 3, none⟩ v3) ∧ w.grownBy ((((w2.setCell ⟨w.heap.size, 0, none⟩ v0).setCell ⟨w.heap.size, 1, none⟩ v1).setCell ⟨w.heap.size, 2, none⟩ v2).setCell ⟨w.heap.size, 3, none⟩ v3) (some P) := by
  obtain ⟨a, h1, h2⟩ := hr
  exact ⟨⟨a, (set4_other (by omega)).trans h1, h2⟩, g_store (g_store (g_store (g_store hg (Nat.le_refl _)) (Nat.le_refl _)) (Nat.le_refl _)) (Nat.le_refl _)⟩


set_option maxRecDepth 100000 in
set_option maxHeartbeats 4000000 in
theorem get_rec (P : Nat) (s : ByteArray) (p q : Option Int) (r : R) (w : World) (hs : s.size ≤ 140737488355328) (HN : Hid (rRec s p = (r, q))) (h : Rdr P s p w) :
    Calls Tryz.prog 40 #[.pointer (some ⟨P, 0, none⟩)] w fun x w' => x = .returned (.agg #[.bool r.hk, .string r.key, .bool r.tb, .string r.val]) ∧ Rdr P s q w' ∧ w.grownBy w' (some P) := by
  have HR := Lib.hid h
  obtain ⟨a, h1, h2⟩ := h
  have H1 := Lib.hid h1
  have HLT := Lib.hid (at_lt h1)
  have x0 : w.cell? ⟨P, 0, none⟩ = some (.string s) := row_of h1 rfl
  have x1 : w.cell? ⟨P, 1, none⟩ = some (.int .i64 a) := row_of h1 rfl
  have HS : Hid (∀ w', Below w.heap.size w w' → (w'.cell? ⟨P, 0, none⟩ = some (.string s) ∧ w'.cell? ⟨P, 1, none⟩ = some (.int .i64 a)) ∧ Below w.heap.size w w') := Lib.hid (fun w' hb => ⟨⟨row_of ((hb.block P (at_lt h1)).trans h1) rfl, row_of ((hb.block P (at_lt h1)).trans h1) rfl⟩, hb⟩)
  obtain ⟨m, to, e, hg⟩ : ∃ m to e, getR s a = (m, to, e) := ⟨_, _, _, rfl⟩
  have hN := HN.out
  rw [step_rec h2 hg] at hN
  have HG := Lib.hid hg
  obtain ⟨y, hy⟩ : ∃ y, (stepTo p to e).isSome = y := ⟨_, rfl⟩
  rw [hy] at hN
  obtain ⟨hn, hq⟩ := Prod.mk.inj hN
  clear h1 h2 hg hN HN
  have HQ := Lib.hid hq
  have HY := Lib.hid hy
  cases y
  all_goals
    have HNN : Hid (_ = r) := Lib.hid hn
    clear hn hq hy
    go_enter Tryz.func40, Tryz.ntmps40
    go_wp2_with fail
    go_region_held3 (fun w' => (w'.cell? ⟨P, 0, none⟩ = some (.string s) ∧ w'.cell? ⟨P, 1, none⟩ = some (.int .i64 a)) ∧ Below w.heap.size w w')
      (first | with_reducible assumption | exact HS.out _ (one_box _).drew | exact HB1.out | exact HS.out _ (two_box _ _).drew | exact HS.out _ ((HB1.out.2.alloc HB1.out.2.size _)) | (refine HS.out _ ?_; repeat (first | with_reducible exact HB1.out.2 | with_reducible refine Below.drew ?_ | with_reducible refine Below.setCell ?_ (by first | (simp; omega) | simp) _ | with_reducible refine Below.alloc ?_ (by first | (simp; omega) | simp) _)))
      ((go_at_call 70; refine (getrec_is _ _ _ _ _ _ hs HG).mono ?_; rintro e w1 ⟨rfl, hb1⟩; have HB1 : Hid (_ ∧ Below w.heap.size w w1) := Lib.hid (by first | exact HS.out _ ((one_box _).drew.trans (hb1.mono (by simp))) | exact HS.out _ ((two_box _ _).drew.trans (hb1.mono (by simp; omega)))); have HB1S := Lib.hid hb1; try (have rr := (hb1.block (w.heap.size + 1) (by simp)).trans (show _ = _ from heap_alloc2_new w _ _); have q0 := row_of (j := 0) rr rfl; have q1 := row_of (j := 1) rr rfl; have q2 := row_of (j := 2) rr rfl; have q3 := row_of (j := 3) rr rfl; have g0 := frozen_of_row _ _ 0 _ _ rr; have g1 := frozen_of_row _ _ 1 _ _ rr; have g2 := frozen_of_row _ _ 2 _ _ rr; have g3 := frozen_of_row _ _ 3 _ _ rr; have RR := Lib.hid rr; clear rr); clear hb1))
    clear x0 x1
  · have hz := HB1S.out.size
    have hsz : w.heap.size + 1 ≤ w1.heap.size := by simpa using hz
    have hBW := Lib.hid (HB1.out.2.alloc HB1.out.2.size (.cells #[.bool m.hk, .string m.key, .bool m.tb, .string m.val] 35 (0, 0)))
    have r1 := Lib.hid (heap_alloc_new w1 (.cells #[.bool m.hk, .string m.key, .bool m.tb, .string m.val] 35 (0, 0)))
    have r0 := Lib.hid ((Below.heap_alloc w1 (.cells #[.bool m.hk, .string m.key, .bool m.tb, .string m.val] 35 (0, 0)) w.heap.size (by omega)).trans ((HB1S.out.block w.heap.size (by simp)).trans (show _ = _ from heap_alloc_new w _)))
    have HGP : Hid (w1.heap.size ≠ P) := Lib.hid (by have := HLT.out; omega)
    go_wp2_with (go_at_call 32; refine (step_is P s p _ _ _ (HR.out.below hBW.out)).mono ?_; rintro x w2 ⟨rfl, hr2, hg2⟩; rw [HY.out]; have e1 := (hg2.block w.heap.size (by have := hsz; simp; omega) (fun e => by have := Option.some.inj e; have := HLT.out; omega)).trans r0.out; have e2 := (hg2.block w1.heap.size (at_lt r1.out) (fun e => HGP.out (Option.some.inj e))).trans r1.out; have y0 := row_of (j := 0) e1 rfl; have f0 := frozen_of_row _ _ 0 _ _ e1; have y1 := row_of (j := 1) e1 rfl; have f1 := frozen_of_row _ _ 1 _ _ e1; have y2 := row_of (j := 2) e1 rfl; have f2 := frozen_of_row _ _ 2 _ _ e1; have y3 := row_of (j := 3) e1 rfl; have f3 := frozen_of_row _ _ 3 _ _ e1; have z0 := row_of (j := 0) e2 rfl; have z1 := row_of (j := 1) e2 rfl; have z2 := row_of (j := 2) e2 rfl; have z3 := row_of (j := 3) e2 rfl; have E1 := Lib.hid e1; have HR2 := Lib.hid hr2; have HG2 := Lib.hid hg2; clear e1 e2 hr2 hg2)
    rw [HQ.out] at HR2
    have hgw := g_trans (g_below hBW.out) HG2.out
    refine bodyPost_ret (v := .agg #[.bool false, .string ⟨#[]⟩, .bool false, .string ⟨#[]⟩]) (results_cell_row (p := 2) (ty := 35) Tryz.results40 _ _ w.heap.size 35 #[.bool false, .string ⟨#[]⟩, .bool false, .string ⟨#[]⟩] (0, 0) _ rfl (set4 E1.out) Tryz.underlying35 rfl (by kernel_rfl)) rfl ?_
    exact ⟨by rw [← HNN.out]; rfl, rec_post HLT.out HR2 hgw _ _ _ _⟩
  · have hz := HB1S.out.size
    have hsz : w.heap.size + 1 + 1 ≤ w1.heap.size := by simpa using hz
    have hBW := Lib.hid ((((((((HB1.out.2).setCell (p := ⟨w.heap.size + 1, 0, none⟩) (by show w.heap.size ≤ w.heap.size + 1; omega) (.bool m.hk))).setCell (p := ⟨w.heap.size + 1, 1, none⟩) (by show w.heap.size ≤ w.heap.size + 1; omega) (.string m.key))).setCell (p := ⟨w.heap.size + 1, 2, none⟩) (by show w.heap.size ≤ w.heap.size + 1; omega) (.bool m.tb))).setCell (p := ⟨w.heap.size + 1, 3, none⟩) (by show w.heap.size ≤ w.heap.size + 1; omega) (.string m.val))
    have r1 := Lib.hid (set4 (v0 := .bool m.hk) (v1 := .string m.key) (v2 := .bool m.tb) (v3 := .string m.val) RR.out)
    have r0 := Lib.hid ((set4_other (v0 := .bool m.hk) (v1 := .string m.key) (v2 := .bool m.tb) (v3 := .string m.val) (by omega : w.heap.size ≠ w.heap.size + 1)).trans ((HB1S.out.block w.heap.size (by simp; omega)).trans (show _ = _ from heap_alloc2_old w _ _)))
    have HGP : Hid (w.heap.size + 1 ≠ P) := Lib.hid (by have := HLT.out; omega)
    go_wp2_with (go_at_call 32; refine (step_is P s p _ _ _ (HR.out.below hBW.out)).mono ?_; rintro x w2 ⟨rfl, hr2, hg2⟩; rw [HY.out]; have e1 := (hg2.block w.heap.size (by have := hsz; simp; omega) (fun e => by have := Option.some.inj e; have := HLT.out; omega)).trans r0.out; have e2 := (hg2.block (w.heap.size + 1) (at_lt r1.out) (fun e => HGP.out (Option.some.inj e))).trans r1.out; have y0 := row_of (j := 0) e1 rfl; have f0 := frozen_of_row _ _ 0 _ _ e1; have y1 := row_of (j := 1) e1 rfl; have f1 := frozen_of_row _ _ 1 _ _ e1; have y2 := row_of (j := 2) e1 rfl; have f2 := frozen_of_row _ _ 2 _ _ e1; have y3 := row_of (j := 3) e1 rfl; have f3 := frozen_of_row _ _ 3 _ _ e1; have z0 := row_of (j := 0) e2 rfl; have z1 := row_of (j := 1) e2 rfl; have z2 := row_of (j := 2) e2 rfl; have z3 := row_of (j := 3) e2 rfl; have E1 := Lib.hid e1; have HR2 := Lib.hid hr2; have HG2 := Lib.hid hg2; clear e1 e2 hr2 hg2)
    rw [HQ.out] at HR2
    have hgw := g_trans (g_below hBW.out) HG2.out
    refine bodyPost_ret (v := .agg #[.bool false, .string ⟨#[]⟩, .bool false, .string ⟨#[]⟩]) (results_cell_row (p := 2) (ty := 35) Tryz.results40 _ _ w.heap.size 35 #[.bool false, .string ⟨#[]⟩, .bool false, .string ⟨#[]⟩] (0, 0) _ rfl (set4 E1.out) Tryz.underlying35 rfl (by kernel_rfl)) rfl ?_
    exact ⟨by rw [← HNN.out]; rfl, rec_post HLT.out HR2 hgw _ _ _ _⟩
  · have hz := HB1S.out.size
    have hsz : w.heap.size + 1 ≤ w1.heap.size := by simpa using hz
    have hBW := Lib.hid (HB1.out.2.alloc HB1.out.2.size (.cells #[.bool m.hk, .string m.key, .bool m.tb, .string m.val] 35 (0, 0)))
    have r1 := Lib.hid (heap_alloc_new w1 (.cells #[.bool m.hk, .string m.key, .bool m.tb, .string m.val] 35 (0, 0)))
    have r0 := Lib.hid ((Below.heap_alloc w1 (.cells #[.bool m.hk, .string m.key, .bool m.tb, .string m.val] 35 (0, 0)) w.heap.size (by omega)).trans ((HB1S.out.block w.heap.size (by simp)).trans (show _ = _ from heap_alloc_new w _)))
    have HGP : Hid (w1.heap.size ≠ P) := Lib.hid (by have := HLT.out; omega)
    go_wp2_with (go_at_call 32; refine (step_is P s p _ _ _ (HR.out.below hBW.out)).mono ?_; rintro x w2 ⟨rfl, hr2, hg2⟩; rw [HY.out]; have e1 := (hg2.block w.heap.size (by have := hsz; simp; omega) (fun e => by have := Option.some.inj e; have := HLT.out; omega)).trans r0.out; have e2 := (hg2.block w1.heap.size (at_lt r1.out) (fun e => HGP.out (Option.some.inj e))).trans r1.out; have y0 := row_of (j := 0) e1 rfl; have f0 := frozen_of_row _ _ 0 _ _ e1; have y1 := row_of (j := 1) e1 rfl; have f1 := frozen_of_row _ _ 1 _ _ e1; have y2 := row_of (j := 2) e1 rfl; have f2 := frozen_of_row _ _ 2 _ _ e1; have y3 := row_of (j := 3) e1 rfl; have f3 := frozen_of_row _ _ 3 _ _ e1; have z0 := row_of (j := 0) e2 rfl; have z1 := row_of (j := 1) e2 rfl; have z2 := row_of (j := 2) e2 rfl; have z3 := row_of (j := 3) e2 rfl; have E1 := Lib.hid e1; have HR2 := Lib.hid hr2; have HG2 := Lib.hid hg2; clear e1 e2 hr2 hg2)
    rw [HQ.out] at HR2
    have hgw := g_trans (g_below hBW.out) HG2.out
    refine bodyPost_ret (v := .agg #[.bool m.hk, .string m.key, .bool m.tb, .string m.val]) (results_cell_row (p := 2) (ty := 35) Tryz.results40 _ _ w.heap.size 35 #[.bool m.hk, .string m.key, .bool m.tb, .string m.val] (0, 0) _ rfl (set4 E1.out) Tryz.underlying35 rfl (by kernel_rfl)) rfl ?_
    exact ⟨by rw [← HNN.out]; rfl, rec_post HLT.out HR2 hgw _ _ _ _⟩
  · have hz := HB1S.out.size
    have hsz : w.heap.size + 1 + 1 ≤ w1.heap.size := by simpa using hz
    have hBW := Lib.hid ((((((((HB1.out.2).setCell (p := ⟨w.heap.size + 1, 0, none⟩) (by show w.heap.size ≤ w.heap.size + 1; omega) (.bool m.hk))).setCell (p := ⟨w.heap.size + 1, 1, none⟩) (by show w.heap.size ≤ w.heap.size + 1; omega) (.string m.key))).setCell (p := ⟨w.heap.size + 1, 2, none⟩) (by show w.heap.size ≤ w.heap.size + 1; omega) (.bool m.tb))).setCell (p := ⟨w.heap.size + 1, 3, none⟩) (by show w.heap.size ≤ w.heap.size + 1; omega) (.string m.val))
    have r1 := Lib.hid (set4 (v0 := .bool m.hk) (v1 := .string m.key) (v2 := .bool m.tb) (v3 := .string m.val) RR.out)
    have r0 := Lib.hid ((set4_other (v0 := .bool m.hk) (v1 := .string m.key) (v2 := .bool m.tb) (v3 := .string m.val) (by omega : w.heap.size ≠ w.heap.size + 1)).trans ((HB1S.out.block w.heap.size (by simp; omega)).trans (show _ = _ from heap_alloc2_old w _ _)))
    have HGP : Hid (w.heap.size + 1 ≠ P) := Lib.hid (by have := HLT.out; omega)
    go_wp2_with (go_at_call 32; refine (step_is P s p _ _ _ (HR.out.below hBW.out)).mono ?_; rintro x w2 ⟨rfl, hr2, hg2⟩; rw [HY.out]; have e1 := (hg2.block w.heap.size (by have := hsz; simp; omega) (fun e => by have := Option.some.inj e; have := HLT.out; omega)).trans r0.out; have e2 := (hg2.block (w.heap.size + 1) (at_lt r1.out) (fun e => HGP.out (Option.some.inj e))).trans r1.out; have y0 := row_of (j := 0) e1 rfl; have f0 := frozen_of_row _ _ 0 _ _ e1; have y1 := row_of (j := 1) e1 rfl; have f1 := frozen_of_row _ _ 1 _ _ e1; have y2 := row_of (j := 2) e1 rfl; have f2 := frozen_of_row _ _ 2 _ _ e1; have y3 := row_of (j := 3) e1 rfl; have f3 := frozen_of_row _ _ 3 _ _ e1; have z0 := row_of (j := 0) e2 rfl; have z1 := row_of (j := 1) e2 rfl; have z2 := row_of (j := 2) e2 rfl; have z3 := row_of (j := 3) e2 rfl; have E1 := Lib.hid e1; have HR2 := Lib.hid hr2; have HG2 := Lib.hid hg2; clear e1 e2 hr2 hg2)
    rw [HQ.out] at HR2
    have hgw := g_trans (g_below hBW.out) HG2.out
    refine bodyPost_ret (v := .agg #[.bool m.hk, .string m.key, .bool m.tb, .string m.val]) (results_cell_row (p := 2) (ty := 35) Tryz.results40 _ _ w.heap.size 35 #[.bool m.hk, .string m.key, .bool m.tb, .string m.val] (0, 0) _ rfl (set4 E1.out) Tryz.underlying35 rfl (by kernel_rfl)) rfl ?_
    exact ⟨by rw [← HNN.out]; rfl, rec_post HLT.out HR2 hgw _ _ _ _⟩


end Go.Proofs.YtijofikpdhapoaaGreat.L4
