/-
  Contracts: the reader's batch.
-/
import Derived.Test.YtijofikpdhapoaaGreatReqRdM
namespace Go.Proofs.YtijofikpdhapoaaGreat.L4
open Go.RowKit
open L3

theorem own_mono {w : World} {base B0 n m : Nat} {T : TypeId} {v : Value} {xs : List Value} (h : w.ownsRow base T m v n xs) (hB : B0 ≤ base) : w.ownsRow B0 T m v n xs := by
  rcases h with ⟨h1, h2⟩
  refine ⟨h1, ?_⟩
  rcases h2 with h2 | ⟨g, cap, cur, e1, e2, e3⟩
  · exact .inl h2
  · exact .inr ⟨g, cap, cur, e1, Nat.le_trans hB e2, e3⟩
section
variable {s : ByteArray} {W0 : World} {P H B0 : Nat}
/-- behind a read, with nothing stored -/
theorem reader_same (hPH : P ≠ H) (hP : W0.heap.size ≤ P) (hPB : P < B0) {o : O} {p q : Option Int} {w w1 : World} (h : (readerV s W0 P H B0).Inv (o, p) w) (hr : Rdr P s q w1) (hg : w.grownBy w1 (some P)) :
    (readerV s W0 P H B0).post (o, q) w (.returned (.tuple #[])) w1 := by
  obtain ⟨hR, ⟨RA, TA, rc, tc, r1, r2, r3⟩, hb, hBz⟩ := h
  dsimp only at r1 r2 r3
  have e1 : w1.heap[H]? = _ := (hg.block H (at_lt r1) (fun e => hPH (Option.some.inj e).symm)).trans r1
  exact ⟨rfl, ⟨hr, ⟨RA, TA, rc, tc, e1, own_grown r2 hPB hg, own_grown r3 hPB hg⟩, hb.grown hg hb.size (fun j e => by have := Option.some.inj e; omega), Nat.le_trans hBz hg.size⟩, hg.size, fun b hl hn => ⟨hg.block b hl (fun e => hn (.inl (Option.some.inj e))), hn⟩⟩
/-- behind a batch, and its store into the command -/
theorem reader_bat (hPH : P ≠ H) (hP : W0.heap.size ≤ P) (hH : W0.heap.size ≤ H) (hPB : P < B0) (hHB : H < B0) {o : O} {p q : Option Int} {w w1 : World} {A : Option Addr} {c : Nat} {bp be bq : Int} {l : List R} (h : (readerV s W0 P H B0).Inv (o, p) w) (hr : Rdr P s q w1) (hg : w.grownBy w1 (some P))
    (ho : w1.ownsRow B0 35 4 (.slice A l.length c) l.length (rowOf l)) :
    (readerV s W0 P H B0).post ({ o with bp := bp, be := be, bq := bq, recs := l }, q) w (.returned (.tuple #[])) ((((w1.setCell ⟨H, 5, none⟩ (.int .i64 bp)).setCell ⟨H, 6, none⟩ (.int .i64 be)).setCell ⟨H, 7, none⟩ (.int .i64 bq)).setCell ⟨H, 8, none⟩ (.slice A l.length c)) := by
  obtain ⟨hR, ⟨RA, TA, rc, tc, r1, r2, r3⟩, hb, hBz⟩ := h
  dsimp only at r1 r2 r3
  have e1 : w1.heap[H]? = _ := (hg.block H (at_lt r1) (fun e => hPH (Option.some.inj e).symm)).trans r1
  have e2 := heap_setCell_same _ H 8 _ _ (.slice A l.length c) (heap_setCell_same _ H 7 _ _ (.int .i64 bq) (heap_setCell_same _ H 6 _ _ (.int .i64 be) (heap_setCell_same _ H 5 _ _ (.int .i64 bp) e1)))
  obtain ⟨a, ha, ha2⟩ := hr
  have hB0 : Below W0.heap.size W0 w1 := hb.grown hg hb.size (fun j e => by have := Option.some.inj e; omega)
  have other : ∀ b, b ≠ H → ((((w1.setCell ⟨H, 5, none⟩ (.int .i64 bp)).setCell ⟨H, 6, none⟩ (.int .i64 be)).setCell ⟨H, 7, none⟩ (.int .i64 bq)).setCell ⟨H, 8, none⟩ (.slice A l.length c)).heap[b]? = w1.heap[b]? := fun b hb => by
    rw [heap_setCell_other _ ⟨H, 8, none⟩ b _ hb, heap_setCell_other _ ⟨H, 7, none⟩ b _ hb, heap_setCell_other _ ⟨H, 6, none⟩ b _ hb, heap_setCell_other _ ⟨H, 5, none⟩ b _ hb]
  have keep : ∀ {T : TypeId} {v : Value} {m n : Nat} {xs : List Value}, w1.ownsRow B0 T m v n xs → ((((w1.setCell ⟨H, 5, none⟩ (.int .i64 bp)).setCell ⟨H, 6, none⟩ (.int .i64 be)).setCell ⟨H, 7, none⟩ (.int .i64 bq)).setCell ⟨H, 8, none⟩ (.slice A l.length c)).ownsRow B0 T m v n xs := fun h =>
    ownsRow_setCell_below (ownsRow_setCell_below (ownsRow_setCell_below (ownsRow_setCell_below h (a := ⟨H, 5, none⟩) hHB _) (a := ⟨H, 6, none⟩) hHB _) (a := ⟨H, 7, none⟩) hHB _) (a := ⟨H, 8, none⟩) hHB _
  refine ⟨rfl, ⟨⟨a, (other P hPH).trans ha, ha2⟩, ⟨A, TA, c, tc, e2, keep ho, keep (own_grown r3 hPB hg)⟩, (((hB0.setCell (p := ⟨H, 5, none⟩) hH _).setCell (p := ⟨H, 6, none⟩) hH _).setCell (p := ⟨H, 7, none⟩) hH _).setCell (p := ⟨H, 8, none⟩) hH _, by simp; exact Nat.le_trans hBz hg.size⟩, by simp; exact hg.size, fun b hl hn => ⟨?_, hn⟩⟩
  have n1 : b ≠ P := fun e => hn (.inl e)
  have n2 : b ≠ H := fun e => hn (.inr e)
  exact (other b n2).trans (hg.block b hl (fun e => n1 (Option.some.inj e)))


set_option maxRecDepth 100000 in
set_option maxHeartbeats 4000000 in
theorem rd_5 (hPH : P ≠ H) (hP : W0.heap.size ≤ P) (hH : W0.heap.size ≤ H) (hPB : P < B0) (hHB : H < B0) (hs : s.size ≤ 140737488355328) (a0 a1 a2 a3 : Value) (st : O × Option Int) (w : World) (h : (readerV s W0 P H B0).Inv st w) :
    Calls Tryz.prog 102 #[.pointer (some ⟨P, 0, none⟩), .agg #[a0, a1, a2, a3], .pointer (some ⟨H, 5, none⟩)] w ((readerV s W0 P H B0).post (readK s false st 5) w) := by
  have HI := Lib.hid h
  obtain ⟨o, p⟩ := st
  obtain ⟨hR, ⟨RA, TA, rc, tc, r1, r2, r3⟩, hb, hBz⟩ := h
  dsimp only at r1
  have R1 := Lib.hid r1
  have HR : Hid (Rdr P s p w) := Lib.hid hR
  have HHL := Lib.hid (at_lt r1)
  have HW : Hid (B0 ≤ w.heap.size) := Lib.hid hBz
  clear hR r1 r2 r3 hb hBz
  obtain ⟨a, h1, h2⟩ := HR.out
  have H1 := Lib.hid h1
  have HLT := Lib.hid (at_lt h1)
  have x0 : w.cell? ⟨P, 0, none⟩ = some (.string s) := row_of h1 rfl
  have x1 : w.cell? ⟨P, 1, none⟩ = some (.int .i64 a) := row_of h1 rfl
  have HS : Hid (∀ w', Below w.heap.size w w' → (w'.cell? ⟨P, 0, none⟩ = some (.string s) ∧ w'.cell? ⟨P, 1, none⟩ = some (.int .i64 a)) ∧ Below w.heap.size w w') := Lib.hid (fun w' hb => ⟨⟨row_of ((hb.block P (at_lt h1)).trans h1) rfl, row_of ((hb.block P (at_lt h1)).trans h1) rfl⟩, hb⟩)
  obtain ⟨m, to, e, hg⟩ : ∃ m to e, parse s a = (m, to, e) := ⟨_, _, _, rfl⟩
  have hN := step_bat h2 hg
  have HG := Lib.hid hg
  obtain ⟨q, hq⟩ : ∃ q, stepTo p to e = q := ⟨_, rfl⟩
  obtain ⟨y, hy⟩ : ∃ y, (stepTo p to e).isSome = y := ⟨_, rfl⟩
  rw [hy] at hN
  have hqy : q.isSome = y := by rw [← hq]; exact hy
  have HE : Hid (readK s false (o, p) 5 = (if y then { o with bp := (m.p : Int), be := (m.e : Int), bq := (m.q : Int), recs := m.l } else o, q)) := Lib.hid (by
    simp only [readK, hN, hq, hqy]
    cases y <;> rfl)
  have HQ := Lib.hid hq
  have HY := Lib.hid hy
  clear h1 h2 hg hN hq hy hqy
  cases y
  all_goals
    go_enter Tryz.func102, Tryz.ntmps102
    go_wp2_with fail
    go_region_held3 (fun w' => (w'.cell? ⟨P, 0, none⟩ = some (.string s) ∧ w'.cell? ⟨P, 1, none⟩ = some (.int .i64 a)) ∧ Below w.heap.size w w')
      (first | with_reducible assumption | exact HS.out _ (one_box _).drew | exact HB1.out | exact HS.out _ (two_box _ _).drew | exact HS.out _ ((HB1.out.2.alloc HB1.out.2.size _)) | (refine HS.out _ ?_; repeat (first | with_reducible exact HB1.out.2 | with_reducible refine Below.drew ?_ | with_reducible refine Below.setCell ?_ (by first | (simp; omega) | simp) _ | with_reducible refine Below.alloc ?_ (by first | (simp; omega) | simp) _)))
      ((go_at_call 107; refine (parse_is _ _ _ _ _ _ hs HG).mono ?_; rintro e w1 ⟨A, cap, rfl, ho, hb1⟩; have HO := Lib.hid ho; have HB1 : Hid (_ ∧ Below w.heap.size w w1) := Lib.hid (by first | exact HS.out _ ((one_box _).drew.trans (hb1.mono (by simp))) | exact HS.out _ ((two_box _ _).drew.trans (hb1.mono (by simp; omega)))); have HB1S := Lib.hid hb1; try (have rr := (hb1.block (w.heap.size + 1) (by simp)).trans (show _ = _ from heap_alloc2_new w _ _); have q0 := row_of (j := 0) rr rfl; have q1 := row_of (j := 1) rr rfl; have q2 := row_of (j := 2) rr rfl; have q3 := row_of (j := 3) rr rfl; have g0 := frozen_of_row _ _ 0 _ _ rr; have g1 := frozen_of_row _ _ 1 _ _ rr; have g2 := frozen_of_row _ _ 2 _ _ rr; have g3 := frozen_of_row _ _ 3 _ _ rr; have RR := Lib.hid rr; clear rr); clear hb1 ho))
    clear x0 x1
  · have hz := HB1S.out.size
    have hsz : w.heap.size + 1 ≤ w1.heap.size := by simpa using hz
    have hBW := Lib.hid (HB1.out.2.alloc HB1.out.2.size (.cells #[.int .i64 m.p, .int .i64 m.e, .int .i64 m.q, .slice A m.l.length cap] 26 (0, 0)))
    have r1 := Lib.hid (heap_alloc_new w1 (.cells #[.int .i64 m.p, .int .i64 m.e, .int .i64 m.q, .slice A m.l.length cap] 26 (0, 0)))
    have HGP : Hid (w1.heap.size ≠ P) := Lib.hid (by have := HLT.out; omega)
    have HO1 := Lib.hid (own_mono (own_below HO.out (one_box (.cells #[.int .i64 m.p, .int .i64 m.e, .int .i64 m.q, .slice A m.l.length cap] 26 (0, 0)))) (by have := HW.out; simp; omega : B0 ≤ _))
    go_wp2_with (go_at_call 32; refine (step_is P s p _ _ _ (HR.out.below hBW.out)).mono ?_; rintro x w2 ⟨rfl, hr2, hg2⟩; rw [HY.out]; have e1 := (hg2.block H (Nat.lt_of_lt_of_le HHL.out hBW.out.size) (fun e => hPH (Option.some.inj e).symm)).trans ((hBW.out.block H HHL.out).trans R1.out); have e2 := (hg2.block w1.heap.size (at_lt r1.out) (fun e => HGP.out (Option.some.inj e))).trans r1.out; have y5 : w2.cell? ⟨H, 5, none⟩ = some _ := (cell_of_row _ _ 5 _ _ _ e1).trans rfl; have f5 := frozen_of_row _ _ 5 _ _ e1; have y6 : w2.cell? ⟨H, 6, none⟩ = some _ := (cell_of_row _ _ 6 _ _ _ e1).trans rfl; have f6 := frozen_of_row _ _ 6 _ _ e1; have y7 : w2.cell? ⟨H, 7, none⟩ = some _ := (cell_of_row _ _ 7 _ _ _ e1).trans rfl; have f7 := frozen_of_row _ _ 7 _ _ e1; have y8 : w2.cell? ⟨H, 8, none⟩ = some _ := (cell_of_row _ _ 8 _ _ _ e1).trans rfl; have f8 := frozen_of_row _ _ 8 _ _ e1; have z0 := row_of (j := 0) e2 rfl; have z1 := row_of (j := 1) e2 rfl; have z2 := row_of (j := 2) e2 rfl; have z3 := row_of (j := 3) e2 rfl; have HR2 := Lib.hid hr2; have HG2 := Lib.hid hg2; clear e1 e2 hr2 hg2)
    go_end0
    rw [HQ.out] at HR2
    have hgw := g_trans (g_below hBW.out) HG2.out
    rw [HE.out, if_neg (by decide)]
    exact reader_same hPH hP hPB HI.out HR2 hgw
  · have hz := HB1S.out.size
    have hsz : w.heap.size + 1 + 1 ≤ w1.heap.size := by simpa using hz
    have hBW := Lib.hid ((((((((HB1.out.2).setCell (p := ⟨w.heap.size + 1, 0, none⟩) (by show w.heap.size ≤ w.heap.size + 1; omega) (.int .i64 m.p))).setCell (p := ⟨w.heap.size + 1, 1, none⟩) (by show w.heap.size ≤ w.heap.size + 1; omega) (.int .i64 m.e))).setCell (p := ⟨w.heap.size + 1, 2, none⟩) (by show w.heap.size ≤ w.heap.size + 1; omega) (.int .i64 m.q))).setCell (p := ⟨w.heap.size + 1, 3, none⟩) (by show w.heap.size ≤ w.heap.size + 1; omega) (.slice A m.l.length cap))
    have r1 := Lib.hid (heap_setCell_same _ (w.heap.size + 1) 3 _ _ (.slice A m.l.length cap) (heap_setCell_same _ (w.heap.size + 1) 2 _ _ (.int .i64 m.q) (heap_setCell_same _ (w.heap.size + 1) 1 _ _ (.int .i64 m.e) (heap_setCell_same _ (w.heap.size + 1) 0 _ _ (.int .i64 m.p) RR.out))))
    have HGP : Hid (w.heap.size + 1 ≠ P) := Lib.hid (by have := HLT.out; omega)
    have HO1 := Lib.hid (own_mono (ownsRow_setCell_below (ownsRow_setCell_below (ownsRow_setCell_below (ownsRow_setCell_below HO.out (a := ⟨w.heap.size + 1, 0, none⟩) (by simp) (.int .i64 m.p)) (a := ⟨w.heap.size + 1, 1, none⟩) (by simp) (.int .i64 m.e)) (a := ⟨w.heap.size + 1, 2, none⟩) (by simp) (.int .i64 m.q)) (a := ⟨w.heap.size + 1, 3, none⟩) (by simp) (.slice A m.l.length cap)) (by have := HW.out; simp; omega : B0 ≤ _))
    go_wp2_with (go_at_call 32; refine (step_is P s p _ _ _ (HR.out.below hBW.out)).mono ?_; rintro x w2 ⟨rfl, hr2, hg2⟩; rw [HY.out]; have e1 := (hg2.block H (Nat.lt_of_lt_of_le HHL.out hBW.out.size) (fun e => hPH (Option.some.inj e).symm)).trans ((hBW.out.block H HHL.out).trans R1.out); have e2 := (hg2.block (w.heap.size + 1) (at_lt r1.out) (fun e => HGP.out (Option.some.inj e))).trans r1.out; have y5 : w2.cell? ⟨H, 5, none⟩ = some _ := (cell_of_row _ _ 5 _ _ _ e1).trans rfl; have f5 := frozen_of_row _ _ 5 _ _ e1; have y6 : w2.cell? ⟨H, 6, none⟩ = some _ := (cell_of_row _ _ 6 _ _ _ e1).trans rfl; have f6 := frozen_of_row _ _ 6 _ _ e1; have y7 : w2.cell? ⟨H, 7, none⟩ = some _ := (cell_of_row _ _ 7 _ _ _ e1).trans rfl; have f7 := frozen_of_row _ _ 7 _ _ e1; have y8 : w2.cell? ⟨H, 8, none⟩ = some _ := (cell_of_row _ _ 8 _ _ _ e1).trans rfl; have f8 := frozen_of_row _ _ 8 _ _ e1; have z0 := row_of (j := 0) e2 rfl; have z1 := row_of (j := 1) e2 rfl; have z2 := row_of (j := 2) e2 rfl; have z3 := row_of (j := 3) e2 rfl; have HR2 := Lib.hid hr2; have HG2 := Lib.hid hg2; clear e1 e2 hr2 hg2)
    go_end0
    rw [HQ.out] at HR2
    have hgw := g_trans (g_below hBW.out) HG2.out
    rw [HE.out, if_neg (by decide)]
    exact reader_same hPH hP hPB HI.out HR2 hgw
  · have hz := HB1S.out.size
    have hsz : w.heap.size + 1 ≤ w1.heap.size := by simpa using hz
    have hBW := Lib.hid (HB1.out.2.alloc HB1.out.2.size (.cells #[.int .i64 m.p, .int .i64 m.e, .int .i64 m.q, .slice A m.l.length cap] 26 (0, 0)))
    have r1 := Lib.hid (heap_alloc_new w1 (.cells #[.int .i64 m.p, .int .i64 m.e, .int .i64 m.q, .slice A m.l.length cap] 26 (0, 0)))
    have HGP : Hid (w1.heap.size ≠ P) := Lib.hid (by have := HLT.out; omega)
    have HO1 := Lib.hid (own_mono (own_below HO.out (one_box (.cells #[.int .i64 m.p, .int .i64 m.e, .int .i64 m.q, .slice A m.l.length cap] 26 (0, 0)))) (by have := HW.out; simp; omega : B0 ≤ _))
    go_wp2_with (go_at_call 32; refine (step_is P s p _ _ _ (HR.out.below hBW.out)).mono ?_; rintro x w2 ⟨rfl, hr2, hg2⟩; rw [HY.out]; have e1 := (hg2.block H (Nat.lt_of_lt_of_le HHL.out hBW.out.size) (fun e => hPH (Option.some.inj e).symm)).trans ((hBW.out.block H HHL.out).trans R1.out); have e2 := (hg2.block w1.heap.size (at_lt r1.out) (fun e => HGP.out (Option.some.inj e))).trans r1.out; have y5 : w2.cell? ⟨H, 5, none⟩ = some _ := (cell_of_row _ _ 5 _ _ _ e1).trans rfl; have f5 := frozen_of_row _ _ 5 _ _ e1; have y6 : w2.cell? ⟨H, 6, none⟩ = some _ := (cell_of_row _ _ 6 _ _ _ e1).trans rfl; have f6 := frozen_of_row _ _ 6 _ _ e1; have y7 : w2.cell? ⟨H, 7, none⟩ = some _ := (cell_of_row _ _ 7 _ _ _ e1).trans rfl; have f7 := frozen_of_row _ _ 7 _ _ e1; have y8 : w2.cell? ⟨H, 8, none⟩ = some _ := (cell_of_row _ _ 8 _ _ _ e1).trans rfl; have f8 := frozen_of_row _ _ 8 _ _ e1; have z0 := row_of (j := 0) e2 rfl; have z1 := row_of (j := 1) e2 rfl; have z2 := row_of (j := 2) e2 rfl; have z3 := row_of (j := 3) e2 rfl; have HR2 := Lib.hid hr2; have HG2 := Lib.hid hg2; clear e1 e2 hr2 hg2)
    go_end0
    rw [HQ.out] at HR2
    have hgw := g_trans (g_below hBW.out) HG2.out
    rw [HE.out, if_pos trivial]
    exact reader_bat hPH hP hH hPB hHB HI.out HR2 hgw (own_grown HO1.out hPB HG2.out)
  · have hz := HB1S.out.size
    have hsz : w.heap.size + 1 + 1 ≤ w1.heap.size := by simpa using hz
    have hBW := Lib.hid ((((((((HB1.out.2).setCell (p := ⟨w.heap.size + 1, 0, none⟩) (by show w.heap.size ≤ w.heap.size + 1; omega) (.int .i64 m.p))).setCell (p := ⟨w.heap.size + 1, 1, none⟩) (by show w.heap.size ≤ w.heap.size + 1; omega) (.int .i64 m.e))).setCell (p := ⟨w.heap.size + 1, 2, none⟩) (by show w.heap.size ≤ w.heap.size + 1; omega) (.int .i64 m.q))).setCell (p := ⟨w.heap.size + 1, 3, none⟩) (by show w.heap.size ≤ w.heap.size + 1; omega) (.slice A m.l.length cap))
    have r1 := Lib.hid (heap_setCell_same _ (w.heap.size + 1) 3 _ _ (.slice A m.l.length cap) (heap_setCell_same _ (w.heap.size + 1) 2 _ _ (.int .i64 m.q) (heap_setCell_same _ (w.heap.size + 1) 1 _ _ (.int .i64 m.e) (heap_setCell_same _ (w.heap.size + 1) 0 _ _ (.int .i64 m.p) RR.out))))
    have HGP : Hid (w.heap.size + 1 ≠ P) := Lib.hid (by have := HLT.out; omega)
    have HO1 := Lib.hid (own_mono (ownsRow_setCell_below (ownsRow_setCell_below (ownsRow_setCell_below (ownsRow_setCell_below HO.out (a := ⟨w.heap.size + 1, 0, none⟩) (by simp) (.int .i64 m.p)) (a := ⟨w.heap.size + 1, 1, none⟩) (by simp) (.int .i64 m.e)) (a := ⟨w.heap.size + 1, 2, none⟩) (by simp) (.int .i64 m.q)) (a := ⟨w.heap.size + 1, 3, none⟩) (by simp) (.slice A m.l.length cap)) (by have := HW.out; simp; omega : B0 ≤ _))
    go_wp2_with (go_at_call 32; refine (step_is P s p _ _ _ (HR.out.below hBW.out)).mono ?_; rintro x w2 ⟨rfl, hr2, hg2⟩; rw [HY.out]; have e1 := (hg2.block H (Nat.lt_of_lt_of_le HHL.out hBW.out.size) (fun e => hPH (Option.some.inj e).symm)).trans ((hBW.out.block H HHL.out).trans R1.out); have e2 := (hg2.block (w.heap.size + 1) (at_lt r1.out) (fun e => HGP.out (Option.some.inj e))).trans r1.out; have y5 : w2.cell? ⟨H, 5, none⟩ = some _ := (cell_of_row _ _ 5 _ _ _ e1).trans rfl; have f5 := frozen_of_row _ _ 5 _ _ e1; have y6 : w2.cell? ⟨H, 6, none⟩ = some _ := (cell_of_row _ _ 6 _ _ _ e1).trans rfl; have f6 := frozen_of_row _ _ 6 _ _ e1; have y7 : w2.cell? ⟨H, 7, none⟩ = some _ := (cell_of_row _ _ 7 _ _ _ e1).trans rfl; have f7 := frozen_of_row _ _ 7 _ _ e1; have y8 : w2.cell? ⟨H, 8, none⟩ = some _ := (cell_of_row _ _ 8 _ _ _ e1).trans rfl; have f8 := frozen_of_row _ _ 8 _ _ e1; have z0 := row_of (j := 0) e2 rfl; have z1 := row_of (j := 1) e2 rfl; have z2 := row_of (j := 2) e2 rfl; have z3 := row_of (j := 3) e2 rfl; have HR2 := Lib.hid hr2; have HG2 := Lib.hid hg2; clear e1 e2 hr2 hg2)
    go_end0
    rw [HQ.out] at HR2
    have hgw := g_trans (g_below hBW.out) HG2.out
    rw [HE.out, if_pos trivial]
    exact reader_bat hPH hP hH hPB hHB HI.out HR2 hgw (own_grown HO1.out hPB HG2.out)


end
end Go.Proofs.YtijofikpdhapoaaGreat.L4
