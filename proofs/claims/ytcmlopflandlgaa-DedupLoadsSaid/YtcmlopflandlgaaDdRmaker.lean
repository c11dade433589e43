/-
  The document's maker: another one of what is remembered.
-/
import Derived.Test.YtcmlopflandlgaaDdRdone
import Derived.Deep.AppendLies
namespace Go.Proofs.Ytcmlopflandlgaa.L8
open Go.RowKit
open Go.Maps
open L3 L4

theorem keep5w {W w1 w2 : World} {a1 a2 a3 a4 a5 : Addr} {v1 v2 v3 v4 v5 : Value} (h : (w1.cell? a1 = some v1 ∧ w1.cell? a2 = some v2 ∧ w1.cell? a3 = some v3 ∧ w1.cell? a4 = some v4 ∧ w1.cell? a5 = some v5) ∧ Below W.heap.size W w1) (hb : Below w1.heap.size w1 w2) :
    (w2.cell? a1 = some v1 ∧ w2.cell? a2 = some v2 ∧ w2.cell? a3 = some v3 ∧ w2.cell? a4 = some v4 ∧ w2.cell? a5 = some v5) ∧ Below W.heap.size W w2 := by
  obtain ⟨⟨h1, h2, h3, h4, h5⟩, ho⟩ := h
  exact ⟨⟨cell_at hb h1, cell_at hb h2, cell_at hb h3, cell_at hb h4, cell_at hb h5⟩, ho.trans (hb.mono ho.size)⟩
theorem keep5p {W w1 : World} {a1 a2 a3 a4 a5 : Addr} {v1 v2 v3 v4 v5 : Value} (h : (w1.cell? a1 = some v1 ∧ w1.cell? a2 = some v2 ∧ w1.cell? a3 = some v3 ∧ w1.cell? a4 = some v4 ∧ w1.cell? a5 = some v5) ∧ Below W.heap.size W w1) (k : Nat) (hk : W.heap.size ≤ k) (n1 : k ≠ a1.block) (n2 : k ≠ a2.block) (n3 : k ≠ a3.block) (n4 : k ≠ a4.block) (n5 : k ≠ a5.block) (i : Nat) (u : Value) :
    ((w1.setCell ⟨k, i, none⟩ u).cell? a1 = some v1 ∧ (w1.setCell ⟨k, i, none⟩ u).cell? a2 = some v2 ∧ (w1.setCell ⟨k, i, none⟩ u).cell? a3 = some v3 ∧ (w1.setCell ⟨k, i, none⟩ u).cell? a4 = some v4 ∧ (w1.setCell ⟨k, i, none⟩ u).cell? a5 = some v5) ∧ Below W.heap.size W (w1.setCell ⟨k, i, none⟩ u) := by
  obtain ⟨⟨h1, h2, h3, h4, h5⟩, ho⟩ := h
  have far : ∀ (a : Addr) v, k ≠ a.block → w1.cell? a = some v → (w1.setCell ⟨k, i, none⟩ u).cell? a = some v := fun a v hn hc => (World.cell?_of_block (w := w1) (Below.heap_setCell _ _ _ _ (fun e => hn e.symm))).trans hc
  exact ⟨⟨far _ _ n1 h1, far _ _ n2 h2, far _ _ n3 h3, far _ _ n4 h4, far _ _ n5 h5⟩, ho.setCell (p := ⟨k, i, none⟩) hk _⟩
set_option maxRecDepth 100000 in
set_option maxHeartbeats 4000000 in
theorem rmaker_is (id ep p : Int) (t : ByteArray) (X : Option Addr) (l : List Did) (L c : Nat) (w : World) (hR : Hid (RowD w X l)) (HL : Hid (l.length = L)) (h0 : 0 < L) (hl : L ≤ 1000) :
    Calls Try.prog 43 #[.agg #[.int .i64 id, .int .i64 ep, .string t, .int .i64 p, .slice X L c]] w fun e w' => ∃ X' c', e = .returned (.agg #[.int .i64 id, .int .i64 ep, .string t, .int .i64 p, .slice X' L c']) ∧ RowC w' X' c' l ∧ (X' = none → c' = 0) ∧ Below w.heap.size w w' := by
  obtain ⟨i0, hi0, hz0, hz1, hz2⟩ := info_parts didInfo
  obtain ⟨xg, xo, cs, fr, rfl, hxg, _⟩ := hR.out (by rw [HL.out]; exact h0)
  go_enter Try.func43, Try.ntmps43
  go_upto_region 1 with fail
  obtain ⟨W, hW⟩ : ∃ W, (w.alloc (.cells #[.int .i64 id, .int .i64 ep, .string t, .int .i64 p, .slice (some ⟨xg, xo, none⟩) L c] 48)).alloc (.cells #[.int .i64 0, .int .i64 0, .string ⟨#[]⟩, .int .i64 0, .slice none 0 0] 48) = W := ⟨_, rfl⟩
  have hbW : Below w.heap.size w W := by rw [← hW]; exact two_box _ _
  have r1 : W.heap[w.heap.size]? = some (.cells #[.int .i64 id, .int .i64 ep, .string t, .int .i64 p, .slice (some ⟨xg, xo, none⟩) L c] 48 (0, 0)) := by rw [← hW]; exact (Below.heap_alloc _ _ _ (by simp)).trans (heap_alloc_new w _)
  have r2 : W.heap[w.heap.size + 1]? = some (.cells #[.int .i64 0, .int .i64 0, .string ⟨#[]⟩, .int .i64 0, .slice none 0 0] 48 (0, 0)) := by
    rw [← hW]
    have e1 : (w.alloc (.cells #[.int .i64 id, .int .i64 ep, .string t, .int .i64 p, .slice (some ⟨xg, xo, none⟩) L c] 48)).heap.size = w.heap.size + 1 := by simp
    rw [← e1]; exact heap_alloc_new _ _
  have b0 : W.cell? ⟨w.heap.size, 0, none⟩ = some (.int .i64 id) := (cell_of_row _ _ 0 _ _ _ r1).trans rfl
  have b1 : W.cell? ⟨w.heap.size, 1, none⟩ = some (.int .i64 ep) := (cell_of_row _ _ 1 _ _ _ r1).trans rfl
  have b2 : W.cell? ⟨w.heap.size, 2, none⟩ = some (.string t) := (cell_of_row _ _ 2 _ _ _ r1).trans rfl
  have b3 : W.cell? ⟨w.heap.size, 3, none⟩ = some (.int .i64 p) := (cell_of_row _ _ 3 _ _ _ r1).trans rfl
  have b4 : W.cell? ⟨w.heap.size, 4, none⟩ = some (.slice (some ⟨xg, xo, none⟩) L c) := (cell_of_row _ _ 4 _ _ _ r1).trans rfl
  have HR2 := Lib.hid r2
  have HBW := Lib.hid hbW
  have HRW : Hid (RowD W (some ⟨xg, xo, none⟩) l) := Lib.hid (hR.out.below hbW)
  have HZW : Hid (w.heap.size + 1 < W.heap.size) := Lib.hid (Array.getElem?_eq_some_iff.1 r2).1
  rw [hW]
  have hS := And.intro (And.intro b0 (And.intro b1 (And.intro b2 (And.intro b3 b4)))) hbW
  clear hW r1 r2 hbW
  refine wp_region_held_drew (S := (fun w' => (w'.cell? ⟨w.heap.size, 0, none⟩ = some (.int .i64 id) ∧ w'.cell? ⟨w.heap.size, 1, none⟩ = some (.int .i64 ep) ∧ w'.cell? ⟨w.heap.size, 2, none⟩ = some (.string t) ∧ w'.cell? ⟨w.heap.size, 3, none⟩ = some (.int .i64 p) ∧ w'.cell? ⟨w.heap.size, 4, none⟩ = some (.slice (some ⟨xg, xo, none⟩) L c)) ∧ Below w.heap.size w w')) (by kernel_rfl) (keep5w hS (drewB _)) (fun hHeld => ?_)
  refine wpAnyH_take (i := 0) (oi := ?o1) (v := ?v1) ?a1 (by kernel_rfl) (by kernel_rfl) (by kernel_rfl) ?q1 (Or.inl ⟨?g1, ?y1⟩) (by assumption) ?r1; (case' a1 => (simp only [List.getElem?_toArray, List.getElem?_cons_zero]; rfl)); (case' q1 => (exact fun _ _ _ h => h)); (case' g1 => rfl); (case' y1 => (intro w hSw; (try dsimp only at hSw); go_simp; try with_reducible rfl)); (case' r1 => (try simp only [Act.put, List.setIfInBounds_toArray, List.set_cons_zero, List.set_cons_succ]))
  refine wpAnyH_take (i := 1) (oi := ?o2) (v := ?v2) ?a2 (by kernel_rfl) (by kernel_rfl) (by kernel_rfl) ?q2 (Or.inl ⟨?g2, ?y2⟩) (by assumption) ?r2; (case' a2 => (simp only [List.getElem?_toArray, List.getElem?_cons_zero, List.getElem?_cons_succ]; rfl)); (case' q2 => (exact fun _ _ _ h => h)); (case' g2 => rfl); (case' y2 => (intro w hSw; (try dsimp only at hSw); go_simp; try with_reducible rfl)); (case' r2 => (try simp only [Act.put, List.setIfInBounds_toArray, List.set_cons_zero, List.set_cons_succ]))
  refine wpAnyH_take (i := 2) (oi := ?o3) (v := ?v3) ?a3 (by kernel_rfl) (by kernel_rfl) (by kernel_rfl) ?q3 (Or.inl ⟨?g3, ?y3⟩) (by assumption) ?r3; (case' a3 => (simp only [List.getElem?_toArray, List.getElem?_cons_zero, List.getElem?_cons_succ]; rfl)); (case' q3 => (exact fun _ _ _ h => h)); (case' g3 => rfl); (case' y3 => (intro w hSw; (try dsimp only at hSw); go_simp; try with_reducible rfl)); (case' r3 => (try simp only [Act.put, List.setIfInBounds_toArray, List.set_cons_zero, List.set_cons_succ]))
  refine wpAnyH_take (i := 3) (oi := ?o4) (v := ?v4) ?a4 (by kernel_rfl) (by kernel_rfl) (by kernel_rfl) ?q4 (Or.inl ⟨?g4, ?y4⟩) (by assumption) ?r4; (case' a4 => (simp only [List.getElem?_toArray, List.getElem?_cons_zero, List.getElem?_cons_succ]; rfl)); (case' q4 => (exact fun _ _ _ h => h)); (case' g4 => rfl); (case' y4 => (intro w hSw; (try dsimp only at hSw); go_simp; try with_reducible rfl)); (case' r4 => (try simp only [Act.put, List.setIfInBounds_toArray, List.set_cons_zero, List.set_cons_succ]))
  refine wpAnyH_take (i := 4) (oi := ?o5) (v := ?v5) ?a5 (by kernel_rfl) (by kernel_rfl) (by kernel_rfl) ?q5 (Or.inl ⟨?g5, ?y5⟩) (by assumption) ?r5; (case' a5 => (simp only [List.getElem?_toArray, List.getElem?_cons_zero, List.getElem?_cons_succ]; rfl)); (case' q5 => (exact fun _ _ _ h => h)); (case' g5 => rfl); (case' y5 => (intro w hSw; (try dsimp only at hSw); go_simp; try with_reducible rfl)); (case' r5 => (try simp only [Act.put, List.setIfInBounds_toArray, List.set_cons_zero, List.set_cons_succ]))
  refine wpAnyH_take (i := 5) (oi := ?o6) (v := ?v6) ?a6 (by kernel_rfl) (by kernel_rfl) (by kernel_rfl) ?q6 (Or.inl ⟨?g6, ?y6⟩) (by assumption) ?r6; (case' a6 => (simp only [List.getElem?_toArray, List.getElem?_cons_zero, List.getElem?_cons_succ]; rfl)); (case' q6 => (exact fun _ _ _ h => h)); (case' g6 => rfl); (case' y6 => (intro w hSw; (try dsimp only at hSw); go_simp; try with_reducible rfl)); (case' r6 => (try simp only [Act.put, List.setIfInBounds_toArray, List.set_cons_zero, List.set_cons_succ]))
  refine wpAnyH_take (i := 7) (oi := ?o7) (v := ?v7) ?a7 (by kernel_rfl) (by kernel_rfl) (by kernel_rfl) ?q7 (Or.inl ⟨?g7, ?y7⟩) (by assumption) ?r7; (case' a7 => (simp only [List.getElem?_toArray, List.getElem?_cons_zero, List.getElem?_cons_succ]; rfl)); (case' q7 => (exact fun _ _ _ h => h)); (case' g7 => rfl); (case' y7 => (intro w hSw; (try dsimp only at hSw); go_simp; try with_reducible rfl)); (case' r7 => (try simp only [Act.put, List.setIfInBounds_toArray, List.set_cons_zero, List.set_cons_succ]))
  refine wpAnyH_take (i := 8) (oi := ?o8) (v := ?v8) ?a8 (by kernel_rfl) (by kernel_rfl) (by kernel_rfl) ?q8 (Or.inl ⟨?g8, ?y8⟩) (by assumption) ?r8; (case' a8 => (simp only [List.getElem?_toArray, List.getElem?_cons_zero, List.getElem?_cons_succ]; rfl)); (case' q8 => (exact fun _ _ _ h => h)); (case' g8 => rfl); (case' y8 => (intro w hSw; (try dsimp only at hSw); go_simp; try with_reducible rfl)); (case' r8 => (try simp only [Act.put, List.setIfInBounds_toArray, List.set_cons_zero, List.set_cons_succ]))
  refine wpAnyH_ready (rs := [6]) (by kernel_rfl) (by simp) ?_
  refine AllReadyH.cons (o := ?o9) ?a9 (fun K hK => ?s9) ?m9; (case' a9 => (simp only [List.getElem?_toArray, List.getElem?_cons_zero, List.getElem?_cons_succ]; rfl))
  case s9 =>
    go_simp
    refine hK.out _ _ (keep5w hHeld (one_box' _)) (fun hHeld => ?_)
    clear hK K
    (try simp only [Act.put, List.setIfInBounds_toArray, List.set_cons_zero, List.set_cons_succ])
    refine wpAnyH_ready (rs := [9]) (by kernel_rfl) (by simp) ?_
    refine AllReadyH.cons (o := ?o10) ?a10 (fun K hK => ?s10) ?m10; (case' a10 => (simp only [List.getElem?_toArray, List.getElem?_cons_zero, List.getElem?_cons_succ]; rfl))
    case s10 =>
      refine step_append_lies _ (by rfl) _ _ _ (by rfl) W.heap.size 50 i0 _ 3 24 Try.underlying46 hi0 hz0 hz1 hz2 rfl (by omega) (.slice (some ⟨W.drew.heap.size, 0, none⟩) 0 0) 0 [] (by rfl) (World.ownsRow_made (size := 3) W.drew #[] 0 (Nat.le_refl _) (by unfold maxLen; omega) rfl) ⟨xg, xo, none⟩ L c (rowD l) (by rfl) (by rw [rowD_len, HL.out]) (fun q u hu => ((HRW.out.below ((drewB W).trans ((one_box' _).mono (drewB W).size))).src).2 _ rfl q u hu) (rowD_one l) h0 (by unfold maxLen; omega) (by omega) (by simp) _ rfl ?_
      intro gg cc w6 hown6 hgrow6 hat6 hlt6
      have HB6 : Hid (Below W.heap.size W w6) := Lib.hid ((((drewB W).alloc (drewB W).size _)).grown hgrow6 (by simp) (fun z e => by injection e with e; subst e; exact Nat.le_refl _))
      rw [Nat.zero_add, List.nil_append] at hown6
      have HO6 := Lib.hid hown6
      have hr6 := (HB6.out.block (w.heap.size + 1) HZW.out).trans HR2.out
      have g0 : w6.cell? ⟨w.heap.size + 1, 0, none⟩ = some (.int .i64 0) := (cell_of_row _ _ 0 _ _ _ hr6).trans rfl
      have f0 : w6.frozen? ⟨w.heap.size + 1, 0, none⟩ = false := frozen_of_row _ _ _ _ _ hr6
      have g1 : w6.cell? ⟨w.heap.size + 1, 1, none⟩ = some (.int .i64 0) := (cell_of_row _ _ 1 _ _ _ hr6).trans rfl
      have f1 : w6.frozen? ⟨w.heap.size + 1, 1, none⟩ = false := frozen_of_row _ _ _ _ _ hr6
      have g2 : w6.cell? ⟨w.heap.size + 1, 2, none⟩ = some (.string ⟨#[]⟩) := (cell_of_row _ _ 2 _ _ _ hr6).trans rfl
      have f2 : w6.frozen? ⟨w.heap.size + 1, 2, none⟩ = false := frozen_of_row _ _ _ _ _ hr6
      have g3 : w6.cell? ⟨w.heap.size + 1, 3, none⟩ = some (.int .i64 0) := (cell_of_row _ _ 3 _ _ _ hr6).trans rfl
      have f3 : w6.frozen? ⟨w.heap.size + 1, 3, none⟩ = false := frozen_of_row _ _ _ _ _ hr6
      have g4 : w6.cell? ⟨w.heap.size + 1, 4, none⟩ = some (.slice none 0 0) := (cell_of_row _ _ 4 _ _ _ hr6).trans rfl
      have f4 : w6.frozen? ⟨w.heap.size + 1, 4, none⟩ = false := frozen_of_row _ _ _ _ _ hr6
      have HR6 := Lib.hid hr6
      clear hr6
      refine hK.out _ _ (keep5w hS HB6.out) (fun hHeld => ?_)
      clear hK K hown6 hgrow6 hat6 hlt6
      (try simp only [Act.put, List.setIfInBounds_toArray, List.set_cons_zero, List.set_cons_succ])
      refine wpAnyH_take (i := 10) (oi := ?o11) (v := ?v11) ?a11 (by kernel_rfl) (by kernel_rfl) (by kernel_rfl) ?q11 (Or.inl ⟨?g11, ?y11⟩) (by assumption) ?r11; (case' a11 => (simp only [List.getElem?_toArray, List.getElem?_cons_zero, List.getElem?_cons_succ]; rfl)); (case' q11 => (exact fun _ _ _ h => h)); (case' g11 => rfl); (case' y11 => (intro w hSw; (try dsimp only at hSw); go_simp; try with_reducible rfl)); (case' r11 => (try simp only [Act.put, List.setIfInBounds_toArray, List.set_cons_zero, List.set_cons_succ]))
      refine wpAnyH_ready (rs := [11]) (by kernel_rfl) (by simp) ?_
      refine AllReadyH.cons (o := ?o12) ?a12 (fun K hK => ?s12) ?m12; (case' a12 => (simp only [List.getElem?_toArray, List.getElem?_cons_zero, List.getElem?_cons_succ]; rfl))
      case s12 =>
        go_simp
        have HFAR : Hid (∀ (v0 v1 v2 v3 v4 : Value), ∀ q, q ≠ w.heap.size + 1 → (((((w6.setCell ⟨w.heap.size + 1, 0, none⟩ v0).setCell ⟨w.heap.size + 1, 1, none⟩ v1).setCell ⟨w.heap.size + 1, 2, none⟩ v2).setCell ⟨w.heap.size + 1, 3, none⟩ v3).setCell ⟨w.heap.size + 1, 4, none⟩ v4).heap[q]? = w6.heap[q]?) := Lib.hid (fun v0 v1 v2 v3 v4 q hq => ((((Below.heap_setCell _ _ _ _ hq).trans (Below.heap_setCell _ _ _ _ hq)).trans (Below.heap_setCell _ _ _ _ hq)).trans (Below.heap_setCell _ _ _ _ hq)).trans (Below.heap_setCell _ _ _ _ hq))
        refine hK.out _ _ (keep5p (keep5p (keep5p (keep5p (keep5p hHeld (w.heap.size + 1) (Nat.le_succ _) (by simp) (by simp) (by simp) (by simp) (by simp) 0 _) (w.heap.size + 1) (Nat.le_succ _) (by simp) (by simp) (by simp) (by simp) (by simp) 1 _) (w.heap.size + 1) (Nat.le_succ _) (by simp) (by simp) (by simp) (by simp) (by simp) 2 _) (w.heap.size + 1) (Nat.le_succ _) (by simp) (by simp) (by simp) (by simp) (by simp) 3 _) (w.heap.size + 1) (Nat.le_succ _) (by simp) (by simp) (by simp) (by simp) (by simp) 4 _) (fun hHeld => ?_)
        clear hK K
        (try simp only [Act.put, List.setIfInBounds_toArray, List.set_cons_zero, List.set_cons_succ])
        refine wpAnyH_done (by kernel_rfl) ?_ _
        have HBE := Lib.hid hHeld.2
        clear hHeld
        go_wp2_with fail
        refine bodyPost_ret (v := .agg #[.int .i64 id, .int .i64 ep, .string t, .int .i64 p, .slice (some ⟨gg, 0, none⟩) L cc]) (results_cell_row (p := 2) (ty := 48) Try.results43 _ _ (w.heap.size + 1) 48 #[.int .i64 id, .int .i64 ep, .string t, .int .i64 p, .slice (some ⟨gg, 0, none⟩) L cc] (0, 0) _ rfl ?row1 Try.underlying48 rfl (by kernel_rfl)) rfl ?_
        case row1 => exact (heap_setCell_same _ (w.heap.size + 1) 4 _ _ (.slice (some ⟨gg, 0, none⟩) L cc) (heap_setCell_same _ (w.heap.size + 1) 3 _ _ (.int .i64 p) (heap_setCell_same _ (w.heap.size + 1) 2 _ _ (.string t) (heap_setCell_same _ (w.heap.size + 1) 1 _ _ (.int .i64 ep) (heap_setCell_same _ (w.heap.size + 1) 0 _ _ (.int .i64 id) HR6.out)))))
        refine ⟨some ⟨gg, 0, none⟩, cc, rfl, (RowC.own HO6.out HL.out).kept (fun q cs fr hq => HFAR.out _ _ _ _ _ q (fun e => ?_)), fun e => (by cases e), HBE.out⟩
        rw [e, HR6.out] at hq; injection hq with e; injection e with _ e; exact absurd e (by decide)
      exact AllReadyH.nil
    exact AllReadyH.nil
  exact AllReadyH.nil
end Go.Proofs.Ytcmlopflandlgaa.L8
