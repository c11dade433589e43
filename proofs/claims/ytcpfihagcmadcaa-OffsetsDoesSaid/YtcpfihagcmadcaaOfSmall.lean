/-
  Contracts: a new table; may a mark be; Get, keep, Put, Behind.
-/
import Derived.Test.YtcpfihagcmadcaaOfMem
import Derived.Test.YtcpfihagcmadcaaMReqNames
import Derived.Test.YtcpfihagcmadcaaMText
import Derived.Test.YtcpfihagcmadcaaMRecRall
import Derived.LoopTactic
import Derived.BigQuiet
import Derived.Deep.QuietTactic
import Derived.Deep.RegionHeld3
import Derived.Deep.RegionLaw
import Derived.RegionTactic
import Derived.Deep.Cut
import Derived.Lib.SliceRun
import Derived.Outline
namespace Go.Proofs.Ytcpfihagcmadcaa.L12
open Go.RowKit
open Go.Maps
open L3 L4

theorem one_box' {w : World} (o : Obj) : Below w.heap.size w (w.alloc o) := (Below.refl _ _).alloc (Nat.le_refl _) o
theorem cell_at {w w' : World} (hb : Below w.heap.size w w') {a : Addr} {v : Value} (h : w.cell? a = some v) : w'.cell? a = some v := (hb.cell (World.block_lt_of_cell? _ _ h)).trans h
theorem new_is (w : World) : Calls Try.prog 5 #[] w fun e w' => ∃ g, e = .returned (.pointer (some ⟨g, 0, none⟩)) ∧ TabM w.heap.size w' g 0 [] ∧ Below w.heap.size w w' := by
  have hmm := @run_makeMap Try.prog
  go_enter Try.func5, Try.ntmps5
  go_wp2_with fail
  go_ret
  have b1 := one_box' (w := w) (.map #[] 0)
  have e1 : (w.alloc (.map #[] 0)).heap.size = w.heap.size + 1 := by simp
  refine ⟨_, rfl, ⟨w.heap.size, ⟨?_, (isMarks_made w).at ((one_box' _).block _ (by simp))⟩, by simp, Nat.le_refl _⟩, b1.alloc b1.size _⟩
  rw [← e1]; exact heap_alloc_new _ _
theorem within_is (n : Int) (b : Bool) (w : World) (HB : Hid (numB n = b)) :
    Calls Try.prog 30 #[.int .i64 n] w fun e w' => e = .returned (.bool b) ∧ w = w' := by
  go_enter Try.func30, Try.ntmps30
  go_wp2_with fail
  all_goals
    go_ret
    refine ⟨congrArg (fun b => Ending.returned (.bool b)) ?_, rfl⟩
    rw [← HB.out]
    unfold numB
    simp [*]
    try omega
/-- a mark in a box of its own -/
def boxM (m : Mr) : Obj := .cells (mkC m).toArray 32
theorem box_row (w : World) (g t : ByteArray) (p o : Int) : (w.alloc (.cells #[.string g, .string t, .int .i64 p, .int .i64 o] 32)).heap[w.heap.size]? = some (.cells #[.string g, .string t, .int .i64 p, .int .i64 o] 32 (0, 0)) := heap_alloc_new _ _
theorem row4 {w : World} {k : Nat} {g t : ByteArray} {p o : Int} {T : TypeId} (h : w.heap[k]? = some (.cells #[.string g, .string t, .int .i64 p, .int .i64 o] T (0, 0))) :
    w.cell? ⟨k, 0, none⟩ = some (.string g) ∧ w.cell? ⟨k, 1, none⟩ = some (.string t) ∧ w.cell? ⟨k, 2, none⟩ = some (.int .i64 p) ∧ w.cell? ⟨k, 3, none⟩ = some (.int .i64 o) :=
  ⟨(cell_of_row _ _ 0 _ _ _ h).trans rfl, (cell_of_row _ _ 1 _ _ _ h).trans rfl, (cell_of_row _ _ 2 _ _ _ h).trans rfl, (cell_of_row _ _ 3 _ _ _ h).trans rfl⟩
set_option maxRecDepth 100000 in
set_option maxHeartbeats 2000000 in
theorem fits_is (g t : ByteArray) (p o : Int) (v : Bool) (w : World) (hg : Hid (g.size ≤ maxLen)) (ht : Hid (t.size ≤ maxLen)) (HV : Hid (mayR ⟨g, t, p, o⟩ = v)) :
    Calls Try.prog 23 #[.agg #[.string g, .string t, .int .i64 p, .int .i64 o]] w fun e w' => e = .returned (.bool v) ∧ Below w.heap.size w w' := by
  obtain ⟨x1, h1⟩ : ∃ x, nameB g = x := ⟨_, rfl⟩
  obtain ⟨x2, h2⟩ : ∃ x, nameB t = x := ⟨_, rfl⟩
  obtain ⟨x3, h3⟩ : ∃ x, numB p = x := ⟨_, rfl⟩
  obtain ⟨x4, h4⟩ : ∃ x, numB o = x := ⟨_, rfl⟩
  have hv := HV.out
  unfold mayR at hv
  dsimp only at hv
  rw [h1, h2, h3, h4] at hv
  have HX := Lib.hid hv
  have H1 := Lib.hid h1
  have H2 := Lib.hid h2
  have H3 := Lib.hid h3
  have H4 := Lib.hid h4
  obtain ⟨W, hW⟩ : ∃ W, w.alloc (.cells #[.string g, .string t, .int .i64 p, .int .i64 o] 32) = W := ⟨_, rfl⟩
  have hbW : Below w.heap.size w W := by rw [← hW]; exact one_box' _
  have hr : W.heap[w.heap.size]? = some (.cells #[.string g, .string t, .int .i64 p, .int .i64 o] 32 (0, 0)) := by rw [← hW]; exact box_row w g t p o
  obtain ⟨b0, b1, b2, b3⟩ := row4 hr
  have HW := Lib.hid hW
  have HBW := Lib.hid hbW
  clear h1 h2 h3 h4 hv hr hW hbW HV
  go_enter Try.func23, Try.ntmps23
  go_wp2_with (first
    | (go_at_call 32; (first | (rw [HW.out]) | skip); with_reducible refine (name_is t x2 _ ht H2).mono ?_; rintro e w2 ⟨rfl, hb2⟩; have d2 := cell_at hb2 d2; have d3 := cell_at hb2 d3; have HB2 := Lib.hid hb2; clear hb2)
    | (go_at_call 32; (first | (rw [HW.out]) | skip); with_reducible refine (name_is g x1 _ hg H1).mono ?_; rintro e w1 ⟨rfl, hb1⟩; have d1 := cell_at hb1 b1; have d2 := cell_at hb1 b2; have d3 := cell_at hb1 b3; have HB1 := Lib.hid hb1; clear hb1)
    | (go_at_call 30; with_reducible refine (within_is o x4 _ H4).mono ?_; rintro e w3 ⟨rfl, rfl⟩)
    | (go_at_call 30; with_reducible refine (within_is p x3 _ H3).mono ?_; rintro e w3 ⟨rfl, rfl⟩))
  all_goals
    go_ret
    refine ⟨congrArg (fun b => Ending.returned (.bool b)) (Eq.trans ?_ HX.out), ?_⟩
    · simp [*]
    · first
        | exact HBW.out.trans ((HB1.out.trans (HB2.out.mono HB1.out.size)).mono HBW.out.size)
        | exact HBW.out.trans (HB1.out.mono HBW.out.size)

/-! ### Get -/
theorem zeroInt (w : World) : (zeroValue 3).run Try.prog w = .ok (.int .i64 0) w := by kernel_rfl
theorem lit_inj {c x : Int} (h : (DataW.lit (.int .i64 c) : DataW Unit) = .lit (.int .i64 x)) : c = x := by cases h; rfl
/-- what is found, wherever the map is as it was -/
theorem IsMarks.look {w : World} {b N : Nat} {Q : List Mr} (h : IsMarks w b N Q) (F : Fits Q) (S : SortR Q) {g t : ByteArray} {p : Int} (hg : g.size ≤ maxLen) (ht : t.size ≤ maxLen) (hp : (Lit.int .i64 p).wf = true) (w' : World) (hb : w'.heap[b]? = w.heap[b]?) :
    (Instr.lookup 52 (.map (some b)) (.agg #[.string g, .string t, .int .i64 p]) true).run Try.prog w' = .ok (.tuple #[.int .i64 (atR Q g t p), .bool (isR Q g t p)]) w' := by
  obtain ⟨D, ho, hd⟩ := h.at hb
  obtain ⟨v, ps, hrun, hv⟩ := ho.look_ok lawSpot mapInt (zeroInt w') (plainElem_int (H := Unit) Try.underlying3 (by decide : (Lit.int .i64 0).wf = true)) (keyOf_spot hg ht hp)
  obtain ⟨c, rfl, hc, _⟩ := plainElem_int_inv Try.underlying3 hv
  have e := congrArg Prod.fst hc
  dsimp only at e
  rw [hd.at F S hg ht hp] at e
  have e2 := lit_inj e
  rw [hrun, hd.has F hg ht hp, e2]
theorem part_row (w : World) (t : ByteArray) (p : Int) : (w.alloc (.cells #[.string t, .int .i64 p] 30)).heap[w.heap.size]? = some (.cells #[.string t, .int .i64 p] 30 (0, 0)) := heap_alloc_new _ _
set_option maxRecDepth 100000 in
set_option maxHeartbeats 2000000 in
theorem get_is {w : World} {g b N : Nat} {Q : List Mr} (gr t : ByteArray) (p x : Int) (v : Bool) (h : Hid (Tab w g b N Q)) (G : Hid (Good Q)) (hg : Hid (gr.size ≤ maxLen)) (ht : Hid (t.size ≤ maxLen)) (hp : Hid ((Lit.int .i64 p).wf = true)) (HX : Hid (atR Q gr t p = x)) (HV : Hid (isR Q gr t p = v)) :
    Calls Try.prog 14 #[.pointer (some ⟨g, 0, none⟩), .string gr, .agg #[.string t, .int .i64 p]] w fun e w' => e = .returned (.tuple #[.int .i64 x, .bool v]) ∧ Below w.heap.size w w' := by
  obtain ⟨W, hW⟩ : ∃ W, w.alloc (.cells #[.string t, .int .i64 p] 30) = W := ⟨_, rfl⟩
  have hbW : Below w.heap.size w W := by rw [← hW]; exact one_box' _
  have hr : W.heap[w.heap.size]? = some (.cells #[.string t, .int .i64 p] 30 (0, 0)) := by rw [← hW]; exact part_row w t p
  have b0 : W.cell? ⟨w.heap.size, 0, none⟩ = some (.string t) := (cell_of_row _ _ 0 _ _ _ hr).trans rfl
  have b1 : W.cell? ⟨w.heap.size, 1, none⟩ = some (.int .i64 p) := (cell_of_row _ _ 1 _ _ _ hr).trans rfl
  have HT := h.out.below hbW
  have c0 := HT.c0
  have hl := fun w' hb => HT.map.look G.out.fits G.out.sorted hg.out ht.out hp.out w' hb
  rw [HX.out, HV.out] at hl
  have u1 := hl W.drew rfl
  have u2 := hl W.drew.drew rfl
  have u3 := hl W.drew.drew.drew rfl
  have HW := Lib.hid hW
  have HBW := Lib.hid hbW
  clear hW hbW hr HT hl h
  go_enter Try.func14, Try.ntmps14
  go_upto_region 1 with (fail)
  rw [HW.out]
  go_region
  all_goals
    go_wp2_with fail
    go_ret2
    exact ⟨rfl, drewN_below HBW.out 1⟩
theorem Tab.turned' {w w1 w2 : World} {g b N N' : Nat} {Q Q' : List Mr} (h : Tab w1 g b N Q) (hb : Below w.heap.size w w1) (o : Only [b] w w2) (hm : IsMarks w2 b N' Q') (hg : g < w.heap.size) : Tab w2 g b N' Q' :=
  ⟨(o.block g hg (by simpa using h.gb)).trans ((hb.block g hg).symm.trans h.row), hm⟩

/-! ### keep, Put -/
set_option maxRecDepth 100000 in
set_option maxHeartbeats 4000000 in
theorem keep_is {w : World} {g b N : Nat} {Q Q' : List Mr} (gr t : ByteArray) (p o : Int) (h : Hid (Tab w g b N Q)) (hN : N ≤ 1000000) (hgz : gr.size ≤ 281474976710656) (htz : t.size ≤ 281474976710656) (HP : Hid ((Lit.int .i64 p).wf = true)) (HO : Hid ((Lit.int .i64 o).wf = true)) (HF : Hid (Fits Q)) (hm' : Hid (∀ x, x ∈ Q' ↔ x = ⟨gr, t, p, o⟩ ∨ (x ∈ Q ∧ ¬ SameR x ⟨gr, t, p, o⟩))) :
    Calls Try.prog 24 #[.pointer (some ⟨g, 0, none⟩), .agg #[.string gr, .string t, .int .i64 p, .int .i64 o]] w fun e w' => e = .returned (.tuple #[]) ∧ Tab w' g b (N + 1) Q' ∧ Only [b] w w' := by
  have HS : Hid (gr.size ≤ maxLen) := Lib.hid (by unfold maxLen; omega)
  have HT1 : Hid (t.size ≤ maxLen) := Lib.hid (by unfold maxLen; omega)
  obtain ⟨W, hW⟩ : ∃ W, w.alloc (.cells #[.string gr, .string t, .int .i64 p, .int .i64 o] 32) = W := ⟨_, rfl⟩
  have hbW : Below w.heap.size w W := by rw [← hW]; exact one_box' _
  have hr : W.heap[w.heap.size]? = some (.cells #[.string gr, .string t, .int .i64 p, .int .i64 o] 32 (0, 0)) := by rw [← hW]; exact box_row w gr t p o
  have hsz : w.heap.size < W.heap.size := by rw [← hW]; simp
  obtain ⟨b0, b1, b2, b3⟩ := row4 hr
  have HW := Lib.hid hW
  have HBW := Lib.hid hbW
  have HR := Lib.hid hr
  have HSZ := Lib.hid hsz
  clear hW hbW hr hsz b0 b2 b3
  go_enter Try.func24, Try.ntmps24
  go_upto_region 1 with (fail)
  rw [HW.out]
  go_upto_region 2 with (go_at_call 33; refine (clone_any t _ htz).mono ?_; rintro e w1 ⟨rfl, hb1⟩; have r1 := (hb1.block w.heap.size HSZ.out).trans HR.out; have f0 := frozen_of_row w1 w.heap.size 1 _ _ r1; have d0 := (cell_of_row _ _ 1 _ _ _ r1).trans rfl; have R1 := Lib.hid r1; clear r1; have HB1 := Lib.hid hb1; clear hb1)
  obtain ⟨W1, hW1⟩ : ∃ W1, w1.setCell ⟨w.heap.size, 1, none⟩ (.string t) = W1 := ⟨_, rfl⟩
  have r2 := heap_setCell_same w1 w.heap.size 1 _ _ (.string t) R1.out
  have hb2 : Below w.heap.size w (w1.setCell ⟨w.heap.size, 1, none⟩ (.string t)) := (HBW.out.trans (HB1.out.mono HBW.out.size)).setCell (Nat.le_refl _) _
  rw [hW1] at r2 hb2 ⊢
  obtain ⟨k0, k1, k2, k3⟩ := row4 r2
  have HT := Lib.hid (h.out.below hb2)
  have HB2 := Lib.hid hb2
  have HLT := Lib.hid HT.out.map.lt
  have HM := Lib.hid HT.out.map
  have HGB := Lib.hid h.out.gb
  have HGL := Lib.hid h.out.lt
  have HBX : Hid (w.heap.size ∉ [b]) := Lib.hid (by have := h.out.map.lt; simp; omega)
  have c0 := HT.out.c0
  clear r2 hW1 hb2 d0 f0 b1
  refine wp_region_held_drew (S := fun w' => (w'.cell? ⟨g, 0, none⟩ = some (.map (some b)) ∧ w'.cell? ⟨w.heap.size, 0, none⟩ = some (.string gr) ∧ w'.cell? ⟨w.heap.size, 1, none⟩ = some (.string t) ∧ w'.cell? ⟨w.heap.size, 2, none⟩ = some (.int .i64 p) ∧ w'.cell? ⟨w.heap.size, 3, none⟩ = some (.int .i64 o)) ∧ Only [b] w w') (by kernel_rfl) ⟨⟨c0, k0, k1, k2, k3⟩, (Only.ofBelow HB2.out).drew⟩ (fun hHeld => ?_)
  refine wpAnyH_take (i := 0) (oi := ?o1) (v := ?v1) ?a1 (by kernel_rfl) (by kernel_rfl) (by kernel_rfl) ?q1 (Or.inl ⟨?g1, ?y1⟩) (by assumption) ?r1; (case' a1 => (simp only [List.getElem?_toArray, List.getElem?_cons_zero]; rfl)); (case' q1 => (exact fun _ _ _ h => h)); (case' g1 => rfl); (case' y1 => (intro w hSw; (try dsimp only at hSw); go_simp; try with_reducible rfl)); (case' r1 => (try simp only [Act.put, List.setIfInBounds_toArray, List.set_cons_zero, List.set_cons_succ]))
  refine wpAnyH_take (i := 1) (oi := ?o2) (v := ?v2) ?a2 (by kernel_rfl) (by kernel_rfl) (by kernel_rfl) ?q2 (Or.inl ⟨?g2, ?y2⟩) (by assumption) ?r2; (case' a2 => (simp only [List.getElem?_toArray, List.getElem?_cons_zero, List.getElem?_cons_succ]; rfl)); (case' q2 => (exact fun _ _ _ h => h)); (case' g2 => rfl); (case' y2 => (intro w hSw; (try dsimp only at hSw); go_simp; try with_reducible rfl)); (case' r2 => (try simp only [Act.put, List.setIfInBounds_toArray, List.set_cons_zero, List.set_cons_succ]))
  refine wpAnyH_take (i := 2) (oi := ?o3) (v := ?v3) ?a3 (by kernel_rfl) (by kernel_rfl) (by kernel_rfl) ?q3 (Or.inl ⟨?g3, ?y3⟩) (by assumption) ?r3; (case' a3 => (simp only [List.getElem?_toArray, List.getElem?_cons_zero, List.getElem?_cons_succ]; rfl)); (case' q3 => (exact fun _ _ _ h => h)); (case' g3 => rfl); (case' y3 => (intro w hSw; (try dsimp only at hSw); go_simp; try with_reducible rfl)); (case' r3 => (try simp only [Act.put, List.setIfInBounds_toArray, List.set_cons_zero, List.set_cons_succ]))
  refine wpAnyH_take (i := 3) (oi := ?o4) (v := ?v4) ?a4 (by kernel_rfl) (by kernel_rfl) (by kernel_rfl) ?q4 (Or.inl ⟨?g4, ?y4⟩) (by assumption) ?r4; (case' a4 => (simp only [List.getElem?_toArray, List.getElem?_cons_zero, List.getElem?_cons_succ]; rfl)); (case' q4 => (exact fun _ _ _ h => h)); (case' g4 => rfl); (case' y4 => (intro w hSw; (try dsimp only at hSw); go_simp; try with_reducible rfl)); (case' r4 => (try simp only [Act.put, List.setIfInBounds_toArray, List.set_cons_zero, List.set_cons_succ]))
  refine wpAnyH_take (i := 4) (oi := ?o5) (v := ?v5) ?a5 (by kernel_rfl) (by kernel_rfl) (by kernel_rfl) ?q5 (Or.inl ⟨?g5, ?y5⟩) (by assumption) ?r5; (case' a5 => (simp only [List.getElem?_toArray, List.getElem?_cons_zero, List.getElem?_cons_succ]; rfl)); (case' q5 => (exact fun _ _ _ h => h)); (case' g5 => rfl); (case' y5 => (intro w hSw; (try dsimp only at hSw); go_simp; try with_reducible rfl)); (case' r5 => (try simp only [Act.put, List.setIfInBounds_toArray, List.set_cons_zero, List.set_cons_succ]))
  refine wpAnyH_take (i := 5) (oi := ?o6) (v := ?v6) ?a6 (by kernel_rfl) (by kernel_rfl) (by kernel_rfl) ?q6 (Or.inl ⟨?g6, ?y6⟩) (by assumption) ?r6; (case' a6 => (simp only [List.getElem?_toArray, List.getElem?_cons_zero, List.getElem?_cons_succ]; rfl)); (case' q6 => (exact fun _ _ _ h => h)); (case' g6 => rfl); (case' y6 => (intro w hSw; (try dsimp only at hSw); go_simp; try with_reducible rfl)); (case' r6 => (try simp only [Act.put, List.setIfInBounds_toArray, List.set_cons_zero, List.set_cons_succ]))
  refine wpAnyH_take (i := 7) (oi := ?o7) (v := ?v7) ?a7 (by kernel_rfl) (by kernel_rfl) (by kernel_rfl) ?q7 (Or.inl ⟨?g7, ?y7⟩) (by assumption) ?r7; (case' a7 => (simp only [List.getElem?_toArray, List.getElem?_cons_zero, List.getElem?_cons_succ]; rfl)); (case' q7 => (exact fun _ _ _ h => h)); (case' g7 => rfl); (case' y7 => (intro w hSw; (try dsimp only at hSw); go_simp; try with_reducible rfl)); (case' r7 => (try simp only [Act.put, List.setIfInBounds_toArray, List.set_cons_zero, List.set_cons_succ]))
  refine wpAnyH_take (i := 8) (oi := ?o8) (v := ?v8) ?a8 (by kernel_rfl) (by kernel_rfl) (by kernel_rfl) ?q8 (Or.inl ⟨?g8, ?y8⟩) (by assumption) ?r8; (case' a8 => (simp only [List.getElem?_toArray, List.getElem?_cons_zero, List.getElem?_cons_succ]; rfl)); (case' q8 => (exact fun _ _ _ h => h)); (case' g8 => rfl); (case' y8 => (intro w hSw; (try dsimp only at hSw); go_simp; try with_reducible rfl)); (case' r8 => (try simp only [Act.put, List.setIfInBounds_toArray, List.set_cons_zero, List.set_cons_succ]))
  refine wpAnyH_take (i := 10) (oi := ?o9) (v := ?v9) ?a9 (by kernel_rfl) (by kernel_rfl) (by kernel_rfl) ?q9 (Or.inl ⟨?g9, ?y9⟩) (by assumption) ?r9; (case' a9 => (simp only [List.getElem?_toArray, List.getElem?_cons_zero, List.getElem?_cons_succ]; rfl)); (case' q9 => (exact fun _ _ _ h => h)); (case' g9 => rfl); (case' y9 => (intro w hSw; (try dsimp only at hSw); go_simp; try with_reducible rfl)); (case' r9 => (try simp only [Act.put, List.setIfInBounds_toArray, List.set_cons_zero, List.set_cons_succ]))
  refine wpAnyH_take (i := 11) (oi := ?o10) (v := ?v10) ?a10 (by kernel_rfl) (by kernel_rfl) (by kernel_rfl) ?q10 (Or.inl ⟨?g10, ?y10⟩) (by assumption) ?r10; (case' a10 => (simp only [List.getElem?_toArray, List.getElem?_cons_zero, List.getElem?_cons_succ]; rfl)); (case' q10 => (exact fun _ _ _ h => h)); (case' g10 => rfl); (case' y10 => (intro w hSw; (try dsimp only at hSw); go_simp; try with_reducible rfl)); (case' r10 => (try simp only [Act.put, List.setIfInBounds_toArray, List.set_cons_zero, List.set_cons_succ]))
  refine wpAnyH_ready (rs := [6]) (by kernel_rfl) (by simp) ?_
  refine AllReadyH.cons (o := ?o11) ?a11 (fun K hK => ?s11) ?m11; (case' a11 => (simp only [List.getElem?_toArray, List.getElem?_cons_zero, List.getElem?_cons_succ]; rfl))
  case s11 =>
    go_simp
    go_at_call 33
    refine (clone_any gr _ hgz).mono ?_
    rintro e wn ⟨rfl, hbn⟩
    obtain ⟨W2, hrun, hm1, ho1⟩ := (HM.out.at (w' := wn) (hbn.block b HLT.out)).store (by unfold maxLen; omega) HF.out ⟨gr, t, p, o⟩ HS.out HT1.out HP.out HO.out hm'.out; have HM1 := Lib.hid hm1; have HO1 := Lib.hid ho1; have HO2 : Hid (Only [b] w wn) := Lib.hid (Only.ofBelow (HB2.out.trans (((Below.refl _ W1).drew.trans hbn).mono HB2.out.size))); have HC1 : Hid (wn.cell? ⟨g, 0, none⟩ = some (.map (some b))) := Lib.hid (HO2.out.cell h.out.c0 (by simpa using HGB.out)); clear hm1 ho1; try dsimp only at hrun
    go_wp2_with fail
    refine hK.out _ _ (⟨⟨HC1.out, cell_at hbn hHeld.1.2.1, cell_at hbn hHeld.1.2.2.1, cell_at hbn hHeld.1.2.2.2.1, cell_at hbn hHeld.1.2.2.2.2⟩, HO2.out⟩) (fun hHeld => ?_)
    clear hK K
    (try simp only [Act.put, List.setIfInBounds_toArray, List.set_cons_zero, List.set_cons_succ])
    refine wpAnyH_take (i := 9) (oi := ?o12) (v := ?v12) ?a12 (by kernel_rfl) (by kernel_rfl) (by kernel_rfl) ?q12 (Or.inl ⟨?g12, ?y12⟩) (by assumption) ?r12; (case' a12 => (simp only [List.getElem?_toArray, List.getElem?_cons_zero, List.getElem?_cons_succ]; rfl)); (case' q12 => (exact fun _ _ _ h => h)); (case' g12 => rfl); (case' y12 => (intro w hSw; (try dsimp only at hSw); go_simp; try with_reducible rfl)); (case' r12 => (try simp only [Act.put, List.setIfInBounds_toArray, List.set_cons_zero, List.set_cons_succ]))
    refine wpAnyH_ready (rs := [12]) (by kernel_rfl) (by simp) ?_
    refine AllReadyH.cons (o := ?o13) ?a13 (fun K hK => ?s13) ?m13; (case' a13 => (simp only [List.getElem?_toArray, List.getElem?_cons_zero, List.getElem?_cons_succ]; rfl))
    case s13 =>
      go_simp
      refine hK.out _ _ (⟨⟨HO1.out.cell hHeld.1.1 (by simpa using HGB.out), HO1.out.cell hHeld.1.2.1 HBX.out, HO1.out.cell hHeld.1.2.2.1 HBX.out, HO1.out.cell hHeld.1.2.2.2.1 HBX.out, HO1.out.cell hHeld.1.2.2.2.2 HBX.out⟩, HO2.out.trans HO1.out (fun k hk => .inl hk)⟩) (fun hHeld => ?_)
      clear hK K
      (try simp only [Act.put, List.setIfInBounds_toArray, List.set_cons_zero, List.set_cons_succ])
      refine wpAnyH_done (by kernel_rfl) ?_ _
      go_wp2_with fail
      go_end0
      exact ⟨rfl, HT.out.turned' HB2.out hHeld.2 HM1.out HGL.out, hHeld.2⟩
    exact AllReadyH.nil
  exact AllReadyH.nil
end Go.Proofs.Ytcpfihagcmadcaa.L12
