/-
  Contracts: the batch at a place, the program's.
-/
import Derived.Test.YtijofikpdhapoaaGreatRecNums
import Derived.Test.YtijofikpdhapoaaGreatMRecAll
import Derived.Laws.OwnMore
import Derived.OwnWalk
namespace Go.Proofs.YtijofikpdhapoaaGreat.L3
open Go.RowKit

theorem recInfo1 : (Tryz.prog.info? 35).map (fun i => (i.zero, i.size, i.bytes)) = some (some (.agg #[.bool false, .string ⟨#[]⟩, .bool false, .string ⟨#[]⟩]), 4, 48) := by kernel_rfl

/-- what is told of a batch at a place -/
def ParsePost (b : Bt) (to x : Int) (w : World) (e : Ending) (w' : World) : Prop :=
  ∃ A cap, e = .returned (.tuple #[.agg #[.int .i64 b.p, .int .i64 b.e, .int .i64 b.q, .slice A b.l.length cap], .int .i64 to, .int .i64 x]) ∧
    w'.ownsRow w.heap.size 35 4 (.slice A b.l.length cap) b.l.length (rowOf b.l) ∧ Below w.heap.size w w'

def zeroRec : Array Value := #[.bool false, .string ⟨#[]⟩, .bool false, .string ⟨#[]⟩]

theorem make_rec (n : Nat) (hn : n ≤ 16) (W : World) :
    (Instr.makeSlice 24 (.int .u64 (n : Int)) (.int .u64 (n : Int))).run Tryz.prog W = .ok (.slice (some ⟨W.heap.size, 0, none⟩) n n) (W.alloc (.cells (madeCells zeroRec (n * 4)) 35)) := by
  obtain ⟨i0, hi0, hz0, hz1, hz2⟩ := info_parts recInfo1
  have hr := run_make (P := Tryz.prog) W 24 35 i0 _ Tryz.underlying24 hi0 hz0 .u64 .u64 n n (by omega) (Int.le_refl _) (by rw [hz2]; omega) (by omega)
  simp only [Int.toNat_natCast] at hr
  rw [hr, hz1]
  rfl






theorem numP_lim {s : ByteArray} {a to : Int} {x0 x1 x2 x3 : Nat} (h : numP s a = ((x0, x1, x2, x3), to, 0)) : x0 ≤ 1099511627776 ∧ x1 ≤ 1099511627776 ∧ x2 ≤ 1099511627776 ∧ 0 < x3 ∧ x3 ≤ 16 := by
  obtain ⟨l, t, e, hr⟩ : ∃ l t e, run (V.get s) a 4 = (l, t, e) := ⟨_, _, _, rfl⟩
  by_cases he : e = 0
  · subst he
    have hl := run_len hr
    match l, hl with
    | [y0, y1, y2, y3], _ =>
      by_cases hz : numE y0 y1 y2 y3 = 0
      · rw [numP_ok hr hz] at h
        simp only [Prod.mk.injEq, and_true] at h
        obtain ⟨⟨rfl, rfl, rfl, rfl⟩, _⟩ := h
        exact numE_ok hz
      · rw [numP_bad hr rfl hz] at h
        simp only [Prod.mk.injEq] at h
        exact absurd h.2.2 hz
  · rw [numP_err hr he] at h
    simp only [Prod.mk.injEq] at h
    exact absurd h.2.2 he

/-- behind the store of a record into a row -/
theorem row_next {W : World} {G k n : Nat} {row : Array Value} {T : TypeId} {l : List R} {r : R} (hrow : W.heap[G]? = some (.cells row T (0, 0))) (hsz : row.size = n * 4) (ht : row.toList.take (k * 4) = rowOf l) (hk : k < n) :
    ∃ row', ((((W.setCell ⟨G, k * 4, none⟩ (.bool r.hk)).setCell ⟨G, k * 4 + 1, none⟩ (.string r.key)).setCell ⟨G, k * 4 + 2, none⟩ (.bool r.tb)).setCell ⟨G, k * 4 + 3, none⟩ (.string r.val)).heap[G]? = some (.cells row' T (0, 0)) ∧ row'.size = n * 4 ∧ row'.toList.take ((k + 1) * 4) = rowOf (l ++ [r]) := by
  refine ⟨_, heap_setCell_same _ _ _ _ _ _ (heap_setCell_same _ _ _ _ _ _ (heap_setCell_same _ _ _ _ _ _ (heap_setCell_same _ _ _ _ _ _ hrow))), by simpa using hsz, ?_⟩
  have e1 := take_set (v := .bool r.hk) (by omega : k * 4 < row.size) ht
  have e2 := take_set (v := .string r.key) (by simp; omega : k * 4 + 1 < _) e1
  have e3 := take_set (v := .bool r.tb) (by simp; omega : k * 4 + 2 < _) e2
  have e4 := take_set (v := .string r.val) (by simp; omega : k * 4 + 3 < _) e3
  rw [show (k + 1) * 4 = k * 4 + 3 + 1 by omega, e4, rowOf_app]
  simp [rowOf]

theorem cell_in {W : World} {G i : Nat} {row : Array Value} {T : TypeId} (h : W.heap[G]? = some (.cells row T (0, 0))) (hi : i < row.size) : ∃ v, W.cell? ⟨G, i, none⟩ = some v :=
  ⟨row[i], (cell_of_row _ _ _ _ _ _ h).trans (Array.getElem?_eq_getElem hi)⟩
theorem own_row {W : World} {G n base : Nat} {row : Array Value} {l : List R} (hrow : W.heap[G]? = some (.cells row 35 (0, 0))) (hsz : row.size = n * 4) (ht : row.toList.take (n * 4) = rowOf l) (hl : l.length = n) (hn : n ≤ 16) (hb : base ≤ G) :
    W.ownsRow base 35 4 (.slice (some ⟨G, 0, none⟩) l.length n) l.length (rowOf l) := by
  subst hl
  exact ⟨rowOf_len l, .inr ⟨G, l.length, row, rfl, hb, hrow, Nat.le_refl _, by unfold maxLen; omega, hsz, ht⟩⟩

set_option maxRecDepth 100000 in
set_option maxHeartbeats 4000000 in
theorem parse_num_err (s : ByteArray) (a : Int) (x : Int) (w : World) (hs : s.size ≤ 140737488355328) (HN : Hid (numP s a = ((0, 0, 0, 0), 0, x))) (hx : (x != 0) = true) :
    Calls Tryz.prog 107 #[.string s, .int .i64 a] w (ParsePost Bt.zero 0 x w) := by
  have HS := Lib.hid hs
  clear hs
  go_enter Tryz.func107, Tryz.ntmps107
  go_wp2_with (go_at_call 108; refine (nums_any _ _ _ HS.out _ _ _ _ _ _ HN).mono ?_; rintro e w1 ⟨rfl, hb1⟩; obtain ⟨hc1, hf1⟩ := box_cells hb1; have hz1 : w.heap.size < w1.heap.size := (by have := hb1.size; simp at this; omega); have hB1 : Below w.heap.size w w1 := (one_box _).trans (hb1.mono (by simp)); have HR1 : Hid (w1.heap[w.heap.size]? = some (.cells #[.int .i64 0, .int .i64 0, .int .i64 0, .slice none 0 0] 26 (0, 0))) := Lib.hid ((hb1.block _ (by simp)).trans (heap_alloc_new _ _)))
  refine bodyPost_ret (v := .tuple #[.agg #[.int .i64 0, .int .i64 0, .int .i64 0, .slice none 0 0], .int .i64 0, .int .i64 x]) (results_row3 (p := 4) (t1 := 5) (t2 := 6) (ty := 26) Tryz.results107 _ _ w.heap.size 26 #[.int .i64 0, .int .i64 0, .int .i64 0, .slice none 0 0] (0, 0) _ rfl ?row Tryz.underlying26 rfl (by kernel_rfl)) rfl ?_
  case row => exact (Below.heap_alloc _ _ _ (by simp; omega)).trans (heap_setCell_same _ w.heap.size 3 _ _ (.slice none 0 0) (heap_setCell_same _ w.heap.size 2 _ _ (.int .i64 0) (heap_setCell_same _ w.heap.size 1 _ _ (.int .i64 0) (heap_setCell_same _ w.heap.size 0 _ _ (.int .i64 0) HR1.out))))
  refine ⟨none, 0, rfl, World.ownsRow_nil _ _ _ _, ?_⟩
  repeat (first | with_reducible exact hB1 | refine Below.setCell ?_ (by simp <;> omega) _ | refine Below.alloc ?_ (by simp <;> omega) _)

set_option maxRecDepth 100000 in
set_option maxHeartbeats 4000000 in
theorem parse_run (s : ByteArray) (a : Int) (x0 x1 x2 n : Nat) (t0 : Int) (b : Bt) (to x : Int) (w : World) (hs : s.size ≤ 140737488355328) (HN : Hid (numP s a = ((x0, x1, x2, n), t0, 0))) (y0 : x0 ≤ 1099511627776) (y1 : x1 ≤ 1099511627776) (y2 : x2 ≤ 1099511627776) (hn0 : 0 < n) (hn : n ≤ 16)
    (HP : Hid (parse s a = (b, to, x))) :
    Calls Tryz.prog 107 #[.string s, .int .i64 a] w (ParsePost b to x w) := by
  have HS := Lib.hid hs
  have hmk := make_rec n hn
  have c0 : IntKind.i64.wrap (x0 : Int) = x0 := by rw [IntKind.wrap_i64]; omega
  have c1 : IntKind.i64.wrap (x1 : Int) = x1 := by rw [IntKind.wrap_i64]; omega
  have c2 : IntKind.i64.wrap (x2 : Int) = x2 := by rw [IntKind.wrap_i64]; omega
  clear hs
  go_enter Tryz.func107, Tryz.ntmps107
  go_wp2_with (go_at_call 108; refine (nums_any _ _ _ HS.out _ _ _ _ _ _ HN).mono ?_; rintro e w1 ⟨rfl, hb1⟩; obtain ⟨hc1, hf1⟩ := box_cells hb1; have hz1 : w.heap.size < w1.heap.size := (by have := hb1.size; simp at this; omega); have hB1 : Below w.heap.size w w1 := (one_box _).trans (hb1.mono (by simp)); have HR1 : Hid (w1.heap[w.heap.size]? = some (.cells #[.int .i64 0, .int .i64 0, .int .i64 0, .slice none 0 0] 26 (0, 0))) := Lib.hid ((hb1.block _ (by simp)).trans (heap_alloc_new _ _)))
  have hN1 : w1.heap.size < (w1.alloc (.cells #[.int .u64 x0, .int .u64 x1, .int .u64 x2, .int .u64 n] 150)).heap.size := by simp
  clear hmk
  go_loopw [8, 9, 28] (fun t e i wr => ∃ (k : Nat) (l : List R) (t' : Int) (row : Array Value), k ≤ n ∧ i = .int .i64 k ∧ t = .int .i64 t' ∧ e = .int .i64 0 ∧ Hid (run (getR s) t0 k = (l, t', 0)) ∧ Below (w1.heap.size + 1) (w1.alloc (.cells #[.int .u64 x0, .int .u64 x1, .int .u64 x2, .int .u64 n] 150)) wr ∧ Hid (wr.heap[w1.heap.size + 1]? = some (.cells row 35 (0, 0))) ∧ row.size = n * 4 ∧ Hid (row.toList.take (k * 4) = rowOf l)) (fun _ _ i _ => n - (intOf i).toNat)
  case atStart => exact ⟨0, [], t0, _, by omega, rfl, rfl, rfl, Lib.hid rfl, (Below.refl _ _).alloc (by simp) _, Lib.hid (by simpa using heap_alloc_new (w1.alloc _) _), size_madeCells _ _, Lib.hid (by simp [rowOf])⟩
  case round =>
    obtain ⟨k, l, t', row, hk, rfl, rfl, rfl, hrun, hbel, hrow, hsz, htk⟩ := hrel
    have hlt2 : w1.heap.size + 1 < wr.heap.size := (Array.getElem?_eq_some_iff.1 hrow.out).1
    have HRR : Hid (wr.heap[w.heap.size]? = some (.cells #[.int .i64 0, .int .i64 0, .int .i64 0, .slice none 0 0] 26 (0, 0))) := Lib.hid ((hbel.block _ (by omega)).trans ((Below.heap_alloc _ _ _ hz1).trans HR1.out))
    have hB1w : Below w.heap.size w wr := (hB1.alloc (by omega) _).trans (hbel.mono (by omega))
    by_cases hlt : k < n
    · obtain ⟨⟨rk, key, tb, val⟩, t2, e2, hg⟩ : ∃ r t2 e2, getR s t' = (r, t2, e2) := ⟨_, _, _, rfl⟩
      have HSZ := Lib.hid hsz
      by_cases he : e2 = 0
      · subst he
        have HNX := Lib.hid (run_next hrun.out hg)
        have HG := Lib.hid hg
        clear hg
        go_wp2_with (go_at_call 70; refine (getrec_is _ _ _ _ _ _ HS.out HG).mono ?_; rintro e3 w2 ⟨rfl, hb2⟩; have hr2 := (hb2.block (w1.heap.size + 1) hlt2).trans hrow.out; have HR2 : Hid (w2.heap[w.heap.size]? = some (.cells #[.int .i64 0, .int .i64 0, .int .i64 0, .slice none 0 0] 26 (0, 0))) := Lib.hid ((hb2.block _ (by omega)).trans HRR.out); obtain ⟨v0, hv0⟩ := cell_in hr2 (by omega : k * 4 < row.size); obtain ⟨v1, hv1⟩ := cell_in hr2 (by omega : k * 4 + 1 < row.size); obtain ⟨v2, hv2⟩ := cell_in hr2 (by omega : k * 4 + 2 < row.size); obtain ⟨v3, hv3⟩ := cell_in hr2 (by omega : k * 4 + 3 < row.size); have f0 := frozen_of_row w2 (w1.heap.size + 1) (k * 4) _ _ hr2; have f1 := frozen_of_row w2 (w1.heap.size + 1) (k * 4 + 1) _ _ hr2; have f2 := frozen_of_row w2 (w1.heap.size + 1) (k * 4 + 2) _ _ hr2; have f3 := frozen_of_row w2 (w1.heap.size + 1) (k * 4 + 3) _ _ hr2; have hz2 : w.heap.size < w2.heap.size := (by have := hb2.size; omega); have g0 := (cell_of_row w2 w.heap.size 0 _ _ _ HR2.out).trans rfl; have g1 := (cell_of_row w2 w.heap.size 1 _ _ _ HR2.out).trans rfl; have g2 := (cell_of_row w2 w.heap.size 2 _ _ _ HR2.out).trans rfl; have g3 := (cell_of_row w2 w.heap.size 3 _ _ _ HR2.out).trans rfl; have p0 := frozen_of_row w2 w.heap.size 0 _ _ HR2.out; have p1 := frozen_of_row w2 w.heap.size 1 _ _ HR2.out; have p2 := frozen_of_row w2 w.heap.size 2 _ _ HR2.out; have p3 := frozen_of_row w2 w.heap.size 3 _ _ HR2.out; have HROW2 := Lib.hid hr2; clear hr2)
        obtain ⟨row', q1, q2, q3⟩ := row_next (r := ⟨rk, key, tb, val⟩) HROW2.out HSZ.out htk.out hlt
        go_roundw
        case rel => exact ⟨k + 1, l ++ [⟨rk, key, tb, val⟩], t2, row', by omega, by go_num, rfl, rfl, HNX, (((((hbel.trans (hb2.mono (by omega))).setCell (Nat.le_refl _) _).setCell (Nat.le_refl _) _).setCell (Nat.le_refl _) _).setCell (Nat.le_refl _) _), Lib.hid q1, q2, Lib.hid q3⟩
        case measure => simp [intOf]; omega
      · have hp := parse_rec HN.out (run_stop hrun.out hg he hlt) he
        rw [HP.out] at hp
        simp only [Prod.mk.injEq] at hp
        obtain ⟨rfl, rfl, rfl⟩ := hp
        have he1 : (x != 0) = true := by simpa using he
        have HG := Lib.hid hg
        clear hg he
        go_wp2_with (go_at_call 70; refine (getrec_is _ _ _ _ _ _ HS.out HG).mono ?_; rintro e3 w2 ⟨rfl, hb2⟩; have hr2 := (hb2.block (w1.heap.size + 1) hlt2).trans hrow.out; have HR2 : Hid (w2.heap[w.heap.size]? = some (.cells #[.int .i64 0, .int .i64 0, .int .i64 0, .slice none 0 0] 26 (0, 0))) := Lib.hid ((hb2.block _ (by omega)).trans HRR.out); obtain ⟨v0, hv0⟩ := cell_in hr2 (by omega : k * 4 < row.size); obtain ⟨v1, hv1⟩ := cell_in hr2 (by omega : k * 4 + 1 < row.size); obtain ⟨v2, hv2⟩ := cell_in hr2 (by omega : k * 4 + 2 < row.size); obtain ⟨v3, hv3⟩ := cell_in hr2 (by omega : k * 4 + 3 < row.size); have f0 := frozen_of_row w2 (w1.heap.size + 1) (k * 4) _ _ hr2; have f1 := frozen_of_row w2 (w1.heap.size + 1) (k * 4 + 1) _ _ hr2; have f2 := frozen_of_row w2 (w1.heap.size + 1) (k * 4 + 2) _ _ hr2; have f3 := frozen_of_row w2 (w1.heap.size + 1) (k * 4 + 3) _ _ hr2; have hz2 : w.heap.size < w2.heap.size := (by have := hb2.size; omega); have g0 := (cell_of_row w2 w.heap.size 0 _ _ _ HR2.out).trans rfl; have g1 := (cell_of_row w2 w.heap.size 1 _ _ _ HR2.out).trans rfl; have g2 := (cell_of_row w2 w.heap.size 2 _ _ _ HR2.out).trans rfl; have g3 := (cell_of_row w2 w.heap.size 3 _ _ _ HR2.out).trans rfl; have p0 := frozen_of_row w2 w.heap.size 0 _ _ HR2.out; have p1 := frozen_of_row w2 w.heap.size 1 _ _ HR2.out; have p2 := frozen_of_row w2 w.heap.size 2 _ _ HR2.out; have p3 := frozen_of_row w2 w.heap.size 3 _ _ HR2.out; have HROW2 := Lib.hid hr2; clear hr2)
        have hB2 : Below w.heap.size w w2 := hB1w.trans (hb2.mono (by omega))
        refine bodyPost_ret (v := .tuple #[.agg #[.int .i64 0, .int .i64 0, .int .i64 0, .slice none 0 0], .int .i64 0, .int .i64 x]) (results_row3 (p := 4) (t1 := 5) (t2 := 6) (ty := 26) Tryz.results107 _ _ w.heap.size 26 #[.int .i64 0, .int .i64 0, .int .i64 0, .slice none 0 0] (0, 0) _ rfl ?row1 Tryz.underlying26 rfl (by kernel_rfl)) rfl ?_
        case row1 => exact heap_setCell_same _ w.heap.size 3 _ _ (.slice none 0 0) (heap_setCell_same _ w.heap.size 2 _ _ (.int .i64 0) (heap_setCell_same _ w.heap.size 1 _ _ (.int .i64 0) (heap_setCell_same _ w.heap.size 0 _ _ (.int .i64 0) ((heap_setCell_other _ _ _ _ (by show _ ≠ w1.heap.size + 1; omega)).trans ((heap_setCell_other _ _ _ _ (by show _ ≠ w1.heap.size + 1; omega)).trans ((heap_setCell_other _ _ _ _ (by show _ ≠ w1.heap.size + 1; omega)).trans ((heap_setCell_other _ _ _ _ (by show _ ≠ w1.heap.size + 1; omega)).trans HR2.out)))))))
        refine ⟨none, 0, rfl, World.ownsRow_nil _ _ _ _, ?_⟩
        repeat (first | with_reducible exact hB2 | refine Below.setCell ?_ (by simp <;> omega) _)
    · obtain rfl : k = n := by omega
      have hp := parse_ok HN.out hrun.out
      rw [HP.out] at hp
      simp only [Prod.mk.injEq] at hp
      obtain ⟨rfl, rfl, rfl⟩ := hp
      have hnum : wr.heap[w1.heap.size]? = some (.cells #[.int .u64 x0, .int .u64 x1, .int .u64 x2, .int .u64 k] 150 (0, 0)) := (hbel.block _ (by omega)).trans (heap_alloc_new _ _)
      have m0 := (cell_of_row wr w1.heap.size 0 _ _ _ hnum).trans rfl
      have m1 := (cell_of_row wr w1.heap.size 1 _ _ _ hnum).trans rfl
      have m2 := (cell_of_row wr w1.heap.size 2 _ _ _ hnum).trans rfl
      have g0 := (cell_of_row wr w.heap.size 0 _ _ _ HRR.out).trans rfl
      have g1 := (cell_of_row wr w.heap.size 1 _ _ _ HRR.out).trans rfl
      have g2 := (cell_of_row wr w.heap.size 2 _ _ _ HRR.out).trans rfl
      have g3 := (cell_of_row wr w.heap.size 3 _ _ _ HRR.out).trans rfl
      have p0 := frozen_of_row wr w.heap.size 0 _ _ HRR.out
      have p1 := frozen_of_row wr w.heap.size 1 _ _ HRR.out
      have p2 := frozen_of_row wr w.heap.size 2 _ _ HRR.out
      have p3 := frozen_of_row wr w.heap.size 3 _ _ HRR.out
      have HLEN := Lib.hid (run_len hrun.out)
      have HSZ := Lib.hid hsz
      clear hnum hsz
      go_wp2_with fail
      refine bodyPost_ret (v := .tuple #[.agg #[.int .i64 x0, .int .i64 x1, .int .i64 x2, .slice (some ⟨w1.heap.size + 1, 0, none⟩) k k], .int .i64 to, .int .i64 0]) (results_row3 (p := 4) (t1 := 5) (t2 := 6) (ty := 26) Tryz.results107 _ _ w.heap.size 26 #[.int .i64 x0, .int .i64 x1, .int .i64 x2, .slice (some ⟨w1.heap.size + 1, 0, none⟩) k k] (0, 0) _ rfl ?row2 Tryz.underlying26 rfl (by kernel_rfl)) rfl ?_
      case row2 => exact heap_setCell_same _ w.heap.size 3 _ _ (.slice (some ⟨w1.heap.size + 1, 0, none⟩) k k) (heap_setCell_same _ w.heap.size 2 _ _ (.int .i64 x2) (heap_setCell_same _ w.heap.size 1 _ _ (.int .i64 x1) (heap_setCell_same _ w.heap.size 0 _ _ (.int .i64 x0) HRR.out)))
      refine ⟨some ⟨w1.heap.size + 1, 0, none⟩, k, by rw [HLEN.out], own_row (row := row) ?_ HSZ.out htk.out HLEN.out hn (by omega), ?_⟩
      · exact ((heap_setCell_other _ _ _ _ (by show _ ≠ w.heap.size; omega)).trans ((heap_setCell_other _ _ _ _ (by show _ ≠ w.heap.size; omega)).trans ((heap_setCell_other _ _ _ _ (by show _ ≠ w.heap.size; omega)).trans ((heap_setCell_other _ _ _ _ (by show _ ≠ w.heap.size; omega)).trans hrow.out))))
      · repeat (first | with_reducible exact hB1w | refine Below.setCell ?_ (by simp <;> omega) _)

theorem parse_is (s : ByteArray) (a : Int) (b : Bt) (to x : Int) (w : World) (hs : s.size ≤ 140737488355328) (HP : Hid (parse s a = (b, to, x))) :
    Calls Tryz.prog 107 #[.string s, .int .i64 a] w (ParsePost b to x w) := by
  obtain ⟨⟨x0, x1, x2, n⟩, t0, e0, hn⟩ : ∃ n t0 e0, numP s a = (n, t0, e0) := ⟨_, _, _, rfl⟩
  by_cases he : e0 = 0
  · subst he
    obtain ⟨y0, y1, y2, n0, n1⟩ := numP_lim hn
    exact parse_run s a x0 x1 x2 n t0 b to x w hs (Lib.hid hn) y0 y1 y2 n0 n1 HP
  · obtain ⟨hz, rfl⟩ := numP_err0 hn he
    rw [hz] at hn
    have hp := parse_num hn he
    rw [HP.out] at hp
    simp only [Prod.mk.injEq] at hp
    obtain ⟨rfl, rfl, rfl⟩ := hp
    exact parse_num_err s a x w hs (Lib.hid hn) (by simpa using he)
end Go.Proofs.YtijofikpdhapoaaGreat.L3
