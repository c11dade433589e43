/-
  Contracts: a batch of so many records.
-/
import Derived.Test.YtcmlopflandlgaaDdCopy
import Derived.OwnWalk
import Derived.Deep.AppendLies
import Derived.Deep.RegionHeld3
import Derived.Deep.RegionLaw
namespace Go.Proofs.Ytcmlopflandlgaa.L8
open Go.RowKit
open Go.Maps
open L3 L4

theorem recInfo8 : (Try.prog.info? 67).map (fun i => (i.zero, i.size, i.bytes)) = some (some (.agg #[.bool false, .string ⟨#[]⟩, .bool false, .string ⟨#[]⟩]), 4, 48) := by kernel_rfl
/-- the batch while it is filled -/
structure Filling (w : World) (id ep sq : Int) (k : Nat) (R : Option Addr) (c : Nat) (wr : World) : Prop where
  box : wr.heap[w.heap.size + 1]? = some (.cells #[.int .i64 id, .int .i64 ep, .int .i64 sq, .slice R k c] 34 (0, 0))
  res : wr.heap[w.heap.size]? = some (.cells #[.int .i64 0, .int .i64 0, .int .i64 0, .slice none 0 0] 34 (0, 0))
  own : ∃ xs, wr.ownsRow (w.heap.size + 1 + 1) 67 4 (.slice R k c) k xs
  bel : Below w.heap.size w wr
theorem Filling.next {w wr w2 : World} {id ep sq : Int} {k c c' : Nat} {R R' : Option Addr} {xs : List Value} {V : Value} {o : Obj} (h : Filling w id ep sq k R c wr) (hg : (wr.alloc o).grownBy w2 V.ownBlock) (hV : V = .slice R k c)
    (hown : w2.ownsRow (w.heap.size + 1 + 1) 67 4 (.slice R' (k + 1) c') (k + 1) xs) : Filling w id ep sq (k + 1) R' c' (w2.setCell ⟨w.heap.size + 1, 3, none⟩ (.slice R' (k + 1) c')) := by
  subst hV
  obtain ⟨xs0, ho⟩ := h.own
  have hz : w.heap.size + 1 < wr.heap.size := (Array.getElem?_eq_some_iff.1 h.box).1
  have far : ∀ k', k' ≤ w.heap.size + 1 → w2.heap[k']? = wr.heap[k']? := fun k' hk => (hg.block k' (by simp; omega) (fun e => by have := (ho.lt k' e.symm).1; omega)).trans (Below.heap_alloc _ _ _ (by omega))
  refine ⟨heap_setCell_same _ _ 3 _ _ _ ((far _ (Nat.le_refl _)).trans h.box), (Below.heap_setCell _ _ _ _ (by simp)).trans ((far _ (by omega)).trans h.res), ⟨xs, ownsRow_setCell_below hown (by show w.heap.size + 1 < _; omega) _⟩, ?_⟩
  exact ((h.bel.alloc h.bel.size o).grown hg (by simp; have := h.bel.size; omega) (fun j e => by have := (ho.lt j e).1; omega)).setCell (by show _ ≤ w.heap.size + 1; omega) _

set_option maxRecDepth 100000 in
set_option maxHeartbeats 4000000 in
theorem of_is (id ep sq : Int) (n : Nat) (w : World) (hn : n ≤ 1000) :
    Calls Try.prog 21 #[.int .i64 id, .int .i64 ep, .int .i64 sq, .int .i64 n] w fun e w' => ∃ R rc, e = .returned (.agg #[.int .i64 id, .int .i64 ep, .int .i64 sq, .slice R n rc]) ∧ Below w.heap.size w w' := by
  obtain ⟨i0, hi0, hz0, hz1, hz2⟩ := info_parts recInfo8
  go_enter Try.func21, Try.ntmps21
  go_wp2_with fail
  go_loopw [10] (fun i wr => ∃ (k : Nat) (R : Option Addr) (c : Nat), k ≤ n ∧ i = .int .i64 k ∧ Hid (Filling w id ep sq k R c wr)) (fun i _ => n - (intOf i).toNat)
  case atStart => exact ⟨0, none, 0, by omega, rfl, Lib.hid ⟨by simpa using heap_alloc_new (w.alloc _) _, (Below.heap_alloc _ _ _ (by simp)).trans (heap_alloc_new w _), ⟨_, World.ownsRow_nil _ _ _ _⟩, two_box _ _⟩⟩
  case round =>
    obtain ⟨k, R, c, hk, rfl, H⟩ := hrel
    by_cases hlt : k < n
    · have b3 : wr.cell? ⟨w.heap.size + 1, 3, none⟩ = some (.slice R k c) := (cell_of_row _ _ 3 _ _ _ H.out.box).trans rfl
      have f3 : wr.frozen? ⟨w.heap.size + 1, 3, none⟩ = false := frozen_of_row _ _ _ _ _ H.out.box
      obtain ⟨xs, ho⟩ := H.out.own
      have HO := Lib.hid ho
      have hz : w.heap.size + 1 < wr.heap.size := (Array.getElem?_eq_some_iff.1 H.out.box).1
      have HL := Lib.hid ho.lt
      have HB := Lib.hid H.out.bel.size
      clear ho
      have k0 : (0 : Int) ≤ (k : Int) := by omega
      have k1 : (k : Int) < (n : Int) := by omega
      go_wp2_with (at_builtin; refine wpList_append_own _ rfl _ _ 32 rfl (w.heap.size + 1 + 1) 67 i0 _ 4 48 Try.underlying32 hi0 hz0 hz1 hz2 rfl (by decide) (.slice R k c) k xs (by rfl) (HO.out.alloc _) ⟨wr.heap.size, 0, none⟩ 1 1 [.bool false, .string ⟨#[]⟩, .bool false, .string ⟨#[]⟩] (by rfl) (by rfl) (World.news_of_block (cs := #[.bool false, .string ⟨#[]⟩, .bool false, .string ⟨#[]⟩]) (t := 67) (fr := (0, 0)) (heap_alloc_new wr _)) (by simp [Value.oneCell']) (by unfold maxLen; omega) (by omega) (by simp; omega) ?_; intro v' w2 hown2 hgrow2 _; obtain ⟨R', c', rfl⟩ := own_len hown2; have hx3 : w2.cell? ⟨w.heap.size + 1, 3, none⟩ = some (.slice R k c) := (hgrow2.cell_far ⟨w.heap.size + 1, 3, none⟩ (by simp; omega) (fun e => Nat.lt_irrefl (w.heap.size + 1) (HL.out _ e.symm).1)).trans ((World.cell?_alloc_lt _ _ _ hz).trans b3); have hy3 : w2.frozen? ⟨w.heap.size + 1, 3, none⟩ = false := (hgrow2.frozen_far ⟨w.heap.size + 1, 3, none⟩ (by simp; omega) (fun e => Nat.lt_irrefl (w.heap.size + 1) (HL.out _ e.symm).1)).trans ((((Below.refl (w.heap.size + 1 + 1) wr).alloc hz _).frozen (p := ⟨w.heap.size + 1, 3, none⟩) (by show w.heap.size + 1 < _; omega)).trans f3))
      go_roundw
      case rel => exact ⟨k + 1, R', c', by omega, by go_num, Lib.hid (H.out.next hgrow2 rfl hown2)⟩
      case measure => simp [intOf]; omega
    · obtain rfl : k = n := by omega
      have hbox := H.out.box
      have rr := H.out.res
      have m0 : wr.cell? ⟨w.heap.size + 1, 0, none⟩ = some (.int .i64 id) := (cell_of_row _ _ _ _ _ _ hbox).trans rfl
      have m1 : wr.cell? ⟨w.heap.size + 1, 1, none⟩ = some (.int .i64 ep) := (cell_of_row _ _ _ _ _ _ hbox).trans rfl
      have m2 : wr.cell? ⟨w.heap.size + 1, 2, none⟩ = some (.int .i64 sq) := (cell_of_row _ _ _ _ _ _ hbox).trans rfl
      have m3 : wr.cell? ⟨w.heap.size + 1, 3, none⟩ = some (.slice R k c) := (cell_of_row _ _ _ _ _ _ hbox).trans rfl
      have r0 : wr.cell? ⟨w.heap.size, 0, none⟩ = some (.int .i64 0) := (cell_of_row _ _ _ _ _ _ rr).trans rfl
      have r1 : wr.cell? ⟨w.heap.size, 1, none⟩ = some (.int .i64 0) := (cell_of_row _ _ _ _ _ _ rr).trans rfl
      have r2 : wr.cell? ⟨w.heap.size, 2, none⟩ = some (.int .i64 0) := (cell_of_row _ _ _ _ _ _ rr).trans rfl
      have r3 : wr.cell? ⟨w.heap.size, 3, none⟩ = some (.slice none 0 0) := (cell_of_row _ _ _ _ _ _ rr).trans rfl
      have q0 : wr.frozen? ⟨w.heap.size, 0, none⟩ = false := frozen_of_row _ _ _ _ _ rr
      have q1 : wr.frozen? ⟨w.heap.size, 1, none⟩ = false := frozen_of_row _ _ _ _ _ rr
      have q2 : wr.frozen? ⟨w.heap.size, 2, none⟩ = false := frozen_of_row _ _ _ _ _ rr
      have q3 : wr.frozen? ⟨w.heap.size, 3, none⟩ = false := frozen_of_row _ _ _ _ _ rr
      have HRR := Lib.hid rr
      clear rr hbox
      go_wp2_with fail
      refine bodyPost_ret (v := .agg #[.int .i64 id, .int .i64 ep, .int .i64 sq, .slice R k c]) (results_cell_row (p := 8) (ty := 34) Try.results21 _ _ (w.heap.size) 34 #[.int .i64 id, .int .i64 ep, .int .i64 sq, .slice R k c] (0, 0) _ rfl ?row1 Try.underlying34 rfl (by kernel_rfl)) rfl ?_
      case row1 => exact heap_setCell_same _ (w.heap.size) 3 _ _ (.slice R k c) (heap_setCell_same _ (w.heap.size) 2 _ _ (.int .i64 sq) (heap_setCell_same _ (w.heap.size) 1 _ _ (.int .i64 ep) (heap_setCell_same _ (w.heap.size) 0 _ _ (.int .i64 id) HRR.out)))
      exact ⟨R, c, rfl, (((H.out.bel.setCell (p := ⟨w.heap.size, 0, none⟩) (Nat.le_refl _) _).setCell (p := ⟨w.heap.size, 1, none⟩) (Nat.le_refl _) _).setCell (p := ⟨w.heap.size, 2, none⟩) (Nat.le_refl _) _).setCell (p := ⟨w.heap.size, 3, none⟩) (Nat.le_refl _) _⟩
end Go.Proofs.Ytcmlopflandlgaa.L8
