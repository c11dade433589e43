/-
  Contracts: a command as a statement can hold.
-/
import Derived.Test.YtijofikpdhapoaaGreatReqSame2
import Derived.Test.YtijofikpdhapoaaGreatRecBound
import Derived.Maps.Range
import Derived.Outline
import Derived.Deep.RegionLaw
import Derived.Deep.RegionHeld3
import Derived.Deep.AppendLies
namespace Go.Proofs.YtijofikpdhapoaaGreat.L4
open Go.RowKit
open L3

/-- a slice that came in, and reads as texts -/
def ReadsTO (w : World) (B : Nat) (A : Option Addr) (l : List ByteArray) : Prop :=
  0 < l.length → ∃ g o, A = some ⟨g, o, none⟩ ∧ g < B ∧ ∀ i s, l[i]? = some s → w.cell? ⟨g, o + i, none⟩ = some (.string s)
theorem ReadsT.o {w : World} {B : Nat} {A : Option Addr} {l : List ByteArray} (h : ReadsT w B A l) : ReadsTO w B A l := fun h0 => by
  obtain ⟨g, e, hg, hc⟩ := h h0
  exact ⟨g, 0, e, hg, fun i s hs => by rw [Nat.zero_add]; exact hc i s hs⟩
theorem ReadsTO.below {w w' : World} {B : Nat} {A : Option Addr} {l : List ByteArray} (h : ReadsTO w B A l) (hb : Below B w w') : ReadsTO w' B A l := fun h0 => by
  obtain ⟨g, o, e, hg, hc⟩ := h h0
  exact ⟨g, o, e, hg, fun i s hs => (hb.cell (p := ⟨g, o + i, none⟩) hg).trans (hc i s hs)⟩
theorem readsO_up {w : World} {B B' : Nat} {A : Option Addr} {l : List R} (h : ReadsO w B A l) (hB : B ≤ B') : ReadsO w B' A l := fun h0 => by
  obtain ⟨g, o, e, hg, hc⟩ := h h0
  exact ⟨g, o, e, Nat.lt_of_lt_of_le hg hB, hc⟩
def texts (l : List ByteArray) : List Value := l.map .string
theorem strInfo : (Tryz.prog.info? 9).map (fun i => (i.zero, i.size, i.bytes)) = some (some (.string ⟨#[]⟩), 1, 16) := by kernel_rfl
/-- what is told of a command that was cut -/
def CutPost (kind : Int) (t' : ByteArray) (pn n off bp be bq : Int) (L : List R) (g' m' : ByteArray) (gen : Int) (robin : Bool) (M : List ByteArray) (w : World) (x : Ending) (w' : World) : Prop :=
  ∃ RA' rc' TA' tc', x = .returned (.agg #[.int .i64 kind, .string t', .int .i64 pn, .int .i64 n, .int .i64 off, .int .i64 bp, .int .i64 be, .int .i64 bq, .slice RA' L.length rc', .string g', .string m', .int .i64 gen, .bool robin, .slice TA' M.length tc']) ∧
    w'.ownsRow w.heap.size 35 4 (.slice RA' L.length rc') L.length (rowOf L) ∧ w'.ownsRow w.heap.size 9 1 (.slice TA' M.length tc') M.length (texts M) ∧ Below w.heap.size w w'
/-- a block of fourteen cells, five of them set -/
theorem set5 {w : World} {H : Nat} {a0 a1 a2 a3 a4 a5 a6 a7 a8 a9 a10 a11 a12 a13 v5 v6 v7 v8 v13 : Value} {T : TypeId} (h : w.heap[H]? = some (.cells #[a0, a1, a2, a3, a4, a5, a6, a7, a8, a9, a10, a11, a12, a13] T (0, 0))) :
    (((((w.setCell ⟨H, 5, none⟩ v5).setCell ⟨H, 6, none⟩ v6).setCell ⟨H, 7, none⟩ v7).setCell ⟨H, 8, none⟩ v8).setCell ⟨H, 13, none⟩ v13).heap[H]? = some (.cells #[a0, a1, a2, a3, a4, v5, v6, v7, v8, a9, a10, a11, a12, v13] T (0, 0)) :=
  heap_setCell_same _ H 13 _ _ v13 (heap_setCell_same _ H 8 _ _ v8 (heap_setCell_same _ H 7 _ _ v7 (heap_setCell_same _ H 6 _ _ v6 (heap_setCell_same _ H 5 _ _ v5 h))))
theorem set5_other {w : World} {H k : Nat} {v5 v6 v7 v8 v13 : Value} (hk : k ≠ H) :
    (((((w.setCell ⟨H, 5, none⟩ v5).setCell ⟨H, 6, none⟩ v6).setCell ⟨H, 7, none⟩ v7).setCell ⟨H, 8, none⟩ v8).setCell ⟨H, 13, none⟩ v13).heap[k]? = w.heap[k]? := by
  rw [heap_setCell_other _ _ _ _ hk, heap_setCell_other _ _ _ _ hk, heap_setCell_other _ _ _ _ hk, heap_setCell_other _ _ _ _ hk, heap_setCell_other _ _ _ _ hk]
theorem set5_own {w : World} {base k G : Nat} {T : TypeId} {m : Nat} {V : Value} {xs : List Value} (h : w.ownsRow base T m V k xs) (hG : G < base) (v5 v6 v7 v8 v13 : Value) :
    (((((w.setCell ⟨G, 5, none⟩ v5).setCell ⟨G, 6, none⟩ v6).setCell ⟨G, 7, none⟩ v7).setCell ⟨G, 8, none⟩ v8).setCell ⟨G, 13, none⟩ v13).ownsRow base T m V k xs :=
  ownsRow_setCell_below (ownsRow_setCell_below (ownsRow_setCell_below (ownsRow_setCell_below (ownsRow_setCell_below h (a := ⟨G, 5, none⟩) hG v5) (a := ⟨G, 6, none⟩) hG v6) (a := ⟨G, 7, none⟩) hG v7) (a := ⟨G, 8, none⟩) hG v8) (a := ⟨G, 13, none⟩) hG v13
theorem set5_below {w w1 : World} {B H : Nat} (h : Below B w w1) (hH : B ≤ H) (v5 v6 v7 v8 v13 : Value) :
    Below B w (((((w1.setCell ⟨H, 5, none⟩ v5).setCell ⟨H, 6, none⟩ v6).setCell ⟨H, 7, none⟩ v7).setCell ⟨H, 8, none⟩ v8).setCell ⟨H, 13, none⟩ v13) :=
  ((((h.setCell (p := ⟨H, 5, none⟩) hH v5).setCell (p := ⟨H, 6, none⟩) hH v6).setCell (p := ⟨H, 7, none⟩) hH v7).setCell (p := ⟨H, 8, none⟩) hH v8).setCell (p := ⟨H, 13, none⟩) hH v13
theorem set5_size {w1 : World} {H : Nat} {v5 v6 v7 v8 v13 : Value} : (((((w1.setCell ⟨H, 5, none⟩ v5).setCell ⟨H, 6, none⟩ v6).setCell ⟨H, 7, none⟩ v7).setCell ⟨H, 8, none⟩ v8).setCell ⟨H, 13, none⟩ v13).heap.size = w1.heap.size := by simp
theorem heap_alloc3_0 (w : World) (a b c : Obj) : (((w.alloc a).alloc b).alloc c).heap[w.heap.size]? = some a := by
  have h1 := (one_box (w := (w.alloc a).alloc b) c).block w.heap.size (by simp; omega)
  exact h1.trans (heap_alloc2_old w a b)
theorem heap_alloc3_1 (w : World) (a b c : Obj) : (((w.alloc a).alloc b).alloc c).heap[w.heap.size + 1]? = some b := by
  have h1 := (one_box (w := (w.alloc a).alloc b) c).block (w.heap.size + 1) (by simp)
  exact h1.trans (heap_alloc2_new w a b)
theorem heap_alloc3_2 (w : World) (a b c : Obj) : (((w.alloc a).alloc b).alloc c).heap[w.heap.size + 1 + 1]? = some c := by
  have := heap_alloc2_new (w.alloc a) b c
  simpa using this
theorem below3 {w : World} {a b c : Obj} : Below w.heap.size w (((w.alloc a).alloc b).alloc c) := ((two_box a b).alloc (by simp; omega) c)

theorem set14 {w : World} {H : Nat} {a0 a1 a2 a3 a4 a5 a6 a7 a8 a9 a10 a11 a12 a13 v0 v1 v2 v3 v4 v5 v6 v7 v8 v9 v10 v11 v12 v13 : Value} {T : TypeId} (h : w.heap[H]? = some (.cells #[a0, a1, a2, a3, a4, a5, a6, a7, a8, a9, a10, a11, a12, a13] T (0, 0))) :
    ((((((((((((((w.setCell ⟨H, 0, none⟩ v0).setCell ⟨H, 1, none⟩ v1).setCell ⟨H, 2, none⟩ v2).setCell ⟨H, 3, none⟩ v3).setCell ⟨H, 4, none⟩ v4).setCell ⟨H, 5, none⟩ v5).setCell ⟨H, 6, none⟩ v6).setCell ⟨H, 7, none⟩ v7).setCell ⟨H, 8, none⟩ v8).setCell ⟨H, 9, none⟩ v9).setCell ⟨H, 10, none⟩ v10).setCell ⟨H, 11, none⟩ v11).setCell ⟨H, 12, none⟩ v12).setCell ⟨H, 13, none⟩ v13).heap[H]? = some (.cells #[v0, v1, v2, v3, v4, v5, v6, v7, v8, v9, v10, v11, v12, v13] T (0, 0)) := by
  refine (heap_setCell_same _ H 13 _ _ v13 (heap_setCell_same _ H 12 _ _ v12 (heap_setCell_same _ H 11 _ _ v11 (heap_setCell_same _ H 10 _ _ v10 (heap_setCell_same _ H 9 _ _ v9 (heap_setCell_same _ H 8 _ _ v8 (heap_setCell_same _ H 7 _ _ v7 (heap_setCell_same _ H 6 _ _ v6 (heap_setCell_same _ H 5 _ _ v5 (heap_setCell_same _ H 4 _ _ v4 (heap_setCell_same _ H 3 _ _ v3 (heap_setCell_same _ H 2 _ _ v2 (heap_setCell_same _ H 1 _ _ v1 (heap_setCell_same _ H 0 _ _ v0 (h))))))))))))))).trans ?_
  simp only [List.setIfInBounds_toArray, List.set_cons_zero, List.set_cons_succ]
theorem set14_own {w : World} {base k G : Nat} {T : TypeId} {m : Nat} {V : Value} {xs : List Value} (h : w.ownsRow base T m V k xs) (hG : G < base) (v0 v1 v2 v3 v4 v5 v6 v7 v8 v9 v10 v11 v12 v13 : Value) :
    ((((((((((((((w.setCell ⟨G, 0, none⟩ v0).setCell ⟨G, 1, none⟩ v1).setCell ⟨G, 2, none⟩ v2).setCell ⟨G, 3, none⟩ v3).setCell ⟨G, 4, none⟩ v4).setCell ⟨G, 5, none⟩ v5).setCell ⟨G, 6, none⟩ v6).setCell ⟨G, 7, none⟩ v7).setCell ⟨G, 8, none⟩ v8).setCell ⟨G, 9, none⟩ v9).setCell ⟨G, 10, none⟩ v10).setCell ⟨G, 11, none⟩ v11).setCell ⟨G, 12, none⟩ v12).setCell ⟨G, 13, none⟩ v13).ownsRow base T m V k xs :=
  ownsRow_setCell_below (ownsRow_setCell_below (ownsRow_setCell_below (ownsRow_setCell_below (ownsRow_setCell_below (ownsRow_setCell_below (ownsRow_setCell_below (ownsRow_setCell_below (ownsRow_setCell_below (ownsRow_setCell_below (ownsRow_setCell_below (ownsRow_setCell_below (ownsRow_setCell_below (ownsRow_setCell_below (h) (a := ⟨G, 0, none⟩) hG v0) (a := ⟨G, 1, none⟩) hG v1) (a := ⟨G, 2, none⟩) hG v2) (a := ⟨G, 3, none⟩) hG v3) (a := ⟨G, 4, none⟩) hG v4) (a := ⟨G, 5, none⟩) hG v5) (a := ⟨G, 6, none⟩) hG v6) (a := ⟨G, 7, none⟩) hG v7) (a := ⟨G, 8, none⟩) hG v8) (a := ⟨G, 9, none⟩) hG v9) (a := ⟨G, 10, none⟩) hG v10) (a := ⟨G, 11, none⟩) hG v11) (a := ⟨G, 12, none⟩) hG v12) (a := ⟨G, 13, none⟩) hG v13

theorem set14_below {w w1 : World} {B H : Nat} (h : Below B w w1) (hH : B ≤ H) (v0 v1 v2 v3 v4 v5 v6 v7 v8 v9 v10 v11 v12 v13 : Value) :
    Below B w ((((((((((((((w1.setCell ⟨H, 0, none⟩ v0).setCell ⟨H, 1, none⟩ v1).setCell ⟨H, 2, none⟩ v2).setCell ⟨H, 3, none⟩ v3).setCell ⟨H, 4, none⟩ v4).setCell ⟨H, 5, none⟩ v5).setCell ⟨H, 6, none⟩ v6).setCell ⟨H, 7, none⟩ v7).setCell ⟨H, 8, none⟩ v8).setCell ⟨H, 9, none⟩ v9).setCell ⟨H, 10, none⟩ v10).setCell ⟨H, 11, none⟩ v11).setCell ⟨H, 12, none⟩ v12).setCell ⟨H, 13, none⟩ v13) :=
  ((((((((((((((h).setCell (p := ⟨H, 0, none⟩) hH v0).setCell (p := ⟨H, 1, none⟩) hH v1).setCell (p := ⟨H, 2, none⟩) hH v2).setCell (p := ⟨H, 3, none⟩) hH v3).setCell (p := ⟨H, 4, none⟩) hH v4).setCell (p := ⟨H, 5, none⟩) hH v5).setCell (p := ⟨H, 6, none⟩) hH v6).setCell (p := ⟨H, 7, none⟩) hH v7).setCell (p := ⟨H, 8, none⟩) hH v8).setCell (p := ⟨H, 9, none⟩) hH v9).setCell (p := ⟨H, 10, none⟩) hH v10).setCell (p := ⟨H, 11, none⟩) hH v11).setCell (p := ⟨H, 12, none⟩) hH v12).setCell (p := ⟨H, 13, none⟩) hH v13

theorem cut_len {l M : List ByteArray} {k : Nat} (hk : k ≤ l.length) (hk12 : k ≤ 12) (h : ¬ (k < l.length ∧ k < 12)) (hM : (l.take 12).map (fun s => cutS s 40) = M) : (l.take k).map (fun s => cutS s 40) = M ∧ M.length = k := by
  rw [← hM]
  rcases Nat.lt_or_ge k l.length with h1 | h1
  · have : k = 12 := by omega
    subst this
    exact ⟨rfl, by rw [List.length_map, List.length_take]; omega⟩
  · have : k = l.length := by omega
    subst this
    rw [List.take_length, List.take_of_length_le (by omega : l.length ≤ 12)]
    exact ⟨rfl, by simp⟩
theorem hgr_below {W1 wr : World} {H B : Nat} (h : W1.grownBy wr (some H)) (hB : B ≤ H) (hz : B ≤ W1.heap.size) : Below B W1 wr :=
  ⟨h.os, h.tape, h.output, h.size, fun k hk => h.block k (Nat.lt_of_lt_of_le hk hz) (by simp; omega)⟩
theorem cut_row {W1 wr w2 : World} {H k : Nat} {V : Value} {o : Obj} {xs : List Value} {row : Obj} (h : W1.grownBy wr (some H)) (hH : H < W1.heap.size) (ho : wr.ownsRow W1.heap.size 9 1 V k xs) (hg : (wr.drew.alloc o).grownBy w2 V.ownBlock) (hr : wr.heap[H]? = some row) : w2.heap[H]? = some row := by
  refine ((hg.block H (by have := h.size; simp; omega) (fun e => by have := (ho.lt H e.symm).1; omega)).trans ((one_box (w := wr.drew) o).block H (by have := h.size; show H < wr.drew.heap.size; exact Nat.lt_of_lt_of_le hH this))).trans hr
theorem cut_next {W1 wr w2 : World} {H k gg cc : Nat} {V v : Value} {o : Obj} {l : List ByteArray} {st s' : ByteArray} (h : W1.grownBy wr (some H)) (hH : H < W1.heap.size) (ho : wr.ownsRow W1.heap.size 9 1 V k (texts ((l.take k).map (fun s => cutS s 40)))) (hg : (wr.drew.alloc o).grownBy w2 V.ownBlock)
    (h2 : w2.ownsRow W1.heap.size 9 1 (.slice (some ⟨gg, 0, none⟩) (k + 1) cc) (k + 1) (texts ((l.take k).map (fun s => cutS s 40)) ++ [.string s'])) (hs : l[k]? = some st) (hs' : cutS st 40 = s') :
    W1.grownBy (w2.setCell ⟨H, 13, none⟩ v) (some H) ∧ (w2.setCell ⟨H, 13, none⟩ v).ownsRow W1.heap.size 9 1 (.slice (some ⟨gg, 0, none⟩) (k + 1) cc) (k + 1) (texts ((l.take (k + 1)).map (fun s => cutS s 40))) := by
  have hsz := h.size
  constructor
  · refine ⟨hg.os.trans h.os, hg.tape.trans h.tape, hg.output.trans h.output, ?_, fun j hj hne => ?_⟩
    · have := hg.size
      simp at this ⊢
      omega
    · rw [heap_setCell_other _ _ _ _ (by show j ≠ H; simpa using hne)]
      refine (hg.block j (by simp; omega) (fun e => by have := (ho.lt j e.symm).1; omega)).trans (((one_box (w := wr.drew) o).block j (by show j < wr.heap.size; omega)).trans (h.block j hj hne))
  · have e : texts ((l.take (k + 1)).map (fun s => cutS s 40)) = texts ((l.take k).map (fun s => cutS s 40)) ++ [.string s'] := by
      rw [List.take_add_one, hs, ← hs']
      simp [texts]
    rw [e]
    exact ownsRow_setCell_below h2 hH v

end Go.Proofs.YtijofikpdhapoaaGreat.L4
