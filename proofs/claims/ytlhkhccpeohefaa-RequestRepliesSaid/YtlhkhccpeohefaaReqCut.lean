/-
  Contracts: a command as a statement can hold.
-/
import Derived.Test.YtlhkhccpeohefaaReqSame2
import Derived.Test.YtlhkhccpeohefaaRecBound
import Derived.Maps.Range
import Derived.Outline
import Derived.Deep.RegionLaw
import Derived.Deep.RegionHeld3
import Derived.Deep.AppendLies
namespace Go.Proofs.Ytlhkhccpeohefaa.L4
open Go.RowKit
open L3

/-- a slice that came in, and reads as texts -/
def ReadsTO (w : World) (B : Nat) (A : Option Addr) (l : List ByteArray) : Prop :=
  0 < l.length → ∃ g o, A = some ⟨g, o, none⟩ ∧ g < B ∧ ∀ i s, l[i]? = some s → w.cell? ⟨g, o + i, none⟩ = some (.string s)
theorem ReadsT.o {w : World} {B : Nat} {A : Option Addr} {l : List ByteArray} (h : ReadsT w B A l) : ReadsTO w B A l := fun h0 => by
  obtain ⟨g, e, hg, hc⟩ := h h0
  exact ⟨g, 0, e, hg, fun i s hs => by rw [Nat.zero_add]; exact hc i s hs⟩
theorem ReadsTO.below {w w' : World} {B : Nat} {A : Option Addr} {l : List ByteArray} (h : ReadsTO w B A l) (hb : Below B w w') : ReadsTO w' B A l := fun h0 => by
  obtain ⟨g, o, e, hg, hc⟩ := h h0
  exact ⟨g, o, e, hg, fun i s hs => (hb.cell (p := ⟨g, o + i, none⟩) hg).trans (hc i s hs)⟩
theorem readsO_up {w : World} {B B' : Nat} {A : Option Addr} {l : List R} (h : ReadsO w B A l) (hB : B ≤ B') : ReadsO w B' A l := fun h0 => by
  obtain ⟨g, o, e, hg, hc⟩ := h h0
  exact ⟨g, o, e, Nat.lt_of_lt_of_le hg hB, hc⟩
def texts (l : List ByteArray) : List Value := l.map .string
theorem strInfo : (Try.prog.info? 9).map (fun i => (i.zero, i.size, i.bytes)) = some (some (.string ⟨#[]⟩), 1, 16) := by kernel_rfl
/-- what is told of a command that was cut -/
def CutPost (kind : Int) (t' : ByteArray) (pn n off bp be bq : Int) (L : List R) (g' m' : ByteArray) (gen : Int) (robin : Bool) (M : List ByteArray) (w : World) (x : Ending) (w' : World) : Prop :=
  ∃ RA' rc' TA' tc', x = .returned (.agg #[.int .i64 kind, .string t', .int .i64 pn, .int .i64 n, .int .i64 off, .int .i64 bp, .int .i64 be, .int .i64 bq, .slice RA' L.length rc', .string g', .string m', .int .i64 gen, .bool robin, .slice TA' M.length tc']) ∧
    w'.ownsRow w.heap.size 76 4 (.slice RA' L.length rc') L.length (rowOf L) ∧ w'.ownsRow w.heap.size 9 1 (.slice TA' M.length tc') M.length (texts M) ∧ Below w.heap.size w w'
/-- a block of fourteen cells, five of them set -/
theorem set5 {w : World} {H : Nat} {a0 a1 a2 a3 a4 a5 a6 a7 a8 a9 a10 a11 a12 a13 v5 v6 v7 v8 v13 : Value} {T : TypeId} (h : w.heap[H]? = some (.cells #[a0, a1, a2, a3, a4, a5, a6, a7, a8, a9, a10, a11, a12, a13] T (0, 0))) :
    (((((w.setCell ⟨H, 5, none⟩ v5).setCell ⟨H, 6, none⟩ v6).setCell ⟨H, 7, none⟩ v7).setCell ⟨H, 8, none⟩ v8).setCell ⟨H, 13, none⟩ v13).heap[H]? = some (.cells #[a0, a1, a2, a3, a4, v5, v6, v7, v8, a9, a10, a11, a12, v13] T (0, 0)) :=
  heap_setCell_same _ H 13 _ _ v13 (heap_setCell_same _ H 8 _ _ v8 (heap_setCell_same _ H 7 _ _ v7 (heap_setCell_same _ H 6 _ _ v6 (heap_setCell_same _ H 5 _ _ v5 h))))
theorem set5_other {w : World} {H k : Nat} {v5 v6 v7 v8 v13 : Value} (hk : k ≠ H) :
    (((((w.setCell ⟨H, 5, none⟩ v5).setCell ⟨H, 6, none⟩ v6).setCell ⟨H, 7, none⟩ v7).setCell ⟨H, 8, none⟩ v8).setCell ⟨H, 13, none⟩ v13).heap[k]? = w.heap[k]? := by
  rw [heap_setCell_other _ _ _ _ hk, heap_setCell_other _ _ _ _ hk, heap_setCell_other _ _ _ _ hk, heap_setCell_other _ _ _ _ hk, heap_setCell_other _ _ _ _ hk]
theorem set5_own {w : World} {base k G : Nat} {T : TypeId} {m : Nat} {V : Value} {xs : List Value} (h : w.ownsRow base T m V k xs) (hG : G < base) (v5 v6 v7 v8 v13 : Value) :
    (((((w.setCell ⟨G, 5, none⟩ v5).setCell ⟨G, 6, none⟩ v6).setCell ⟨G, 7, none⟩ v7).setCell ⟨G, 8, none⟩ v8).setCell ⟨G, 13, none⟩ v13).ownsRow base T m V k xs :=
  ownsRow_setCell_below (ownsRow_setCell_below (ownsRow_setCell_below (ownsRow_setCell_below (ownsRow_setCell_below h (a := ⟨G, 5, none⟩) hG v5) (a := ⟨G, 6, none⟩) hG v6) (a := ⟨G, 7, none⟩) hG v7) (a := ⟨G, 8, none⟩) hG v8) (a := ⟨G, 13, none⟩) hG v13
theorem set5_below {w w1 : World} {B H : Nat} (h : Below B w w1) (hH : B ≤ H) (v5 v6 v7 v8 v13 : Value) :
    Below B w (((((w1.setCell ⟨H, 5, none⟩ v5).setCell ⟨H, 6, none⟩ v6).setCell ⟨H, 7, none⟩ v7).setCell ⟨H, 8, none⟩ v8).setCell ⟨H, 13, none⟩ v13) :=
  ((((h.setCell (p := ⟨H, 5, none⟩) hH v5).setCell (p := ⟨H, 6, none⟩) hH v6).setCell (p := ⟨H, 7, none⟩) hH v7).setCell (p := ⟨H, 8, none⟩) hH v8).setCell (p := ⟨H, 13, none⟩) hH v13
theorem set5_size {w1 : World} {H : Nat} {v5 v6 v7 v8 v13 : Value} : (((((w1.setCell ⟨H, 5, none⟩ v5).setCell ⟨H, 6, none⟩ v6).setCell ⟨H, 7, none⟩ v7).setCell ⟨H, 8, none⟩ v8).setCell ⟨H, 13, none⟩ v13).heap.size = w1.heap.size := by simp
theorem heap_alloc3_0 (w : World) (a b c : Obj) : (((w.alloc a).alloc b).alloc c).heap[w.heap.size]? = some a := by
  have h1 := (one_box (w := (w.alloc a).alloc b) c).block w.heap.size (by simp; omega)
  exact h1.trans (heap_alloc2_old w a b)
theorem heap_alloc3_1 (w : World) (a b c : Obj) : (((w.alloc a).alloc b).alloc c).heap[w.heap.size + 1]? = some b := by
  have h1 := (one_box (w := (w.alloc a).alloc b) c).block (w.heap.size + 1) (by simp)
  exact h1.trans (heap_alloc2_new w a b)
theorem heap_alloc3_2 (w : World) (a b c : Obj) : (((w.alloc a).alloc b).alloc c).heap[w.heap.size + 1 + 1]? = some c := by
  have := heap_alloc2_new (w.alloc a) b c
  simpa using this
theorem below3 {w : World} {a b c : Obj} : Below w.heap.size w (((w.alloc a).alloc b).alloc c) := ((two_box a b).alloc (by simp; omega) c)

theorem set14 {w : World} {H : Nat} {a0 a1 a2 a3 a4 a5 a6 a7 a8 a9 a10 a11 a12 a13 v0 v1 v2 v3 v4 v5 v6 v7 v8 v9 v10 v11 v12 v13 : Value} {T : TypeId} (h : w.heap[H]? = some (.cells #[a0, a1, a2, a3, a4, a5, a6, a7, a8, a9, a10, a11, a12, a13] T (0, 0))) :
    ((((((((((((((w.setCell ⟨H, 0, none⟩ v0).setCell ⟨H, 1, none⟩ v1).setCell ⟨H, 2, none⟩ v2).setCell ⟨H, 3, none⟩ v3).setCell ⟨H, 4, none⟩ v4).setCell ⟨H, 5, none⟩ v5).setCell ⟨H, 6, none⟩ v6).setCell ⟨H, 7, none⟩ v7).setCell ⟨H, 8, none⟩ v8).setCell ⟨H, 9, none⟩ v9).setCell ⟨H, 10, none⟩ v10).setCell ⟨H, 11, none⟩ v11).setCell ⟨H, 12, none⟩ v12).setCell ⟨H, 13, none⟩ v13).heap[H]? = some (.cells #[v0, v1, v2, v3, v4, v5, v6, v7, v8, v9, v10, v11, v12, v13] T (0, 0)) := by
  refine (heap_setCell_same _ H 13 _ _ v13 (heap_setCell_same _ H 12 _ _ v12 (heap_setCell_same _ H 11 _ _ v11 (heap_setCell_same _ H 10 _ _ v10 (heap_setCell_same _ H 9 _ _ v9 (heap_setCell_same _ H 8 _ _ v8 (heap_setCell_same _ H 7 _ _ v7 (heap_setCell_same _ H 6 _ _ v6 (heap_setCell_same _ H 5 _ _ v5 (heap_setCell_same _ H 4 _ _ v4 (heap_setCell_same _ H 3 _ _ v3 (heap_setCell_same _ H 2 _ _ v2 (heap_setCell_same _ H 1 _ _ v1 (heap_setCell_same _ H 0 _ _ v0 (h))))))))))))))).trans ?_
  simp only [List.setIfInBounds_toArray, List.set_cons_zero, List.set_cons_succ]
theorem set14_own {w : World} {base k G : Nat} {T : TypeId} {m : Nat} {V : Value} {xs : List Value} (h : w.ownsRow base T m V k xs) (hG : G < base) (v0 v1 v2 v3 v4 v5 v6 v7 v8 v9 v10 v11 v12 v13 : Value) :
    ((((((((((((((w.setCell ⟨G, 0, none⟩ v0).setCell ⟨G, 1, none⟩ v1).setCell ⟨G, 2, none⟩ v2).setCell ⟨G, 3, none⟩ v3).setCell ⟨G, 4, none⟩ v4).setCell ⟨G, 5, none⟩ v5).setCell ⟨G, 6, none⟩ v6).setCell ⟨G, 7, none⟩ v7).setCell ⟨G, 8, none⟩ v8).setCell ⟨G, 9, none⟩ v9).setCell ⟨G, 10, none⟩ v10).setCell ⟨G, 11, none⟩ v11).setCell ⟨G, 12, none⟩ v12).setCell ⟨G, 13, none⟩ v13).ownsRow base T m V k xs :=
  ownsRow_setCell_below (ownsRow_setCell_below (ownsRow_setCell_below (ownsRow_setCell_below (ownsRow_setCell_below (ownsRow_setCell_below (ownsRow_setCell_below (ownsRow_setCell_below (ownsRow_setCell_below (ownsRow_setCell_below (ownsRow_setCell_below (ownsRow_setCell_below (ownsRow_setCell_below (ownsRow_setCell_below (h) (a := ⟨G, 0, none⟩) hG v0) (a := ⟨G, 1, none⟩) hG v1) (a := ⟨G, 2, none⟩) hG v2) (a := ⟨G, 3, none⟩) hG v3) (a := ⟨G, 4, none⟩) hG v4) (a := ⟨G, 5, none⟩) hG v5) (a := ⟨G, 6, none⟩) hG v6) (a := ⟨G, 7, none⟩) hG v7) (a := ⟨G, 8, none⟩) hG v8) (a := ⟨G, 9, none⟩) hG v9) (a := ⟨G, 10, none⟩) hG v10) (a := ⟨G, 11, none⟩) hG v11) (a := ⟨G, 12, none⟩) hG v12) (a := ⟨G, 13, none⟩) hG v13

theorem set14_below {w w1 : World} {B H : Nat} (h : Below B w w1) (hH : B ≤ H) (v0 v1 v2 v3 v4 v5 v6 v7 v8 v9 v10 v11 v12 v13 : Value) :
    Below B w ((((((((((((((w1.setCell ⟨H, 0, none⟩ v0).setCell ⟨H, 1, none⟩ v1).setCell ⟨H, 2, none⟩ v2).setCell ⟨H, 3, none⟩ v3).setCell ⟨H, 4, none⟩ v4).setCell ⟨H, 5, none⟩ v5).setCell ⟨H, 6, none⟩ v6).setCell ⟨H, 7, none⟩ v7).setCell ⟨H, 8, none⟩ v8).setCell ⟨H, 9, none⟩ v9).setCell ⟨H, 10, none⟩ v10).setCell ⟨H, 11, none⟩ v11).setCell ⟨H, 12, none⟩ v12).setCell ⟨H, 13, none⟩ v13) :=
  ((((((((((((((h).setCell (p := ⟨H, 0, none⟩) hH v0).setCell (p := ⟨H, 1, none⟩) hH v1).setCell (p := ⟨H, 2, none⟩) hH v2).setCell (p := ⟨H, 3, none⟩) hH v3).setCell (p := ⟨H, 4, none⟩) hH v4).setCell (p := ⟨H, 5, none⟩) hH v5).setCell (p := ⟨H, 6, none⟩) hH v6).setCell (p := ⟨H, 7, none⟩) hH v7).setCell (p := ⟨H, 8, none⟩) hH v8).setCell (p := ⟨H, 9, none⟩) hH v9).setCell (p := ⟨H, 10, none⟩) hH v10).setCell (p := ⟨H, 11, none⟩) hH v11).setCell (p := ⟨H, 12, none⟩) hH v12).setCell (p := ⟨H, 13, none⟩) hH v13

theorem cut_len {l M : List ByteArray} {k : Nat} (hk : k ≤ l.length) (hk12 : k ≤ 12) (h : ¬ (k < l.length ∧ k < 12)) (hM : (l.take 12).map (fun s => cutS s 40) = M) : (l.take k).map (fun s => cutS s 40) = M ∧ M.length = k := by
  rw [← hM]
  rcases Nat.lt_or_ge k l.length with h1 | h1
  · have : k = 12 := by omega
    subst this
    exact ⟨rfl, by rw [List.length_map, List.length_take]; omega⟩
  · have : k = l.length := by omega
    subst this
    rw [List.take_length, List.take_of_length_le (by omega : l.length ≤ 12)]
    exact ⟨rfl, by simp⟩
theorem hgr_below {W1 wr : World} {H B : Nat} (h : W1.grownBy wr (some H)) (hB : B ≤ H) (hz : B ≤ W1.heap.size) : Below B W1 wr :=
  ⟨h.os, h.tape, h.output, h.size, fun k hk => h.block k (Nat.lt_of_lt_of_le hk hz) (by simp; omega)⟩
theorem cut_row {W1 wr w2 : World} {H k : Nat} {V : Value} {o : Obj} {xs : List Value} {row : Obj} (h : W1.grownBy wr (some H)) (hH : H < W1.heap.size) (ho : wr.ownsRow W1.heap.size 9 1 V k xs) (hg : (wr.drew.alloc o).grownBy w2 V.ownBlock) (hr : wr.heap[H]? = some row) : w2.heap[H]? = some row := by
  refine ((hg.block H (by have := h.size; simp; omega) (fun e => by have := (ho.lt H e.symm).1; omega)).trans ((one_box (w := wr.drew) o).block H (by have := h.size; show H < wr.drew.heap.size; exact Nat.lt_of_lt_of_le hH this))).trans hr
theorem cut_next {W1 wr w2 : World} {H k gg cc : Nat} {V v : Value} {o : Obj} {l : List ByteArray} {st s' : ByteArray} (h : W1.grownBy wr (some H)) (hH : H < W1.heap.size) (ho : wr.ownsRow W1.heap.size 9 1 V k (texts ((l.take k).map (fun s => cutS s 40)))) (hg : (wr.drew.alloc o).grownBy w2 V.ownBlock)
    (h2 : w2.ownsRow W1.heap.size 9 1 (.slice (some ⟨gg, 0, none⟩) (k + 1) cc) (k + 1) (texts ((l.take k).map (fun s => cutS s 40)) ++ [.string s'])) (hs : l[k]? = some st) (hs' : cutS st 40 = s') :
    W1.grownBy (w2.setCell ⟨H, 13, none⟩ v) (some H) ∧ (w2.setCell ⟨H, 13, none⟩ v).ownsRow W1.heap.size 9 1 (.slice (some ⟨gg, 0, none⟩) (k + 1) cc) (k + 1) (texts ((l.take (k + 1)).map (fun s => cutS s 40))) := by
  have hsz := h.size
  constructor
  · refine ⟨hg.os.trans h.os, hg.tape.trans h.tape, hg.output.trans h.output, ?_, fun j hj hne => ?_⟩
    · have := hg.size
      simp at this ⊢
      omega
    · rw [heap_setCell_other _ _ _ _ (by show j ≠ H; simpa using hne)]
      refine (hg.block j (by simp; omega) (fun e => by have := (ho.lt j e.symm).1; omega)).trans (((one_box (w := wr.drew) o).block j (by show j < wr.heap.size; omega)).trans (h.block j hj hne))
  · have e : texts ((l.take (k + 1)).map (fun s => cutS s 40)) = texts ((l.take k).map (fun s => cutS s 40)) ++ [.string s'] := by
      rw [List.take_add_one, hs, ← hs']
      simp [texts]
    rw [e]
    exact ownsRow_setCell_below h2 hH v

set_option maxRecDepth 100000 in
set_option maxHeartbeats 16000000 in
theorem cutop_is (kind : Int) (topic : ByteArray) (pn : Int) (n : Int) (off : Int) (bp : Int) (be : Int) (bq : Int) (recs : List R) (group : ByteArray) (member : ByteArray) (gen : Int) (robin : Bool) (tops : List ByteArray) (RA TA : Option Addr) (rc tc : Nat) (t' g' m' : ByteArray) (L : List R) (M : List ByteArray)
    (B : Nat) (w : World) (hR : Hid (ReadsO w B RA recs)) (hT : Hid (ReadsTO w B TA tops)) (hB : B ≤ w.heap.size) (h1 : topic.size ≤ maxLen) (h2 : group.size ≤ maxLen) (h3 : member.size ≤ maxLen) (hl : recs.length ≤ maxLen) (hs : Hid (∀ r ∈ recs, r.key.size ≤ maxLen ∧ r.val.size ≤ maxLen))
    (ht : tops.length ≤ maxLen) (hts : Hid (∀ s ∈ tops, s.size ≤ maxLen)) (e1 : topic.extract 0 (min (topic.size : Int) 40).toNat = t') (e2 : group.extract 0 (min (group.size : Int) 40).toNat = g') (e3 : member.extract 0 (min (member.size : Int) 40).toNat = m')
    (HL : Hid ((recs.take 20).map R.cut = L)) (HM : Hid ((tops.take 12).map (fun s => cutS s 40) = M)) :
    Calls Try.prog 10 #[.agg #[.int .i64 kind, .string topic, .int .i64 pn, .int .i64 n, .int .i64 off, .int .i64 bp, .int .i64 be, .int .i64 bq, .slice RA recs.length rc, .string group, .string member, .int .i64 gen, .bool robin, .slice TA tops.length tc]] w (CutPost kind t' pn n off bp be bq L g' m' gen robin M w) := by
  unfold maxLen at h1 h2 h3
  have HRL := Lib.hid hl
  have HTL := Lib.hid ht
  clear hl ht
  go_enter Try.func10, Try.ntmps10
  go_wp2_with fail
  clear e1 e2 e3
  go_at_call 28
  refine (bound_is _ _ _ _ _ _ _ w.heap.size _ (Lib.hid ((readsO_up (hR.out.below (below3.mono hB)) hB))) (by simp; omega) HRL.out hs HL).mono ?_
  rintro e w1 ⟨RA', rc', rfl, hown1, hb1⟩
  have r0 := (hb1.block w.heap.size (by simp; omega)).trans (heap_alloc3_0 w _ _ _)
  have rz := (hb1.block (w.heap.size + 1) (by simp)).trans (heap_alloc3_1 w _ _ _)
  have r2 := (hb1.block (w.heap.size + 1 + 1) (by simp)).trans (heap_alloc3_2 w _ _ _)
  have hz1 : w.heap.size + 1 + 1 < w1.heap.size := by have := hb1.size; simp at this; omega
  have hB1 : Below w.heap.size w w1 := below3.trans (hb1.mono (by simp; omega))
  have x13 := (cell_of_row _ _ 13 _ _ _ r0).trans rfl
  have f5 := frozen_of_row _ _ 5 _ _ r2
  have f6 := frozen_of_row _ _ 6 _ _ r2
  have f7 := frozen_of_row _ _ 7 _ _ r2
  have f8 := frozen_of_row _ _ 8 _ _ r2
  have f13 := frozen_of_row _ _ 13 _ _ r2
  have c5 := (cell_of_row _ _ 5 _ _ _ r2).trans rfl
  have c6 := (cell_of_row _ _ 6 _ _ _ r2).trans rfl
  have c7 := (cell_of_row _ _ 7 _ _ _ r2).trans rfl
  have c8 := (cell_of_row _ _ 8 _ _ _ r2).trans rfl
  have c13 := (cell_of_row _ _ 13 _ _ _ r2).trans rfl
  have X0 := Lib.hid ((set5_other (H := w.heap.size + 1 + 1) (k := w.heap.size) (v5 := .int .i64 bp) (v6 := .int .i64 be) (v7 := .int .i64 bq) (v8 := .slice RA' L.length rc') (v13 := .slice none 0 0) (by omega)).trans r0)
  have XZ := Lib.hid ((set5_other (H := w.heap.size + 1 + 1) (k := w.heap.size + 1) (v5 := .int .i64 bp) (v6 := .int .i64 be) (v7 := .int .i64 bq) (v8 := .slice RA' L.length rc') (v13 := .slice none 0 0) (by omega)).trans rz)
  have X2 := Lib.hid (set5 (v5 := .int .i64 bp) (v6 := .int .i64 be) (v7 := .int .i64 bq) (v8 := .slice RA' L.length rc') (v13 := .slice none 0 0) r2)
  have XB := Lib.hid (set5_below hB1 (by omega : w.heap.size ≤ w.heap.size + 1 + 1) (.int .i64 bp) (.int .i64 be) (.int .i64 bq) (.slice RA' L.length rc') (.slice none 0 0))
  have XO := Lib.hid (set5_own hown1 (by simp : w.heap.size + 1 + 1 < _) (.int .i64 bp) (.int .i64 be) (.int .i64 bq) (.slice RA' L.length rc') (.slice none 0 0))
  have XS : Hid (w.heap.size + 1 + 1 < (((((w1.setCell ⟨w.heap.size + 1 + 1, 5, none⟩ (.int .i64 bp)).setCell ⟨w.heap.size + 1 + 1, 6, none⟩ (.int .i64 be)).setCell ⟨w.heap.size + 1 + 1, 7, none⟩ (.int .i64 bq)).setCell ⟨w.heap.size + 1 + 1, 8, none⟩ (.slice RA' L.length rc')).setCell ⟨w.heap.size + 1 + 1, 13, none⟩ (.slice none 0 0)).heap.size) := Lib.hid (by rw [set5_size]; exact hz1)
  clear r0 rz r2 hb1 hown1 hB1
  go_wp2_with fail
  clear x13 f5 f6 f7 f8 f13 c5 c6 c7 c8 c13 hz1
  generalize ((((w1.setCell ⟨w.heap.size + 1 + 1, 5, none⟩ (.int .i64 bp)).setCell ⟨w.heap.size + 1 + 1, 6, none⟩ (.int .i64 be)).setCell ⟨w.heap.size + 1 + 1, 7, none⟩ (.int .i64 bq)).setCell ⟨w.heap.size + 1 + 1, 8, none⟩ (.slice RA' L.length rc')).setCell ⟨w.heap.size + 1 + 1, 13, none⟩ (.slice none 0 0) = W1 at X0 XZ X2 XB XO XS ⊢
  obtain ⟨i0, hi0, hiz, hi1, hi2⟩ := info_parts strInfo
  go_loopw [4] (fun i wr => ∃ (k : Nat) (V : Value), k ≤ tops.length ∧ k ≤ 12 ∧ i = .int .i64 k ∧ Hid (W1.grownBy wr (some (w.heap.size + 1 + 1))) ∧ Hid (wr.heap[w.heap.size + 1 + 1]? = some (.cells #[.int .i64 kind, .string t', .int .i64 pn, .int .i64 n, .int .i64 off, .int .i64 bp, .int .i64 be, .int .i64 bq, .slice RA' L.length rc', .string g', .string m', .int .i64 gen, .bool robin, V] 29 (0, 0))) ∧ wr.ownsRow W1.heap.size 9 1 V k (texts ((tops.take k).map (fun s => cutS s 40)))) (fun i _ => tops.length - (intOf i).toNat)
  case atStart => exact ⟨0, .slice none 0 0, by omega, by omega, rfl, Lib.hid (World.grownBy.refl _ _), X2, World.ownsRow_nil _ _ _ _⟩
  case round =>
    obtain ⟨k, V, hk, hk12, rfl, hgr, hbox, hown⟩ := hrel
    have hsz : w.heap.size + 1 + 1 < wr.heap.size := (Array.getElem?_eq_some_iff.1 hbox.out).1
    have y0 := (hgr.out.block w.heap.size (by have := XS.out; omega) (by simp; omega)).trans X0.out
    by_cases hlt : k < tops.length ∧ k < 12
    · obtain ⟨hlt, hlt12⟩ := hlt
      obtain ⟨g, o, rfl, hg, hcells⟩ := hT.out (by omega)
      obtain ⟨st, hst⟩ : ∃ st, tops[k]? = some st := ⟨tops[k], List.getElem?_eq_getElem hlt⟩
      have hs1 := hts.out _ (List.mem_of_getElem? hst)
      unfold maxLen at hs1
      have d0 := ((XB.out.trans (hgr_below hgr.out (by omega) XB.out.size)).cell (p := ⟨g, o + k, none⟩) (by show g < _; omega)).trans (hcells k st hst)
      have v13 : wr.cell? ⟨w.heap.size + 1 + 1, 13, none⟩ = some V := (cell_of_row _ _ _ _ _ _ hbox.out).trans rfl
      have f13 : wr.frozen? ⟨w.heap.size + 1 + 1, 13, none⟩ = false := frozen_of_row _ _ _ _ _ hbox.out
      obtain ⟨s', hs'⟩ : ∃ s', st.extract 0 (min (st.size : Int) 40).toNat = s' := ⟨_, rfl⟩
      have HST := Lib.hid hst
      have HS' : Hid (cutS st 40 = s') := Lib.hid hs'
      have HO := Lib.hid hown
      have HLT := Lib.hid (World.ownsRow.lt HO.out)
      have k0 : (0 : Int) ≤ (k : Int) := by omega
      have k1 : (k : Int) < (tops.length : Int) := by omega
      have k2 : (k : Int) < 12 := by omega
      have m0 : 0 ≤ min (st.size : Int) 40 := by omega
      have m1 : min (st.size : Int) 40 ≤ (st.size : Int) := by omega
      clear hst hcells hown
      have y0' := Lib.hid y0
      clear y0
      have x13 := (cell_of_row _ _ 13 _ _ _ y0'.out).trans rfl
      have hn : k + 1 ≤ maxLen := by unfold maxLen; omega
      have hnb : (k + 1) * 16 ≤ 140737488355328 := by omega
      have hbase : W1.heap.size ≤ (wr.drew.alloc (.cells #[.string s'] 9)).heap.size := by have := hgr.out.size; simp; omega
      have HTT : Hid (∀ w', Below (w.heap.size + 1 + 1) wr w' → ((w'.cell? ⟨w.heap.size, 13, none⟩ = some (.slice (some ⟨g, o, none⟩) tops.length tc)) ∧ (w'.cell? ⟨g, o + k, none⟩ = some (.string st))) ∧ Below (w.heap.size + 1 + 1) wr w') := Lib.hid (fun w' hb => ⟨⟨(hb.cell (by show w.heap.size < _; omega)).trans x13, (hb.cell (by show g < _; omega)).trans d0⟩, hb⟩)
      go_wp2_with fail
      clear x13 d0
      refine wp_region_held_drew (S := fun w' => ((w'.cell? ⟨w.heap.size, 13, none⟩ = some (.slice (some ⟨g, o, none⟩) tops.length tc)) ∧ (w'.cell? ⟨g, o + k, none⟩ = some (.string st))) ∧ Below (w.heap.size + 1 + 1) wr w') (by kernel_rfl) (HTT.out _ (Below.refl _ _).drew) (fun hHeld => ?_)
      refine wpAnyH_take (i := 0) (oi := ?o1) (v := ?v1) ?a1 (by kernel_rfl) (by kernel_rfl) (by kernel_rfl) ?q1 (Or.inl ⟨?g1, ?y1⟩) (by assumption) ?r1; (case' a1 => (simp only [List.getElem?_toArray, List.getElem?_cons_zero]; rfl)); (case' q1 => (exact fun _ _ _ h => h)); (case' g1 => rfl); (case' y1 => (intro w hSw; (try dsimp only at hSw); go_simp; try with_reducible rfl)); (case' r1 => (try simp only [Act.put, List.setIfInBounds_toArray, List.set_cons_zero, List.set_cons_succ]))
      refine wpAnyH_take (i := 2) (oi := ?o2) (v := ?v2) ?a2 (by kernel_rfl) (by kernel_rfl) (by kernel_rfl) ?q2 (Or.inl ⟨?g2, ?y2⟩) (by assumption) ?r2; (case' a2 => (simp only [List.getElem?_toArray, List.getElem?_cons_zero, List.getElem?_cons_succ]; rfl)); (case' q2 => (exact fun _ _ _ h => h)); (case' g2 => rfl); (case' y2 => (intro w hSw; (try dsimp only at hSw); go_simp; try with_reducible rfl)); (case' r2 => (try simp only [Act.put, List.setIfInBounds_toArray, List.set_cons_zero, List.set_cons_succ]))
      refine wpAnyH_take (i := 3) (oi := ?o3) (v := ?v3) ?a3 (by kernel_rfl) (by kernel_rfl) (by kernel_rfl) ?q3 (Or.inl ⟨?g3, ?y3⟩) (by assumption) ?r3; (case' a3 => (simp only [List.getElem?_toArray, List.getElem?_cons_zero, List.getElem?_cons_succ]; rfl)); (case' q3 => (exact fun _ _ _ h => h)); (case' g3 => rfl); (case' y3 => (intro w hSw; (try dsimp only at hSw); go_simp; try with_reducible rfl)); (case' r3 => (try simp only [Act.put, List.setIfInBounds_toArray, List.set_cons_zero, List.set_cons_succ]))
      refine wpAnyH_take (i := 4) (oi := ?o4) (v := ?v4) ?a4 (by kernel_rfl) (by kernel_rfl) (by kernel_rfl) ?q4 (Or.inl ⟨?g4, ?y4⟩) (by assumption) ?r4; (case' a4 => (simp only [List.getElem?_toArray, List.getElem?_cons_zero, List.getElem?_cons_succ]; rfl)); (case' q4 => (exact fun _ _ _ h => h)); (case' g4 => rfl); (case' y4 => (intro w hSw; (try dsimp only at hSw); go_simp; try with_reducible rfl)); (case' r4 => (try simp only [Act.put, List.setIfInBounds_toArray, List.set_cons_zero, List.set_cons_succ]))
      refine wpAnyH_take (i := 5) (oi := ?o5) (v := ?v5) ?a5 (by kernel_rfl) (by kernel_rfl) (by kernel_rfl) ?q5 (Or.inl ⟨?g5, ?y5⟩) (by assumption) ?r5; (case' a5 => (simp only [List.getElem?_toArray, List.getElem?_cons_zero, List.getElem?_cons_succ]; rfl)); (case' q5 => (exact fun _ _ _ h => h)); (case' g5 => rfl); (case' y5 => (intro w hSw; (try dsimp only at hSw); go_simp; try with_reducible rfl)); (case' r5 => (try simp only [Act.put, List.setIfInBounds_toArray, List.set_cons_zero, List.set_cons_succ]))
      refine wpAnyH_take (i := 6) (oi := ?o6) (v := ?v6) ?a6 (by kernel_rfl) (by kernel_rfl) (by kernel_rfl) ?q6 (Or.inl ⟨?g6, ?y6⟩) (by assumption) ?r6; (case' a6 => (simp only [List.getElem?_toArray, List.getElem?_cons_zero, List.getElem?_cons_succ]; rfl)); (case' q6 => (exact fun _ _ _ h => h)); (case' g6 => rfl); (case' y6 => (intro w hSw; (try dsimp only at hSw); go_simp; try with_reducible rfl)); (case' r6 => (try simp only [Act.put, List.setIfInBounds_toArray, List.set_cons_zero, List.set_cons_succ]))
      refine wpAnyH_take (i := 7) (oi := ?o7) (v := ?v7) ?a7 (by kernel_rfl) (by kernel_rfl) (by kernel_rfl) ?q7 (Or.inl ⟨?g7, ?y7⟩) (by assumption) ?r7; (case' a7 => (simp only [List.getElem?_toArray, List.getElem?_cons_zero, List.getElem?_cons_succ]; rfl)); (case' q7 => (exact fun _ _ _ h => h)); (case' g7 => rfl); (case' y7 => (intro w hSw; (try dsimp only at hSw); go_simp; try with_reducible rfl)); (case' r7 => (try simp only [Act.put, List.setIfInBounds_toArray, List.set_cons_zero, List.set_cons_succ]))
      refine wpAnyH_take (i := 8) (oi := ?o8) (v := ?v8) ?a8 (by kernel_rfl) (by kernel_rfl) (by kernel_rfl) ?q8 (Or.inl ⟨?g8, ?y8⟩) (by assumption) ?r8; (case' a8 => (simp only [List.getElem?_toArray, List.getElem?_cons_zero, List.getElem?_cons_succ]; rfl)); (case' q8 => (exact fun _ _ _ h => h)); (case' g8 => rfl); (case' y8 => (intro w hSw; (try dsimp only at hSw); go_simp; try with_reducible rfl)); (case' r8 => (try simp only [Act.put, List.setIfInBounds_toArray, List.set_cons_zero, List.set_cons_succ]))
      refine wpAnyH_take (i := 9) (oi := ?o9) (v := ?v9) ?a9 (by kernel_rfl) (by kernel_rfl) (by kernel_rfl) ?q9 (Or.inl ⟨?g9, ?y9⟩) (by assumption) ?r9; (case' a9 => (simp only [List.getElem?_toArray, List.getElem?_cons_zero, List.getElem?_cons_succ]; rfl)); (case' q9 => (exact fun _ _ _ h => h)); (case' g9 => rfl); (case' y9 => (intro w hSw; (try dsimp only at hSw); go_simp; try with_reducible rfl)); (case' r9 => (try simp only [Act.put, List.setIfInBounds_toArray, List.set_cons_zero, List.set_cons_succ]))
      refine wpAnyH_take (i := 10) (oi := ?o10) (v := ?v10) ?a10 (by kernel_rfl) (by kernel_rfl) (by kernel_rfl) ?q10 (Or.inl ⟨?g10, ?y10⟩) (by assumption) ?r10; (case' a10 => (simp only [List.getElem?_toArray, List.getElem?_cons_zero, List.getElem?_cons_succ]; rfl)); (case' q10 => (exact fun _ _ _ h => h)); (case' g10 => rfl); (case' y10 => (intro w hSw; (try dsimp only at hSw); go_simp; try with_reducible rfl)); (case' r10 => (try simp only [Act.put, List.setIfInBounds_toArray, List.set_cons_zero, List.set_cons_succ]))
      refine wpAnyH_take (i := 11) (oi := ?o11) (v := ?v11) ?a11 (by kernel_rfl) (by kernel_rfl) (by kernel_rfl) ?q11 (Or.inl ⟨?g11, ?y11⟩) (by assumption) ?r11; (case' a11 => (simp only [List.getElem?_toArray, List.getElem?_cons_zero, List.getElem?_cons_succ]; rfl)); (case' q11 => (exact fun _ _ _ h => h)); (case' g11 => rfl); (case' y11 => (intro w hSw; (try dsimp only at hSw); go_simp; try with_reducible rfl)); (case' r11 => (try simp only [Act.put, List.setIfInBounds_toArray, List.set_cons_zero, List.set_cons_succ]))
      refine wpAnyH_take (i := 12) (oi := ?o12) (v := ?v12) ?a12 (by kernel_rfl) (by kernel_rfl) (by kernel_rfl) ?q12 (Or.inl ⟨?g12, ?y12⟩) (by assumption) ?r12; (case' a12 => (simp only [List.getElem?_toArray, List.getElem?_cons_zero, List.getElem?_cons_succ]; rfl)); (case' q12 => (exact fun _ _ _ h => h)); (case' g12 => rfl); (case' y12 => (intro w hSw; (try dsimp only at hSw); go_simp; try with_reducible rfl)); (case' r12 => (try simp only [Act.put, List.setIfInBounds_toArray, List.set_cons_zero, List.set_cons_succ]))
      refine wpAnyH_take (i := 13) (oi := ?o13) (v := ?v13) ?a13 (by kernel_rfl) (by kernel_rfl) (by kernel_rfl) ?q13 (Or.inl ⟨?g13, ?y13⟩) (by assumption) ?r13; (case' a13 => (simp only [List.getElem?_toArray, List.getElem?_cons_zero, List.getElem?_cons_succ]; rfl)); (case' q13 => (exact fun _ _ _ h => h)); (case' g13 => rfl); (case' y13 => (intro w hSw; (try dsimp only at hSw); go_simp; try with_reducible rfl)); (case' r13 => (try simp only [Act.put, List.setIfInBounds_toArray, List.set_cons_zero, List.set_cons_succ]))
      refine wpAnyH_take (i := 14) (oi := ?o14) (v := ?v14) ?a14 (by kernel_rfl) (by kernel_rfl) (by kernel_rfl) ?q14 (Or.inl ⟨?g14, ?y14⟩) (by assumption) ?r14; (case' a14 => (simp only [List.getElem?_toArray, List.getElem?_cons_zero, List.getElem?_cons_succ]; rfl)); (case' q14 => (exact fun _ _ _ h => h)); (case' g14 => rfl); (case' y14 => (intro w hSw; (try dsimp only at hSw); go_simp; try with_reducible rfl)); (case' r14 => (try simp only [Act.put, List.setIfInBounds_toArray, List.set_cons_zero, List.set_cons_succ]))
      refine wpAnyH_ready (rs := [1, 15]) (by kernel_rfl) (by simp) ?_
      refine AllReadyH.cons (o := ?o15) ?a15 (fun K hK => ?s15) ?m15; (case' a15 => (simp only [List.getElem?_toArray, List.getElem?_cons_zero, List.getElem?_cons_succ]; rfl))
      case s15 =>
        go_simp
        refine hK.out _ _ (hHeld) (fun hHeld => ?_)
        clear hK K
        (try simp only [Act.put, List.setIfInBounds_toArray, List.set_cons_zero, List.set_cons_succ])
        refine wpAnyH_ready (rs := [15]) (by kernel_rfl) (by simp) ?_
        refine AllReadyH.cons (o := ?o16) ?a16 (fun K hK => ?s16) ?m16; (case' a16 => (simp only [List.getElem?_toArray, List.getElem?_cons_zero, List.getElem?_cons_succ]; rfl))
        case s16 =>
          go_simp
          refine hK.out _ _ (HTT.out _ (hHeld.2.alloc (Nat.le_trans (Nat.le_of_lt hsz) hHeld.2.size) _)) (fun hHeld => ?_)
          clear hK K
          (try simp only [Act.put, List.setIfInBounds_toArray, List.set_cons_zero, List.set_cons_succ])
          refine wpAnyH_ready (rs := [16]) (by kernel_rfl) (by simp) ?_
          refine AllReadyH.cons (o := ?o17) ?a17 (fun K hK => ?s17) ?m17; (case' a17 => (simp only [List.getElem?_toArray, List.getElem?_cons_zero, List.getElem?_cons_succ]; rfl))
          case s17 =>
            refine step_append_lies _ (by rfl) (.tmp 50) (.tmp 64) 27 (by rfl) W1.heap.size 9 i0 _ 1 16 Try.underlying27 hi0 hiz hi1 hi2 rfl (by omega) V k (texts ((tops.take k).map (fun s => cutS s 40))) (by rfl) ((own_below HO.out (Below.refl _ _).drew).alloc _) ⟨wr.heap.size, 0, none⟩ 1 1 [.string s'] (by rfl) (by rfl) (World.news_of_block (cs := #[.string s']) (t := 9) (fr := (0, 0)) (heap_alloc_new wr.drew _)) (by simp [Value.oneCell']) (by omega) hn hnb hbase (wr.heap.size + 1) (by simp) ?_
            intro gg cc w2 hown2 hgrow hat hltg
            have hx3 : w2.cell? ⟨w.heap.size + 1 + 1, 13, none⟩ = some V := (cell_of_row _ _ 13 _ _ _ (cut_row hgr.out XS.out HO.out hgrow hbox.out)).trans rfl
            have hy3 : w2.frozen? ⟨w.heap.size + 1 + 1, 13, none⟩ = false := frozen_of_row _ _ 13 _ _ (cut_row hgr.out XS.out HO.out hgrow hbox.out)
            refine hK.out _ _ (HTT.out _ (hHeld.2.grown hgrow (Nat.le_trans (Nat.le_of_lt hsz) hHeld.2.size) (fun j e => by have := (HLT.out j e).1; have := XS.out; omega))) (fun hHeld => ?_)
            clear hK K
            (try simp only [Act.put, List.setIfInBounds_toArray, List.set_cons_zero, List.set_cons_succ])
            refine wpAnyH_take (i := 17) (oi := ?o18) (v := ?v18) ?a18 (by kernel_rfl) (by kernel_rfl) (by kernel_rfl) ?q18 (Or.inl ⟨?g18, ?y18⟩) (by assumption) ?r18; (case' a18 => (simp only [List.getElem?_toArray, List.getElem?_cons_zero, List.getElem?_cons_succ]; rfl)); (case' q18 => (exact fun _ _ _ h => h)); (case' g18 => rfl); (case' y18 => (intro w hSw; (try dsimp only at hSw); go_simp; try with_reducible rfl)); (case' r18 => (try simp only [Act.put, List.setIfInBounds_toArray, List.set_cons_zero, List.set_cons_succ]))
            refine wpAnyH_ready (rs := [18]) (by kernel_rfl) (by simp) ?_
            refine AllReadyH.cons (o := ?o19) ?a19 (fun K hK => ?s19) ?m19; (case' a19 => (simp only [List.getElem?_toArray, List.getElem?_cons_zero, List.getElem?_cons_succ]; rfl))
            case s19 =>
              go_simp
              refine hK.out _ _ (HTT.out _ (hHeld.2.setCell (by show _ ≤ w.heap.size + 1 + 1; omega) _)) (fun hHeld => ?_)
              clear hK K
              (try simp only [Act.put, List.setIfInBounds_toArray, List.set_cons_zero, List.set_cons_succ])
              refine wpAnyH_done (by kernel_rfl) ?_ _
              go_wp2_with fail
              go_roundw
              case rel =>
                have hnx := cut_next (v := .slice (some ⟨gg, 0, none⟩) (k + 1) cc) hgr.out XS.out HO.out hgrow hown2 HST.out HS'.out
                exact ⟨k + 1, _, by omega, by omega, by go_num, Lib.hid hnx.1, Lib.hid (heap_setCell_same _ _ 13 _ _ _ (cut_row hgr.out XS.out HO.out hgrow hbox.out)), hnx.2⟩
              case measure => simp [intOf]; omega
            exact AllReadyH.nil
          exact AllReadyH.nil
        exact AllReadyH.nil
      refine AllReadyH.cons (o := ?o20) ?a20 (fun K hK => ?s20) ?m20; (case' a20 => (simp only [List.getElem?_toArray, List.getElem?_cons_zero, List.getElem?_cons_succ]; rfl))
      case s20 =>
        go_simp
        refine hK.out _ _ (HTT.out _ (hHeld.2.alloc (Nat.le_trans (Nat.le_of_lt hsz) hHeld.2.size) _)) (fun hHeld => ?_)
        clear hK K
        (try simp only [Act.put, List.setIfInBounds_toArray, List.set_cons_zero, List.set_cons_succ])
        refine wpAnyH_ready (rs := [1]) (by kernel_rfl) (by simp) ?_
        refine AllReadyH.cons (o := ?o21) ?a21 (fun K hK => ?s21) ?m21; (case' a21 => (simp only [List.getElem?_toArray, List.getElem?_cons_zero, List.getElem?_cons_succ]; rfl))
        case s21 =>
          go_simp
          refine hK.out _ _ (hHeld) (fun hHeld => ?_)
          clear hK K
          (try simp only [Act.put, List.setIfInBounds_toArray, List.set_cons_zero, List.set_cons_succ])
          refine wpAnyH_ready (rs := [16]) (by kernel_rfl) (by simp) ?_
          refine AllReadyH.cons (o := ?o22) ?a22 (fun K hK => ?s22) ?m22; (case' a22 => (simp only [List.getElem?_toArray, List.getElem?_cons_zero, List.getElem?_cons_succ]; rfl))
          case s22 =>
            refine step_append_lies _ (by rfl) (.tmp 50) (.tmp 64) 27 (by rfl) W1.heap.size 9 i0 _ 1 16 Try.underlying27 hi0 hiz hi1 hi2 rfl (by omega) V k (texts ((tops.take k).map (fun s => cutS s 40))) (by rfl) ((own_below HO.out (Below.refl _ _).drew).alloc _) ⟨wr.heap.size, 0, none⟩ 1 1 [.string s'] (by rfl) (by rfl) (World.news_of_block (cs := #[.string s']) (t := 9) (fr := (0, 0)) (heap_alloc_new wr.drew _)) (by simp [Value.oneCell']) (by omega) hn hnb hbase (wr.heap.size + 1) (by simp) ?_
            intro gg cc w2 hown2 hgrow hat hltg
            have hx3 : w2.cell? ⟨w.heap.size + 1 + 1, 13, none⟩ = some V := (cell_of_row _ _ 13 _ _ _ (cut_row hgr.out XS.out HO.out hgrow hbox.out)).trans rfl
            have hy3 : w2.frozen? ⟨w.heap.size + 1 + 1, 13, none⟩ = false := frozen_of_row _ _ 13 _ _ (cut_row hgr.out XS.out HO.out hgrow hbox.out)
            refine hK.out _ _ (HTT.out _ (hHeld.2.grown hgrow (Nat.le_trans (Nat.le_of_lt hsz) hHeld.2.size) (fun j e => by have := (HLT.out j e).1; have := XS.out; omega))) (fun hHeld => ?_)
            clear hK K
            (try simp only [Act.put, List.setIfInBounds_toArray, List.set_cons_zero, List.set_cons_succ])
            refine wpAnyH_take (i := 17) (oi := ?o23) (v := ?v23) ?a23 (by kernel_rfl) (by kernel_rfl) (by kernel_rfl) ?q23 (Or.inl ⟨?g23, ?y23⟩) (by assumption) ?r23; (case' a23 => (simp only [List.getElem?_toArray, List.getElem?_cons_zero, List.getElem?_cons_succ]; rfl)); (case' q23 => (exact fun _ _ _ h => h)); (case' g23 => rfl); (case' y23 => (intro w hSw; (try dsimp only at hSw); go_simp; try with_reducible rfl)); (case' r23 => (try simp only [Act.put, List.setIfInBounds_toArray, List.set_cons_zero, List.set_cons_succ]))
            refine wpAnyH_ready (rs := [18]) (by kernel_rfl) (by simp) ?_
            refine AllReadyH.cons (o := ?o24) ?a24 (fun K hK => ?s24) ?m24; (case' a24 => (simp only [List.getElem?_toArray, List.getElem?_cons_zero, List.getElem?_cons_succ]; rfl))
            case s24 =>
              go_simp
              refine hK.out _ _ (HTT.out _ (hHeld.2.setCell (by show _ ≤ w.heap.size + 1 + 1; omega) _)) (fun hHeld => ?_)
              clear hK K
              (try simp only [Act.put, List.setIfInBounds_toArray, List.set_cons_zero, List.set_cons_succ])
              refine wpAnyH_done (by kernel_rfl) ?_ _
              go_wp2_with fail
              go_roundw
              case rel =>
                have hnx := cut_next (v := .slice (some ⟨gg, 0, none⟩) (k + 1) cc) hgr.out XS.out HO.out hgrow hown2 HST.out HS'.out
                exact ⟨k + 1, _, by omega, by omega, by go_num, Lib.hid hnx.1, Lib.hid (heap_setCell_same _ _ 13 _ _ _ (cut_row hgr.out XS.out HO.out hgrow hbox.out)), hnx.2⟩
              case measure => simp [intOf]; omega
            exact AllReadyH.nil
          exact AllReadyH.nil
        exact AllReadyH.nil
      exact AllReadyH.nil
    · obtain ⟨TA', tc', rfl⟩ := own_form hown
      have hln := cut_len hk hk12 hlt HM.out
      obtain ⟨hm1, hm2⟩ := hln
      subst hm2
      rw [hm1] at hown
      have p := hbox.out
      have z0 := (cell_of_row _ _ 0 _ _ _ p).trans rfl
      have z1 := (cell_of_row _ _ 1 _ _ _ p).trans rfl
      have z2 := (cell_of_row _ _ 2 _ _ _ p).trans rfl
      have z3 := (cell_of_row _ _ 3 _ _ _ p).trans rfl
      have z4 := (cell_of_row _ _ 4 _ _ _ p).trans rfl
      have z5 := (cell_of_row _ _ 5 _ _ _ p).trans rfl
      have z6 := (cell_of_row _ _ 6 _ _ _ p).trans rfl
      have z7 := (cell_of_row _ _ 7 _ _ _ p).trans rfl
      have z8 := (cell_of_row _ _ 8 _ _ _ p).trans rfl
      have z9 := (cell_of_row _ _ 9 _ _ _ p).trans rfl
      have z10 := (cell_of_row _ _ 10 _ _ _ p).trans rfl
      have z11 := (cell_of_row _ _ 11 _ _ _ p).trans rfl
      have z12 := (cell_of_row _ _ 12 _ _ _ p).trans rfl
      have z13 := (cell_of_row _ _ 13 _ _ _ p).trans rfl
      have rz := (hgr.out.block (w.heap.size + 1) (by have := XS.out; omega) (by simp)).trans XZ.out
      have q0 := frozen_of_row _ _ 0 _ _ rz
      have c0 := (cell_of_row _ _ 0 _ _ _ rz).trans rfl
      have q1 := frozen_of_row _ _ 1 _ _ rz
      have c1 := (cell_of_row _ _ 1 _ _ _ rz).trans rfl
      have q2 := frozen_of_row _ _ 2 _ _ rz
      have c2 := (cell_of_row _ _ 2 _ _ _ rz).trans rfl
      have q3 := frozen_of_row _ _ 3 _ _ rz
      have c3 := (cell_of_row _ _ 3 _ _ _ rz).trans rfl
      have q4 := frozen_of_row _ _ 4 _ _ rz
      have c4 := (cell_of_row _ _ 4 _ _ _ rz).trans rfl
      have q5 := frozen_of_row _ _ 5 _ _ rz
      have c5 := (cell_of_row _ _ 5 _ _ _ rz).trans rfl
      have q6 := frozen_of_row _ _ 6 _ _ rz
      have c6 := (cell_of_row _ _ 6 _ _ _ rz).trans rfl
      have q7 := frozen_of_row _ _ 7 _ _ rz
      have c7 := (cell_of_row _ _ 7 _ _ _ rz).trans rfl
      have q8 := frozen_of_row _ _ 8 _ _ rz
      have c8 := (cell_of_row _ _ 8 _ _ _ rz).trans rfl
      have q9 := frozen_of_row _ _ 9 _ _ rz
      have c9 := (cell_of_row _ _ 9 _ _ _ rz).trans rfl
      have q10 := frozen_of_row _ _ 10 _ _ rz
      have c10 := (cell_of_row _ _ 10 _ _ _ rz).trans rfl
      have q11 := frozen_of_row _ _ 11 _ _ rz
      have c11 := (cell_of_row _ _ 11 _ _ _ rz).trans rfl
      have q12 := frozen_of_row _ _ 12 _ _ rz
      have c12 := (cell_of_row _ _ 12 _ _ _ rz).trans rfl
      have q13 := frozen_of_row _ _ 13 _ _ rz
      have c13 := (cell_of_row _ _ 13 _ _ _ rz).trans rfl
      have x13 := (cell_of_row _ _ 13 _ _ _ y0).trans rfl
      have HRZ := Lib.hid rz
      have HO := Lib.hid hown
      have HK := Lib.hid hm1
      clear rz p hown y0 hm1
      have hd : (tops.length ≤ M.length) ∨ (M.length < tops.length ∧ 12 ≤ M.length) := by omega
      have hfin : Hid (CutPost kind t' pn n off bp be bq L g' m' gen robin M w (.returned (.agg #[.int .i64 kind, .string t', .int .i64 pn, .int .i64 n, .int .i64 off, .int .i64 bp, .int .i64 be, .int .i64 bq, .slice RA' L.length rc', .string g', .string m', .int .i64 gen, .bool robin, .slice TA' M.length tc'])) ((((((((((((((wr.setCell ⟨w.heap.size + 1, 0, none⟩ (.int .i64 kind)).setCell ⟨w.heap.size + 1, 1, none⟩ (.string t')).setCell ⟨w.heap.size + 1, 2, none⟩ (.int .i64 pn)).setCell ⟨w.heap.size + 1, 3, none⟩ (.int .i64 n)).setCell ⟨w.heap.size + 1, 4, none⟩ (.int .i64 off)).setCell ⟨w.heap.size + 1, 5, none⟩ (.int .i64 bp)).setCell ⟨w.heap.size + 1, 6, none⟩ (.int .i64 be)).setCell ⟨w.heap.size + 1, 7, none⟩ (.int .i64 bq)).setCell ⟨w.heap.size + 1, 8, none⟩ (.slice RA' L.length rc')).setCell ⟨w.heap.size + 1, 9, none⟩ (.string g')).setCell ⟨w.heap.size + 1, 10, none⟩ (.string m')).setCell ⟨w.heap.size + 1, 11, none⟩ (.int .i64 gen)).setCell ⟨w.heap.size + 1, 12, none⟩ (.bool robin)).setCell ⟨w.heap.size + 1, 13, none⟩ (.slice TA' M.length tc'))) := Lib.hid (by
        refine ⟨RA', rc', TA', tc', rfl, own_low (set14_own (XO.out.kept hgr.out ?_) (by simp) (.int .i64 kind) (.string t') (.int .i64 pn) (.int .i64 n) (.int .i64 off) (.int .i64 bp) (.int .i64 be) (.int .i64 bq) (.slice RA' L.length rc') (.string g') (.string m') (.int .i64 gen) (.bool robin) (.slice TA' M.length tc')) (by simp; omega), own_low (set14_own HO.out (by have := XS.out; omega) (.int .i64 kind) (.string t') (.int .i64 pn) (.int .i64 n) (.int .i64 off) (.int .i64 bp) (.int .i64 be) (.int .i64 bq) (.slice RA' L.length rc') (.string g') (.string m') (.int .i64 gen) (.bool robin) (.slice TA' M.length tc')) (by have := XB.out.size; omega), set14_below (XB.out.trans (hgr_below hgr.out (by omega) XB.out.size)) (by omega) (.int .i64 kind) (.string t') (.int .i64 pn) (.int .i64 n) (.int .i64 off) (.int .i64 bp) (.int .i64 be) (.int .i64 bq) (.slice RA' L.length rc') (.string g') (.string m') (.int .i64 gen) (.bool robin) (.slice TA' M.length tc')⟩
        rcases hb : (Value.slice RA' L.length rc').ownBlock with _ | b
        · exact .inl rfl
        · exact .inr (by have := (XO.out.lt b hb).1; simp at this; simp; omega))
      clear hlt
      rcases hd with hd | ⟨hd1, hd2⟩
      · go_wp2_with fail
        refine bodyPost_ret (v := .agg #[.int .i64 kind, .string t', .int .i64 pn, .int .i64 n, .int .i64 off, .int .i64 bp, .int .i64 be, .int .i64 bq, .slice RA' L.length rc', .string g', .string m', .int .i64 gen, .bool robin, .slice TA' M.length tc']) (results_cell_row (p := 2) (ty := 29) Try.results10 _ _ (w.heap.size + 1) 29 #[.int .i64 kind, .string t', .int .i64 pn, .int .i64 n, .int .i64 off, .int .i64 bp, .int .i64 be, .int .i64 bq, .slice RA' L.length rc', .string g', .string m', .int .i64 gen, .bool robin, .slice TA' M.length tc'] (0, 0) _ rfl ?row1 Try.underlying29 rfl (by kernel_rfl)) rfl ?_
        case row1 => exact set14 HRZ.out
        exact hfin.out
      · go_wp2_with fail
        refine bodyPost_ret (v := .agg #[.int .i64 kind, .string t', .int .i64 pn, .int .i64 n, .int .i64 off, .int .i64 bp, .int .i64 be, .int .i64 bq, .slice RA' L.length rc', .string g', .string m', .int .i64 gen, .bool robin, .slice TA' M.length tc']) (results_cell_row (p := 2) (ty := 29) Try.results10 _ _ (w.heap.size + 1) 29 #[.int .i64 kind, .string t', .int .i64 pn, .int .i64 n, .int .i64 off, .int .i64 bp, .int .i64 be, .int .i64 bq, .slice RA' L.length rc', .string g', .string m', .int .i64 gen, .bool robin, .slice TA' M.length tc'] (0, 0) _ rfl ?row2 Try.underlying29 rfl (by kernel_rfl)) rfl ?_
        case row2 => exact set14 HRZ.out
        exact hfin.out
end Go.Proofs.Ytlhkhccpeohefaa.L4
