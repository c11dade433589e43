/-
  Calls of a script, of layer 8.
-/
import Derived.Test.YtcmlopflandlgaaDdArgs
namespace Go.Proofs.Ytcmlopflandlgaa.L8
open Go.ChangeShapes Go.WideShapes Go.RowKit Go.Deep
open L3 L4

/-- a call of a script -/
structure Sc where
  kind : Int
  id : Int
  off : Int
  t : ByteArray
  p : Int
  pr : Int
  ep : Int
  sq : Int
  A : Option Addr
  l : List R
  c : Nat
/-- a script that came in, and reads so -/
def ScO (w : World) (B : Nat) (A : Option Addr) (l : List Sc) : Prop :=
  0 < l.length → ∃ g o, A = some ⟨g, o, none⟩ ∧ g < B ∧ ∀ i r, l[i]? = some r → w.cell? ⟨g, o + i * 9, none⟩ = some (.int .i64 r.kind) ∧ w.cell? ⟨g, o + i * 9 + 1, none⟩ = some (.int .i64 r.id) ∧ w.cell? ⟨g, o + i * 9 + 2, none⟩ = some (.int .i64 r.off) ∧ w.cell? ⟨g, o + i * 9 + 3, none⟩ = some (.string r.t) ∧ w.cell? ⟨g, o + i * 9 + 4, none⟩ = some (.int .i64 r.p) ∧ w.cell? ⟨g, o + i * 9 + 5, none⟩ = some (.int .i64 r.pr) ∧ w.cell? ⟨g, o + i * 9 + 6, none⟩ = some (.int .i64 r.ep) ∧ w.cell? ⟨g, o + i * 9 + 7, none⟩ = some (.int .i64 r.sq) ∧ w.cell? ⟨g, o + i * 9 + 8, none⟩ = some (.slice r.A r.l.length r.c)
/-- what a call of a script holds -/
def IsSc1 (w : World) (r : Sc) : Prop := (IsRecs w r.A r.l ∧ r.l.length ≤ r.c) ∧ (r.t.size ≤ maxLen ∧ (Lit.int .i64 r.p).wf = true) ∧ (Lit.int .i64 r.kind).wf = true ∧ (Lit.int .i64 r.id).wf = true ∧ (Lit.int .i64 r.off).wf = true ∧ (Lit.int .i64 r.pr).wf = true ∧ (Lit.int .i64 r.ep).wf = true ∧ (Lit.int .i64 r.sq).wf = true
def IsSc (w : World) (A : Option Addr) (l : List Sc) : Prop := Hid (ScO w w.heap.size A l) ∧ Hid (∀ r ∈ l, IsSc1 w r) ∧ l.length ≤ maxLen
section
variable {H : Type} {enc : TypeId × Value → H} {w : World} {base : Nat} {spare : Nat → Bool} {held : Bool}
set_option maxRecDepth 100000 in
theorem recs_cap {n : Nat} {cs : List Value} {x : DataW H × List MemPlace} (h : DataW.trod enc Try.prog w base spare held n 32 cs = some x) :
    ∃ (A : Option Addr) (l : List R) (cap : Nat), cs = [.slice A l.length cap] ∧ IsRecs w A l ∧ l.length ≤ cap := by
  obtain ⟨A, l, cap, e, hI⟩ := cells_recs h
  refine ⟨A, l, cap, e, hI, ?_⟩
  rcases open_slice Try.underlying32 h with ⟨rfl, _⟩ | ⟨a, len, cap', m, n', D, Pl, rfl, _, hl, hm, hmm, _, hi⟩
  · injection e with e1
    injection e1 with q1 q2 q3
    omega
  · injection e with e1
    injection e1 with q1 q2 q3
    omega
set_option maxRecDepth 100000 in
theorem cells_bat {n : Nat} {cs : List Value} {x : DataW H × List MemPlace} (h : DataW.trod enc Try.prog w base spare held n 34 cs = some x) :
    ∃ (a b c : Int) (A : Option Addr) (l : List R) (cap : Nat), cs = [.int .i64 a, .int .i64 b, .int .i64 c, .slice A l.length cap] ∧ (IsRecs w A l ∧ l.length ≤ cap) ∧ (Lit.int .i64 a).wf = true ∧ (Lit.int .i64 b).wf = true ∧ (Lit.int .i64 c).wf = true := by
  obtain ⟨xs, m, _, _, hl, hxl, hg⟩ := DataW.trod_struct Try.underlying34 h
  have hl4 : cs.length = 2 + 2 := hl.trans (by kernel_rfl)
  have hx4 : xs.length = 2 + 2 := hxl
  match cs, hl4 with
  | [c0, c1, c2, c3], _ =>
    match xs, hx4 with
    | [y0, y1, y2, y3], _ =>
      have f0 : DataW.trod enc Try.prog w base spare held m 3 (([c0, c1, c2, c3].drop 0).take (Try.prog.cellsOf 3)) = some y0 := hg 0 _ rfl
      have f1 : DataW.trod enc Try.prog w base spare held m 3 (([c0, c1, c2, c3].drop 1).take (Try.prog.cellsOf 3)) = some y1 := hg 1 _ rfl
      have f2 : DataW.trod enc Try.prog w base spare held m 3 (([c0, c1, c2, c3].drop 2).take (Try.prog.cellsOf 3)) = some y2 := hg 2 _ rfl
      have f3 : DataW.trod enc Try.prog w base spare held m 32 (([c0, c1, c2, c3].drop (2 + 1)).take (Try.prog.cellsOf 32)) = some y3 := hg (2 + 1) _ rfl
      have zi : Try.prog.cellsOf 3 = 1 := by kernel_rfl
      have zr : Try.prog.cellsOf 32 = 1 := by kernel_rfl
      rw [zi] at f0 f1 f2
      rw [zr] at f3
      obtain ⟨a, e0, w0⟩ := cells_num f0
      obtain ⟨b, e1, w1⟩ := cells_num f1
      obtain ⟨c, e2, w2⟩ := cells_num f2
      obtain ⟨A, l, cap, e3, hR, hC⟩ := recs_cap f3
      simp at e0 e1 e2 e3
      subst e0 e1 e2 e3
      exact ⟨a, b, c, A, l, cap, rfl, ⟨hR, hC⟩, w0, w1, w2⟩
set_option maxRecDepth 100000 in
theorem cells_sc {n : Nat} {cs : List Value} {x : DataW H × List MemPlace} (h : DataW.trod enc Try.prog w base spare held n 36 cs = some x) :
    ∃ r : Sc, cs = [.int .i64 r.kind, .int .i64 r.id, .int .i64 r.off, .string r.t, .int .i64 r.p, .int .i64 r.pr, .int .i64 r.ep, .int .i64 r.sq, .slice r.A r.l.length r.c] ∧ IsSc1 w r := by
  obtain ⟨xs, m, _, _, hl, hxl, hg⟩ := DataW.trod_struct Try.underlying36 h
  have hl9 : cs.length = 9 := hl.trans (by kernel_rfl)
  have hx5 : xs.length = 5 := hxl
  match cs, hl9 with
  | [c0, c1, c2, c3, c4, c5, c6, c7, c8], _ =>
    match xs, hx5 with
    | [y0, y1, y2, y3, y4], _ =>
      have f0 : DataW.trod enc Try.prog w base spare held m 3 (([c0, c1, c2, c3, c4, c5, c6, c7, c8].drop 0).take (Try.prog.cellsOf 3)) = some y0 := hg 0 _ rfl
      have f1 : DataW.trod enc Try.prog w base spare held m 3 (([c0, c1, c2, c3, c4, c5, c6, c7, c8].drop 1).take (Try.prog.cellsOf 3)) = some y1 := hg 1 _ rfl
      have f2 : DataW.trod enc Try.prog w base spare held m 3 (([c0, c1, c2, c3, c4, c5, c6, c7, c8].drop 2).take (Try.prog.cellsOf 3)) = some y2 := hg 2 _ rfl
      have f3 : DataW.trod enc Try.prog w base spare held m 31 (([c0, c1, c2, c3, c4, c5, c6, c7, c8].drop (2 + 1)).take (Try.prog.cellsOf 31)) = some y3 := hg (2 + 1) _ rfl
      have f4 : DataW.trod enc Try.prog w base spare held m 34 (([c0, c1, c2, c3, c4, c5, c6, c7, c8].drop 5).take (Try.prog.cellsOf 34)) = some y4 := hg (2 + 2) _ rfl
      have zi : Try.prog.cellsOf 3 = 1 := by kernel_rfl
      have zp : Try.prog.cellsOf 31 = 2 := by kernel_rfl
      have zb : Try.prog.cellsOf 34 = 2 + 2 := by kernel_rfl
      rw [zi] at f0 f1 f2
      rw [zp] at f3
      rw [zb] at f4
      obtain ⟨a0, e0, w0⟩ := cells_num f0
      obtain ⟨a1, e1, w1⟩ := cells_num f1
      obtain ⟨a2, e2, w2⟩ := cells_num f2
      obtain ⟨t, p, e3, h3⟩ := cells_part f3
      obtain ⟨a, b, c, A, l, k, e4, h4, wa, wb, wc⟩ := cells_bat f4
      simp at e0 e1 e2 e3 e4
      obtain ⟨rfl, rfl⟩ := e3
      obtain ⟨rfl, rfl, rfl, rfl⟩ := e4
      subst e0 e1 e2
      exact ⟨⟨a0, a1, a2, t, p, a, b, c, A, l, k⟩, rfl, h4, h3, w0, w1, w2, wa, wb, wc⟩
set_option maxRecDepth 100000 in
theorem open_sc {r : Reach} {b0 : Nat} {v : Value} {d : DataW H} {p : List MemPlace} (hv : Value.okWide Try.prog w r b0 36 v) (h : DataW.Trod enc Try.prog w base spare held 36 v d p) :
    ∃ r : Sc, v = .agg #[.int .i64 r.kind, .int .i64 r.id, .int .i64 r.off, .string r.t, .int .i64 r.p, .int .i64 r.pr, .int .i64 r.ep, .int .i64 r.sq, .slice r.A r.l.length r.c] ∧ IsSc1 w r := by
  obtain ⟨cs, rfl, _⟩ := okWide_struct Try.underlying36 hv
  obtain ⟨fuel, hf⟩ := h
  obtain ⟨r, e, hI⟩ := cells_sc hf
  refine ⟨r, ?_, hI⟩
  have e' : cs.toList = [.int .i64 r.kind, .int .i64 r.id, .int .i64 r.off, .string r.t, .int .i64 r.p, .int .i64 r.pr, .int .i64 r.ep, .int .i64 r.sq, .slice r.A r.l.length r.c] := e
  rw [← Array.toArray_toList (xs := cs), e']
set_option maxRecDepth 100000 in
theorem cells_scs {n : Nat} {cs : List Value} {x : DataW H × List MemPlace} (h : DataW.trod enc Try.prog w base spare held n 22 cs = some x) :
    ∃ (A : Option Addr) (l : List Sc) (cap : Nat), cs = [.slice A l.length cap] ∧ IsSc w A l := by
  rcases open_slice Try.underlying22 h with ⟨rfl, _⟩ | ⟨a, len, cap, m, n', D, Pl, rfl, _, hl, hm, hmm, _, hi⟩
  · exact ⟨none, [], 0, rfl, Lib.hid (fun h0 => absurd h0 (by simp)), Lib.hid (fun r hr => by simp at hr), by simp⟩
  · have hle : len ≤ m := by rw [hmm]; split <;> omega
    have zE : Try.prog.cellsOf 36 = 0 + 9 := by kernel_rfl
    rw [zE, Nat.zero_add] at hi
    have hrec : ∀ i, ∃ r : Sc, i < len → (IsSc1 w r) ∧ ∀ j, j < 0 + 9 → w.cell? (a.add (i * (0 + 9) + j)) = [Value.int .i64 r.kind, Value.int .i64 r.id, Value.int .i64 r.off, Value.string r.t, Value.int .i64 r.p, Value.int .i64 r.pr, Value.int .i64 r.ep, Value.int .i64 r.sq, Value.slice r.A r.l.length r.c][j]? := by
      intro i
      by_cases him : i < len
      · obtain ⟨cs', hc, ht⟩ := hi i (by omega)
        obtain ⟨c, e, h1⟩ := cells_sc ht
        obtain ⟨_, _, hcell⟩ := World.cells?_some hc
        refine ⟨c, fun _ => ⟨h1, fun j hj => ?_⟩⟩
        rw [Nat.zero_add] at hj ⊢
        rw [← Addr.add_add, hcell j hj, e]
      · exact ⟨⟨0, 0, 0, ⟨#[]⟩, 0, 0, 0, 0, none, [], 0⟩, fun h => absurd h him⟩
    obtain ⟨f, hf⟩ := Classical.axiomOfChoice hrec
    have hlen : ((List.range len).map f).length = len := by simp
    refine ⟨some a, (List.range len).map f, cap, by rw [hlen], Lib.hid (fun h0 => ?_), Lib.hid (fun r hr => ?_), by rw [hlen]; omega⟩
    · rw [hlen] at h0
      have c0 := (hf 0 h0).2 0 (by omega)
      have hsp : a.spot = none := spotNone (by simpa [Addr.add] using c0 : w.cell? a = some _)
      obtain ⟨g, o, sp⟩ := a
      have hsp' : sp = none := hsp
      subst hsp'
      have hadd : ∀ j, (⟨g, o, none⟩ : Addr).add j = ⟨g, o + j, none⟩ := fun j => by unfold Addr.add; split <;> simp_all
      have hg : g < w.heap.size := World.block_lt_of_cell? w _ (by simpa [Addr.add] using c0 : w.cell? ⟨g, o, none⟩ = some _)
      refine ⟨g, o, rfl, hg, fun i r hr => ?_⟩
      have hir : i < len ∧ f i = r := by
        have h1 := (List.getElem?_eq_some_iff.1 hr).1
        rw [hlen] at h1
        refine ⟨h1, ?_⟩
        have h2 : ((List.range len).map f)[i]? = some (f i) := by simp [h1]
        rw [h2] at hr
        exact Option.some.inj hr
      obtain ⟨him, rfl⟩ := hir
      have q := (hf i him).2
      have q0 := q 0 (by omega); have q1 := q 1 (by omega); have q2 := q 2 (by omega); have q3 := q 3 (by omega); have q4 := q 4 (by omega); have q5 := q 5 (by omega); have q6 := q 6 (by omega); have q7 := q 7 (by omega); have q8 := q 8 (by omega)
      rw [hadd] at q0 q1 q2 q3 q4 q5 q6 q7 q8
      simp only [Nat.add_zero, Nat.zero_add, ← Nat.add_assoc] at q0 q1 q2 q3 q4 q5 q6 q7 q8
      exact ⟨q0, q1, q2, q3, q4, q5, q6, q7, q8⟩
    · simp only [List.mem_map, List.mem_range] at hr
      obtain ⟨i, hi, rfl⟩ := hr
      exact (hf i hi).1
set_option maxRecDepth 100000 in
theorem open_scs {r : Reach} {b0 : Nat} {v : Value} {d : DataW H} {p : List MemPlace} (hv : Value.okWide Try.prog w r b0 22 v) (h : DataW.Trod enc Try.prog w base spare held 22 v d p) :
    ∃ (A : Option Addr) (l : List Sc) (cap : Nat), v = .slice A l.length cap ∧ IsSc w A l := by
  obtain ⟨a, len, c, rfl⟩ := okWide_slice Try.underlying22 hv
  obtain ⟨fuel, hf⟩ := h
  obtain ⟨A, l, cap, e, hI⟩ := cells_scs hf
  have e' : [Value.slice a len c] = [Value.slice A l.length cap] := e
  exact ⟨A, l, cap, by injection e', hI⟩
end
end Go.Proofs.Ytcmlopflandlgaa.L8
