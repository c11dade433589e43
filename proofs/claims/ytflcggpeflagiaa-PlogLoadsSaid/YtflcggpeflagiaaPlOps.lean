/-
  An argument that is a script of calls on a log.
-/
import Derived.Test.YtflcggpeflagiaaPlFixed
namespace Go.Proofs.Ytflcggpeflagiaa.L6
open Go.ChangeShapes Go.WideShapes Go.RowKit Go.Deep
open L3 L4 L5

/-- a call of a script -/
structure Scr where
  kind : Int
  from_ : Int
  n : Int
  A : Option Addr
  l : List R
  c : Nat
/-- a script that came in, and reads so -/
def ScrO (w : World) (B : Nat) (A : Option Addr) (l : List Scr) : Prop :=
  0 < l.length → ∃ g o, A = some ⟨g, o, none⟩ ∧ g < B ∧ ∀ i r, l[i]? = some r → w.cell? ⟨g, o + i * 4, none⟩ = some (.int .i64 r.kind) ∧ w.cell? ⟨g, o + i * 4 + 1, none⟩ = some (.int .i64 r.from_) ∧ w.cell? ⟨g, o + i * 4 + 2, none⟩ = some (.int .i64 r.n) ∧ w.cell? ⟨g, o + i * 4 + 3, none⟩ = some (.slice r.A r.l.length r.c)
/-- what a call of a script holds -/
def IsScr1 (w : World) (r : Scr) : Prop := (IsRecs w r.A r.l ∧ r.l.length ≤ r.c) ∧ (Lit.int .i64 r.kind).wf = true ∧ (Lit.int .i64 r.from_).wf = true ∧ (Lit.int .i64 r.n).wf = true
def IsScr (w : World) (A : Option Addr) (l : List Scr) : Prop := Hid (ScrO w w.heap.size A l) ∧ Hid (∀ r ∈ l, IsScr1 w r) ∧ l.length ≤ maxLen
section
variable {H : Type} {enc : TypeId × Value → H} {w : World} {base : Nat} {spare : Nat → Bool} {held : Bool}
set_option maxRecDepth 100000 in
theorem cells_scr {n : Nat} {cs : List Value} {x : DataW H × List MemPlace} (h : DataW.trod enc Try.prog w base spare held n 32 cs = some x) :
    ∃ r : Scr, cs = [.int .i64 r.kind, .int .i64 r.from_, .int .i64 r.n, .slice r.A r.l.length r.c] ∧ IsScr1 w r := by
  obtain ⟨xs, m, _, _, hl, hxl, hg⟩ := DataW.trod_struct Try.underlying32 h
  have hl5 : cs.length = 4 := hl.trans (by kernel_rfl)
  have hx5 : xs.length = 4 := hxl
  match cs, hl5 with
  | [c0, c1, c2, c3], _ =>
    match xs, hx5 with
    | [y0, y1, y2, y3], _ =>
      have f0 : DataW.trod enc Try.prog w base spare held m 3 (([c0, c1, c2, c3].drop 0).take (Try.prog.cellsOf 3)) = some y0 := hg 0 _ rfl
      have f1 : DataW.trod enc Try.prog w base spare held m 3 (([c0, c1, c2, c3].drop 1).take (Try.prog.cellsOf 3)) = some y1 := hg 1 _ rfl
      have f2 : DataW.trod enc Try.prog w base spare held m 3 (([c0, c1, c2, c3].drop 2).take (Try.prog.cellsOf 3)) = some y2 := hg 2 _ rfl
      have f3 : DataW.trod enc Try.prog w base spare held m 30 (([c0, c1, c2, c3].drop 3).take (Try.prog.cellsOf 30)) = some y3 := hg 3 _ rfl
      have zi : Try.prog.cellsOf 3 = 1 := by kernel_rfl
      have zr : Try.prog.cellsOf 30 = 1 := by kernel_rfl
      rw [zi] at f0 f1 f2
      rw [zr] at f3
      obtain ⟨a0, e0, w0⟩ := cells_num f0
      obtain ⟨a1, e1, w1⟩ := cells_num f1
      obtain ⟨a2, e2, w2⟩ := cells_num f2
      obtain ⟨A3, l3, k3, e3, i3, h3⟩ := recs_cap f3
      simp at e0 e1 e2 e3
      subst e0 e1 e2 e3
      exact ⟨⟨a0, a1, a2, A3, l3, k3⟩, rfl, ⟨i3, h3⟩, w0, w1, w2⟩
set_option maxRecDepth 100000 in
theorem cells_scrs {n : Nat} {cs : List Value} {x : DataW H × List MemPlace} (h : DataW.trod enc Try.prog w base spare held n 22 cs = some x) :
    ∃ (A : Option Addr) (l : List Scr) (cap : Nat), cs = [.slice A l.length cap] ∧ IsScr w A l := by
  rcases open_slice Try.underlying22 h with ⟨rfl, _⟩ | ⟨a, len, cap, m, n', D, Pl, rfl, _, hl, hm, hmm, _, hi⟩
  · exact ⟨none, [], 0, rfl, Lib.hid (fun h0 => absurd h0 (by simp)), Lib.hid (fun r hr => by simp at hr), by simp⟩
  · have hle : len ≤ m := by rw [hmm]; split <;> omega
    have zE : Try.prog.cellsOf 32 = 0 + 4 := by kernel_rfl
    rw [zE, Nat.zero_add] at hi
    have hrec : ∀ i, ∃ r : Scr, i < len → (IsScr1 w r) ∧ ∀ j, j < 0 + 4 → w.cell? (a.add (i * (0 + 4) + j)) = [Value.int .i64 r.kind, Value.int .i64 r.from_, Value.int .i64 r.n, Value.slice r.A r.l.length r.c][j]? := by
      intro i
      by_cases him : i < len
      · obtain ⟨cs', hc, ht⟩ := hi i (by omega)
        obtain ⟨c, e, h1⟩ := cells_scr ht
        obtain ⟨_, _, hcell⟩ := World.cells?_some hc
        refine ⟨c, fun _ => ⟨h1, fun j hj => ?_⟩⟩
        rw [Nat.zero_add] at hj ⊢
        rw [← Addr.add_add, hcell j hj, e]
      · exact ⟨⟨0, 0, 0, none, [], 0⟩, fun h => absurd h him⟩
    obtain ⟨f, hf⟩ := Classical.axiomOfChoice hrec
    have hlen : ((List.range len).map f).length = len := by simp
    refine ⟨some a, (List.range len).map f, cap, by rw [hlen], Lib.hid (fun h0 => ?_), Lib.hid (fun r hr => ?_), by rw [hlen]; omega⟩
    · rw [hlen] at h0
      have c0 := (hf 0 h0).2 0 (by omega)
      have hsp : a.spot = none := spotNone (by simpa [Addr.add] using c0 : w.cell? a = some _)
      obtain ⟨g, o, sp⟩ := a
      have hsp' : sp = none := hsp
      subst hsp'
      have hadd : ∀ j, (⟨g, o, none⟩ : Addr).add j = ⟨g, o + j, none⟩ := fun j => by unfold Addr.add; split <;> simp_all
      have hg : g < w.heap.size := World.block_lt_of_cell? w _ (by simpa [Addr.add] using c0 : w.cell? ⟨g, o, none⟩ = some _)
      refine ⟨g, o, rfl, hg, fun i r hr => ?_⟩
      have hir : i < len ∧ f i = r := by
        have h1 := (List.getElem?_eq_some_iff.1 hr).1
        rw [hlen] at h1
        refine ⟨h1, ?_⟩
        have h2 : ((List.range len).map f)[i]? = some (f i) := by simp [h1]
        rw [h2] at hr
        exact Option.some.inj hr
      obtain ⟨him, rfl⟩ := hir
      have q := (hf i him).2
      have q0 := q 0 (by omega); have q1 := q 1 (by omega); have q2 := q 2 (by omega); have q3 := q 3 (by omega);
      rw [hadd] at q0 q1 q2 q3
      simp only [Nat.add_zero, Nat.zero_add, ← Nat.add_assoc] at q0 q1 q2 q3
      exact ⟨q0, q1, q2, q3⟩
    · simp only [List.mem_map, List.mem_range] at hr
      obtain ⟨i, hi, rfl⟩ := hr
      exact (hf i hi).1

set_option maxRecDepth 100000 in
theorem open_scr {r : Reach} {b0 : Nat} {v : Value} {d : DataW H} {p : List MemPlace} (hv : Value.okWide Try.prog w r b0 22 v) (h : DataW.Trod enc Try.prog w base spare held 22 v d p) :
    ∃ (A : Option Addr) (l : List Scr) (cap : Nat), v = .slice A l.length cap ∧ IsScr w A l := by
  obtain ⟨a, len, c, rfl⟩ := okWide_slice Try.underlying22 hv
  obtain ⟨fuel, hf⟩ := h
  obtain ⟨A, l, cap, e, hI⟩ := cells_scrs hf
  have e' : [Value.slice a len c] = [Value.slice A l.length cap] := e
  exact ⟨A, l, cap, by injection e', hI⟩
end
end Go.Proofs.Ytflcggpeflagiaa.L6
