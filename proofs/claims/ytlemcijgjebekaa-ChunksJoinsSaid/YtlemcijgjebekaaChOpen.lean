/-
  Arguments that are chunks, slices of them, segments; and how long a slice of numbers may be that came in.
-/
import Derived.Test.YtlemcijgjebekaaMSegMine
import Derived.Test.YtlemcijgjebekaaChSplit
import Derived.SizedLaws
namespace Go.Proofs.Ytlemcijgjebekaa.L7
open Go.ChangeShapes Go.WideShapes Go.RowKit Go.Deep
open L3 L4 L5

section
variable {H : Type} {enc : TypeId × Value → H} {w : World} {base : Nat} {spare : Nat → Bool} {held : Bool}
set_option maxRecDepth 100000 in
theorem cells_ck {n : Nat} {cs : List Value} {x : DataW H × List MemPlace} (h : DataW.trod enc Try.prog w base spare held n 71 cs = some x) :
    ∃ (i m d : Int) (b : ByteArray), cs = [.int .i64 i, .int .i64 m, .int .u64 d, .string b] ∧ (Lit.int .u64 d).wf = true ∧ b.size ≤ maxLen := by
  obtain ⟨xs, m, _, _, hl, hxl, hf⟩ := DataW.trod_struct Try.underlying71 h
  have hl4 : cs.length = 4 := hl.trans (by kernel_rfl)
  have hx4 : xs.length = 4 := hxl
  match cs, hl4 with
  | [c0, c1, c2, c3], _ =>
    match xs, hx4 with
    | [y0, y1, y2, y3], _ =>
      have f0 : DataW.trod enc Try.prog w base spare held m 3 (([c0, c1, c2, c3].drop 0).take (Try.prog.cellsOf 3)) = some y0 := hf 0 _ rfl
      have f1 : DataW.trod enc Try.prog w base spare held m 3 (([c0, c1, c2, c3].drop 1).take (Try.prog.cellsOf 3)) = some y1 := hf 1 _ rfl
      have f2 : DataW.trod enc Try.prog w base spare held m 67 (([c0, c1, c2, c3].drop 2).take (Try.prog.cellsOf 67)) = some y2 := hf 2 _ rfl
      have f3 : DataW.trod enc Try.prog w base spare held m 9 (([c0, c1, c2, c3].drop 3).take (Try.prog.cellsOf 9)) = some y3 := hf 3 _ rfl
      have z3 : Try.prog.cellsOf 3 = 1 := by kernel_rfl
      have z6 : Try.prog.cellsOf 67 = 1 := by kernel_rfl
      have z9 : Try.prog.cellsOf 9 = 1 := by kernel_rfl
      rw [z3] at f0 f1
      rw [z6] at f2
      rw [z9] at f3
      obtain ⟨i, e0, _⟩ := DataW.trod_int Try.underlying3 f0
      obtain ⟨m', e1, _⟩ := DataW.trod_int Try.underlying3 f1
      obtain ⟨d, e2, _, hd⟩ := DataW.trod_int Try.underlying67 f2
      obtain ⟨b, e3, _, hb⟩ := DataW.trod_string Try.underlying9 f3
      simp at e0 e1 e2 e3
      subst e0 e1 e2 e3
      exact ⟨i, m', d, b, rfl, hd, hb⟩
set_option maxRecDepth 100000 in
theorem open_ck {r : Reach} {b0 : Nat} {v : Value} {d : DataW H} {p : List MemPlace} (hv : Value.okWide Try.prog w r b0 71 v) (h : DataW.Trod enc Try.prog w base spare held 71 v d p) :
    ∃ (i m x : Int) (b : ByteArray), v = .agg #[.int .i64 i, .int .i64 m, .int .u64 x, .string b] ∧ (Lit.int .u64 x).wf = true ∧ b.size ≤ maxLen := by
  obtain ⟨cs, rfl, _⟩ := okWide_struct Try.underlying71 hv
  obtain ⟨fuel, hf⟩ := h
  obtain ⟨i, m, x, b, e, h1, h2⟩ := cells_ck hf
  refine ⟨i, m, x, b, ?_, h1, h2⟩
  have e' : cs.toList = [.int .i64 i, .int .i64 m, .int .u64 x, .string b] := e
  rw [← Array.toArray_toList (xs := cs), e']
set_option maxRecDepth 100000 in
set_option maxHeartbeats 1000000 in
theorem cells_seg {n : Nat} {cs : List Value} {x : DataW H × List MemPlace} (h : DataW.trod enc Try.prog w base spare held n 53 cs = some x) :
    ∃ (b n : Int) (A : Option Addr) (l : List L4.Fd) (c : Nat), cs = [.int .i64 b, .int .i64 n, .slice A l.length c] ∧ IsFds w A l ∧ (Lit.int .i64 b).wf = true ∧ (Lit.int .i64 n).wf = true := by
  obtain ⟨xs, m, _, _, hl, hxl, hf⟩ := DataW.trod_struct Try.underlying53 h
  have hl3 : cs.length = 3 := hl.trans (by kernel_rfl)
  have hx3 : xs.length = 3 := hxl
  match cs, hl3 with
  | [c0, c1, c2], _ =>
    match xs, hx3 with
    | [y0, y1, y2], _ =>
      have f0 : DataW.trod enc Try.prog w base spare held m 3 (([c0, c1, c2].drop 0).take (Try.prog.cellsOf 3)) = some y0 := hf 0 _ rfl
      have f1 : DataW.trod enc Try.prog w base spare held m 3 (([c0, c1, c2].drop 1).take (Try.prog.cellsOf 3)) = some y1 := hf 1 _ rfl
      have f2 : DataW.trod enc Try.prog w base spare held m 36 (([c0, c1, c2].drop 2).take (Try.prog.cellsOf 36)) = some y2 := hf 2 _ rfl
      have z3 : Try.prog.cellsOf 3 = 1 := by kernel_rfl
      have z6 : Try.prog.cellsOf 36 = 1 := by kernel_rfl
      rw [z3] at f0 f1
      rw [z6] at f2
      obtain ⟨b, e0, w0⟩ := cells_num f0
      obtain ⟨n', e1, w1⟩ := cells_num f1
      obtain ⟨A, l, c, e2, hI⟩ := cells_fds f2
      simp at e0 e1 e2
      subst e0 e1 e2
      exact ⟨b, n', A, l, c, rfl, hI, w0, w1⟩
set_option maxRecDepth 100000 in
set_option maxHeartbeats 1000000 in
theorem open_seg {r : Reach} {b0 : Nat} {v : Value} {d : DataW H} {p : List MemPlace} (hv : Value.okWide Try.prog w r b0 53 v) (h : DataW.Trod enc Try.prog w base spare held 53 v d p) :
    ∃ (b n : Int) (A : Option Addr) (l : List L4.Fd) (c : Nat), v = .agg #[.int .i64 b, .int .i64 n, .slice A l.length c] ∧ IsFds w A l ∧ (Lit.int .i64 b).wf = true ∧ (Lit.int .i64 n).wf = true := by
  obtain ⟨cs, rfl, _⟩ := okWide_struct Try.underlying53 hv
  obtain ⟨fuel, hf⟩ := h
  obtain ⟨b, n, A, l, c, e, hI⟩ := cells_seg hf
  refine ⟨b, n, A, l, c, ?_, hI⟩
  have e' : cs.toList = [.int .i64 b, .int .i64 n, .slice A l.length c] := e
  rw [← Array.toArray_toList (xs := cs), e']
theorem bytesInt : Try.prog.bytesOf 3 = 8 := by kernel_rfl
/-- a slice of numbers that came in is as long as memory allows -/
theorem reach_nums {ts : List TypeId} {ds : List (DataW H)} (hsz : (DataW.weightsEach Try.prog ts ds).all (· ≤ reachBytes) = true) {j : Nat} (ht : ts[j]? = some 90) {d : DataW H} (hd : ds[j]? = some d) {A : Option Addr} {len c : Nat} {p : List MemPlace}
    (h : DataW.Trod enc Try.prog w base spare held 90 (.slice A len c) d p) : len ≤ 17592186044416 := by
  obtain ⟨fuel, hf⟩ := h
  rcases open_slice Try.underlying90 hf with ⟨e, _⟩ | ⟨a, len', cap, m, n', D, Pl, e, _, hl, hm, hmm, hx, hi⟩
  · injection e with e; injection e with _ e; omega
  · injection e with e; injection e with _ e; subst e
    simp only [Prod.mk.injEq] at hx
    obtain ⟨rfl, _⟩ := hx
    have := sized_slice hsz ht hd Try.underlying90
    rw [bytesInt] at this
    simp only [List.length_map, List.length_range, reachBytes] at this
    omega
end
end Go.Proofs.Ytlemcijgjebekaa.L7
