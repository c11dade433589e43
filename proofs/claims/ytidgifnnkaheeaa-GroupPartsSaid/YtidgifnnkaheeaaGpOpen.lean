/-
  Arguments of the laws of layer 11: what they are.
-/
import Derived.Test.YtidgifnnkaheeaaGpMath
import Derived.Test.YtidgifnnkaheeaaAsOpen
namespace Go.Proofs.Ytidgifnnkaheeaa.L11
open Go.ChangeShapes Go.WideShapes Go.RowKit Go.Deep
open L3 L4 L9 L10

/-- a seat that came in -/
structure Sa where
  s : Se
  A : Option Addr
  c : Nat
def saC (v : Sa) : List Value := [.string v.s.m.name, .slice v.A v.s.m.ts.length v.c, .int .i64 v.s.tm, .int .i64 v.s.sn]
def IsSa (w : World) (v : Sa) : Prop := v.s.m.name.size ≤ maxLen ∧ RowsO strC 1 w v.A v.s.m.ts ∧ (∀ s ∈ v.s.m.ts, s.size ≤ maxLen) ∧ v.s.m.ts.length ≤ maxLen ∧ (Lit.int .i64 v.s.tm).wf = true ∧ (Lit.int .i64 v.s.sn).wf = true
/-- a call of a script -/
structure Oc where
  kind : Int
  v : Sa
  gen : Int
  now : Int
  rb : Bool
def ocC (r : Oc) : List Value := [.int .i64 r.kind, .string r.v.s.m.name, .slice r.v.A r.v.s.m.ts.length r.v.c, .int .i64 r.v.s.tm, .int .i64 r.v.s.sn, .int .i64 r.gen, .int .i64 r.now, .bool r.rb]
def IsOc (w : World) (r : Oc) : Prop := IsSa w r.v ∧ (Lit.int .i64 r.kind).wf = true ∧ (Lit.int .i64 r.gen).wf = true ∧ (Lit.int .i64 r.now).wf = true
def numC (n : Int) : List Value := [.int .i64 n]
section
variable {H : Type} {enc : TypeId × Value → H} {w : World} {base : Nat} {spare : Nat → Bool} {held : Bool}
theorem cells_num {n : Nat} {cs : List Value} {x : DataW H × List MemPlace} (h : DataW.trod enc Try.prog w base spare held n 3 cs = some x) : ∃ a : Int, cs = numC a ∧ (Lit.int .i64 a).wf = true := by
  obtain ⟨n', e1, hw1⟩ := DataW.trod_int Try.underlying3 h
  exact ⟨n', e1, hw1.2⟩
theorem cells_bool {n : Nat} {cs : List Value} {x : DataW H × List MemPlace} (h : DataW.trod enc Try.prog w base spare held n 4 cs = some x) : ∃ a : Bool, cs = [.bool a] := by
  obtain ⟨a, e, _⟩ := DataW.trod_bool Try.underlying4 h
  exact ⟨a, e⟩
set_option maxRecDepth 100000 in
theorem cells_sa {n : Nat} {cs : List Value} {x : DataW H × List MemPlace} (h : DataW.trod enc Try.prog w base spare held n 47 cs = some x) : ∃ v : Sa, cs = saC v ∧ IsSa w v := by
  obtain ⟨xs, m, _, _, hl, hxl, hg⟩ := DataW.trod_struct Try.underlying47 h
  have hlc : cs.length = 4 := hl.trans (by kernel_rfl)
  have hxc : xs.length = 3 := hxl
  match cs, hlc with
  | [c0, c1, c2, c3], _ =>
    match xs, hxc with
    | [y0, y1, y2], _ =>
      have f0 : DataW.trod enc Try.prog w base spare held m 40 (([c0, c1, c2, c3].drop 0).take (Try.prog.cellsOf 40)) = some y0 := hg 0 _ rfl
      have f1 : DataW.trod enc Try.prog w base spare held m 3 (([c0, c1, c2, c3].drop 2).take (Try.prog.cellsOf 3)) = some y1 := hg 1 _ rfl
      have f2 : DataW.trod enc Try.prog w base spare held m 3 (([c0, c1, c2, c3].drop 3).take (Try.prog.cellsOf 3)) = some y2 := hg 2 _ rfl
      have zm : Try.prog.cellsOf 40 = 2 := by kernel_rfl
      have zi : Try.prog.cellsOf 3 = 1 := by kernel_rfl
      rw [zm] at f0
      rw [zi] at f1 f2
      obtain ⟨v, e0, h1, h2, h3, h4⟩ := cells_me f0
      obtain ⟨a, e1, w1⟩ := cells_num f1
      obtain ⟨b, e2, w2⟩ := cells_num f2
      simp [meC, numC] at e0 e1 e2
      obtain ⟨rfl, rfl⟩ := e0
      subst e1 e2
      exact ⟨⟨⟨v.m, a, b⟩, v.A, v.c⟩, rfl, h1, h2, h3, h4, w1, w2⟩
set_option maxRecDepth 100000 in
theorem cells_oc {n : Nat} {cs : List Value} {x : DataW H × List MemPlace} (h : DataW.trod enc Try.prog w base spare held n 50 cs = some x) : ∃ r : Oc, cs = ocC r ∧ IsOc w r := by
  obtain ⟨xs, m, _, _, hl, hxl, hg⟩ := DataW.trod_struct Try.underlying50 h
  have hlc : cs.length = 8 := hl.trans (by kernel_rfl)
  have hxc : xs.length = 5 := hxl
  match cs, hlc with
  | [c0, c1, c2, c3, c4, c5, c6, c7], _ =>
    match xs, hxc with
    | [y0, y1, y2, y3, y4], _ =>
      have f0 : DataW.trod enc Try.prog w base spare held m 3 (([c0, c1, c2, c3, c4, c5, c6, c7].drop 0).take (Try.prog.cellsOf 3)) = some y0 := hg 0 _ rfl
      have f1 : DataW.trod enc Try.prog w base spare held m 47 (([c0, c1, c2, c3, c4, c5, c6, c7].drop 1).take (Try.prog.cellsOf 47)) = some y1 := hg 1 _ rfl
      have f2 : DataW.trod enc Try.prog w base spare held m 3 (([c0, c1, c2, c3, c4, c5, c6, c7].drop 5).take (Try.prog.cellsOf 3)) = some y2 := hg 2 _ rfl
      have f3 : DataW.trod enc Try.prog w base spare held m 3 (([c0, c1, c2, c3, c4, c5, c6, c7].drop 6).take (Try.prog.cellsOf 3)) = some y3 := hg 3 _ rfl
      have f4 : DataW.trod enc Try.prog w base spare held m 4 (([c0, c1, c2, c3, c4, c5, c6, c7].drop 7).take (Try.prog.cellsOf 4)) = some y4 := hg 4 _ rfl
      have zs : Try.prog.cellsOf 47 = 4 := by kernel_rfl
      have zi : Try.prog.cellsOf 3 = 1 := by kernel_rfl
      have zb : Try.prog.cellsOf 4 = 1 := by kernel_rfl
      rw [zs] at f1
      rw [zi] at f0 f2 f3
      rw [zb] at f4
      obtain ⟨k, e0, w0⟩ := cells_num f0
      obtain ⟨v, e1, h1⟩ := cells_sa f1
      obtain ⟨a, e2, w2⟩ := cells_num f2
      obtain ⟨b, e3, w3⟩ := cells_num f3
      obtain ⟨r, e4⟩ := cells_bool f4
      simp [saC, numC] at e0 e1 e2 e3 e4
      obtain ⟨rfl, rfl, rfl, rfl⟩ := e1
      subst e0 e2 e3 e4
      exact ⟨⟨k, v, a, b, r⟩, rfl, h1, w0, w2, w3⟩
def inhSa : Sa := ⟨⟨⟨⟨#[]⟩, []⟩, 0, 0⟩, none, 0⟩
set_option maxRecDepth 100000 in
theorem open_script {r : Reach} {b0 : Nat} {v : Value} {d : DataW H} {p : List MemPlace} (hv : Value.okWide Try.prog w r b0 43 v) (h : DataW.Trod enc Try.prog w base spare held 43 v d p) :
    ∃ (A : Option Addr) (l : List Oc) (cap : Nat), v = .slice A l.length cap ∧ Hid (RowsO ocC 8 w A l) ∧ Hid (∀ r ∈ l, IsOc w r) ∧ l.length ≤ maxLen := by
  obtain ⟨a, len, c, rfl⟩ := okWide_slice Try.underlying43 hv
  obtain ⟨fuel, hf⟩ := h
  obtain ⟨A, l, cap, e, h1, h2, h3⟩ := open_rows ocC (IsOc w) ⟨0, inhSa, 0, 0, false⟩ Try.underlying43 (k := 8) (by kernel_rfl) (by decide) (fun _ => rfl) (fun _ _ _ h => cells_oc h) hf
  have e' : [Value.slice a len c] = [Value.slice A l.length cap] := e
  exact ⟨A, l, cap, by injection e', Lib.hid h1, Lib.hid h2, h3⟩
set_option maxRecDepth 100000 in
theorem open_call {r : Reach} {b0 : Nat} {v : Value} {d : DataW H} {p : List MemPlace} (hv : Value.okWide Try.prog w r b0 50 v) (h : DataW.Trod enc Try.prog w base spare held 50 v d p) :
    ∃ r : Oc, v = .agg #[.int .i64 r.kind, .string r.v.s.m.name, .slice r.v.A r.v.s.m.ts.length r.v.c, .int .i64 r.v.s.tm, .int .i64 r.v.s.sn, .int .i64 r.gen, .int .i64 r.now, .bool r.rb] ∧ Hid (IsOc w r) := by
  obtain ⟨cs, rfl, _⟩ := okWide_struct Try.underlying50 hv
  obtain ⟨fuel, hf⟩ := h
  obtain ⟨r, e, hI⟩ := cells_oc hf
  refine ⟨r, ?_, Lib.hid hI⟩
  have e' : cs.toList = [.int .i64 r.kind, .string r.v.s.m.name, .slice r.v.A r.v.s.m.ts.length r.v.c, .int .i64 r.v.s.tm, .int .i64 r.v.s.sn, .int .i64 r.gen, .int .i64 r.now, .bool r.rb] := e
  rw [← Array.toArray_toList (xs := cs), e']
set_option maxRecDepth 100000 in
theorem open_seats {r : Reach} {b0 : Nat} {v : Value} {d : DataW H} {p : List MemPlace} (hv : Value.okWide Try.prog w r b0 58 v) (h : DataW.Trod enc Try.prog w base spare held 58 v d p) :
    ∃ (A : Option Addr) (l : List Sa) (cap : Nat), v = .slice A l.length cap ∧ Hid (RowsO saC 4 w A l) ∧ Hid (∀ r ∈ l, IsSa w r) ∧ l.length ≤ maxLen := by
  obtain ⟨a, len, c, rfl⟩ := okWide_slice Try.underlying58 hv
  obtain ⟨fuel, hf⟩ := h
  obtain ⟨A, l, cap, e, h1, h2, h3⟩ := open_rows saC (IsSa w) inhSa Try.underlying58 (k := 4) (by kernel_rfl) (by decide) (fun _ => rfl) (fun _ _ _ h => cells_sa h) hf
  have e' : [Value.slice a len c] = [Value.slice A l.length cap] := e
  exact ⟨A, l, cap, by injection e', Lib.hid h1, Lib.hid h2, h3⟩
set_option maxRecDepth 100000 in
theorem open_tops {r : Reach} {b0 : Nat} {v : Value} {d : DataW H} {p : List MemPlace} (hv : Value.okWide Try.prog w r b0 22 v) (h : DataW.Trod enc Try.prog w base spare held 22 v d p) :
    ∃ (A : Option Addr) (l : List Pt) (cap : Nat), v = .slice A l.length cap ∧ Hid (RowsO ptC 2 w A l) ∧ Hid (∀ r ∈ l, r.t.size ≤ maxLen ∧ (Lit.int .i64 r.n).wf = true) ∧ l.length ≤ maxLen := by
  obtain ⟨a, len, c, rfl⟩ := okWide_slice Try.underlying22 hv
  obtain ⟨fuel, hf⟩ := h
  obtain ⟨A, l, cap, e, h1, h2, h3⟩ := open_rows ptC (fun r => r.t.size ≤ maxLen ∧ (Lit.int .i64 r.n).wf = true) ⟨⟨#[]⟩, 0⟩ Try.underlying22 (k := 2) (by kernel_rfl) (by decide) (fun _ => rfl) (fun _ _ _ h => cells_topic h) hf
  have e' : [Value.slice a len c] = [Value.slice A l.length cap] := e
  exact ⟨A, l, cap, by injection e', Lib.hid h1, Lib.hid h2, h3⟩
set_option maxRecDepth 100000 in
theorem open_ints {r : Reach} {b0 : Nat} {v : Value} {d : DataW H} {p : List MemPlace} (hv : Value.okWide Try.prog w r b0 67 v) (h : DataW.Trod enc Try.prog w base spare held 67 v d p) :
    ∃ (A : Option Addr) (l : List Int) (cap : Nat), v = .slice A l.length cap ∧ Hid (RowsO numC 1 w A l) ∧ Hid (∀ r ∈ l, (Lit.int .i64 r).wf = true) ∧ l.length ≤ maxLen := by
  obtain ⟨a, len, c, rfl⟩ := okWide_slice Try.underlying67 hv
  obtain ⟨fuel, hf⟩ := h
  obtain ⟨A, l, cap, e, h1, h2, h3⟩ := open_rows numC (fun r => (Lit.int .i64 r).wf = true) 0 Try.underlying67 (k := 1) (by kernel_rfl) (by decide) (fun _ => rfl) (fun _ _ _ h => cells_num h) hf
  have e' : [Value.slice a len c] = [Value.slice A l.length cap] := e
  exact ⟨A, l, cap, by injection e', Lib.hid h1, Lib.hid h2, h3⟩
end
end Go.Proofs.Ytidgifnnkaheeaa.L11
