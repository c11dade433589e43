/-
  Arguments of the laws on who reads what: what they are.
-/
import Derived.Test.YthongbobopampaaAsMem
import Derived.WalkKit
import Derived.ProofKit
import Derived.OpenShut
import Derived.ChangeOld
import Derived.Lib.SmallJoins
import Derived.Deep.Slices
namespace Go.Proofs.Ythongbobopampaa.L10
open Go.ChangeShapes Go.WideShapes Go.RowKit Go.Deep
open L3 L4 L9

theorem spot_no {w : World} {a : Addr} {v : Value} (c0 : w.cell? a = some v) : a.spot = none := by
  unfold World.cell? at c0
  split at c0
  · split at c0
    · cases c0
    · rename_i hsp
      cases hs : a.spot with
      | none => rfl
      | some _ => rw [hs] at hsp; simp at hsp
  · cases c0
/-- rows that came in -/
def RowsO {α : Type} (row : α → List Value) (k : Nat) (w : World) (A : Option Addr) (l : List α) : Prop :=
  0 < l.length → ∃ g o, A = some ⟨g, o, none⟩ ∧ g < w.heap.size ∧ ∀ i r, l[i]? = some r → ∀ j u, (row r)[j]? = some u → w.cell? ⟨g, o + i * k + j, none⟩ = some u
section
variable {H : Type} {enc : TypeId × Value → H} {w : World} {base : Nat} {spare : Nat → Bool} {held : Bool}
theorem open_rows {α : Type} {T E : TypeId} {k : Nat} (row : α → List Value) (P : α → Prop) (inh : α) (hT : Try.prog.underlying T = some (.slice E)) (zE : Try.prog.cellsOf E = k) (hk : 0 < k)
    (hrow : ∀ a, (row a).length = k) (hopen : ∀ n cs (x : DataW H × List MemPlace), DataW.trod enc Try.prog w base spare held n E cs = some x → ∃ a, cs = row a ∧ P a)
    {n : Nat} {cs : List Value} {x : DataW H × List MemPlace} (h : DataW.trod enc Try.prog w base spare held n T cs = some x) :
    ∃ (A : Option Addr) (l : List α) (cap : Nat), cs = [.slice A l.length cap] ∧ RowsO row k w A l ∧ (∀ r ∈ l, P r) ∧ l.length ≤ maxLen := by
  rcases open_slice hT h with ⟨rfl, _⟩ | ⟨a, len, cap, m, n', D, Pl, rfl, _, hl, hm, hmm, _, hi⟩
  · exact ⟨none, [], 0, rfl, fun h0 => absurd h0 (by simp), fun r hr => by simp at hr, by simp⟩
  · have hle : len ≤ m := by rw [hmm]; split <;> omega
    rw [zE] at hi
    have hrec : ∀ i, ∃ r : α, i < len → P r ∧ ∀ j, j < k → w.cell? (a.add (i * k + j)) = (row r)[j]? := by
      intro i
      by_cases him : i < len
      · obtain ⟨cs', hc, ht⟩ := hi i (by omega)
        obtain ⟨c, e, h1⟩ := hopen _ _ _ ht
        obtain ⟨_, _, hcell⟩ := World.cells?_some hc
        refine ⟨c, fun _ => ⟨h1, fun j hj => ?_⟩⟩
        rw [← Addr.add_add, hcell j hj, e]
      · exact ⟨inh, fun h => absurd h him⟩
    obtain ⟨f, hf⟩ := Classical.axiomOfChoice hrec
    have hlen : ((List.range len).map f).length = len := by simp
    refine ⟨some a, (List.range len).map f, cap, by rw [hlen], fun h0 => ?_, fun r hr => ?_, by rw [hlen]; omega⟩
    · rw [hlen] at h0
      have c0 := (hf 0 h0).2 0 hk
      rw [List.getElem?_eq_getElem (by rw [hrow]; exact hk)] at c0
      have hsp : a.spot = none := spot_no (by simpa [Addr.add] using c0 : w.cell? a = some _)
      obtain ⟨g, o, sp⟩ := a
      have hsp' : sp = none := hsp
      subst hsp'
      have hadd : ∀ j, (⟨g, o, none⟩ : Addr).add j = ⟨g, o + j, none⟩ := fun j => by unfold Addr.add; split <;> simp_all
      have hg : g < w.heap.size := World.block_lt_of_cell? w _ (by simpa [Addr.add] using c0 : w.cell? ⟨g, o, none⟩ = some _)
      refine ⟨g, o, rfl, hg, fun i r hr j u hu => ?_⟩
      have hir : i < len ∧ f i = r := by
        have h1 := (List.getElem?_eq_some_iff.1 hr).1
        rw [hlen] at h1
        refine ⟨h1, ?_⟩
        have h2 : ((List.range len).map f)[i]? = some (f i) := by simp [h1]
        rw [h2] at hr
        exact Option.some.inj hr
      obtain ⟨him, rfl⟩ := hir
      have hj : j < k := by have := (List.getElem?_eq_some_iff.1 hu).1; rwa [hrow] at this
      have q := (hf i him).2 j hj
      rw [hadd, hu, ← Nat.add_assoc] at q
      exact q
    · simp only [List.mem_map, List.mem_range] at hr
      obtain ⟨i, hi, rfl⟩ := hr
      exact (hf i hi).1
/-- a member that came in: where its topics lie -/
structure Me where
  m : Mb
  A : Option Addr
  c : Nat
def strC (s : ByteArray) : List Value := [.string s]
def meC (v : Me) : List Value := [.string v.m.name, .slice v.A v.m.ts.length v.c]
set_option maxRecDepth 100000 in
theorem cells_topic {n : Nat} {cs : List Value} {x : DataW H × List MemPlace} (h : DataW.trod enc Try.prog w base spare held n 44 cs = some x) :
    ∃ r : Pt, cs = ptC r ∧ (r.t.size ≤ maxLen ∧ (Lit.int .i64 r.n).wf = true) := by
  obtain ⟨xs, m, _, _, hl, hxl, hg⟩ := DataW.trod_struct Try.underlying44 h
  have hlc : cs.length = 2 := hl.trans (by kernel_rfl)
  have hxc : xs.length = 2 := hxl
  match cs, hlc with
  | [c0, c1], _ =>
    match xs, hxc with
    | [y0, y1], _ =>
      have f0 : DataW.trod enc Try.prog w base spare held m 9 (([c0, c1].drop 0).take (Try.prog.cellsOf 9)) = some y0 := hg 0 _ rfl
      have f1 : DataW.trod enc Try.prog w base spare held m 3 (([c0, c1].drop 1).take (Try.prog.cellsOf 3)) = some y1 := hg 1 _ rfl
      have zi : Try.prog.cellsOf 3 = 1 := by kernel_rfl
      have zs : Try.prog.cellsOf 9 = 1 := by kernel_rfl
      rw [zs] at f0
      rw [zi] at f1
      obtain ⟨t', e0, _, ht0⟩ := DataW.trod_string Try.underlying9 f0
      obtain ⟨n', e1, hw1⟩ := DataW.trod_int Try.underlying3 f1
      simp at e0 e1
      subst e0 e1
      exact ⟨⟨t', n'⟩, rfl, ht0, hw1.2⟩
theorem cells_str {n : Nat} {cs : List Value} {x : DataW H × List MemPlace} (h : DataW.trod enc Try.prog w base spare held n 9 cs = some x) : ∃ s : ByteArray, cs = strC s ∧ s.size ≤ maxLen := by
  obtain ⟨t', e0, _, ht0⟩ := DataW.trod_string Try.underlying9 h
  exact ⟨t', e0, ht0⟩
def IsMe (w : World) (v : Me) : Prop := v.m.name.size ≤ maxLen ∧ RowsO strC 1 w v.A v.m.ts ∧ (∀ s ∈ v.m.ts, s.size ≤ maxLen) ∧ v.m.ts.length ≤ maxLen
set_option maxRecDepth 100000 in
theorem cells_me {n : Nat} {cs : List Value} {x : DataW H × List MemPlace} (h : DataW.trod enc Try.prog w base spare held n 40 cs = some x) : ∃ v : Me, cs = meC v ∧ IsMe w v := by
  obtain ⟨xs, m, _, _, hl, hxl, hg⟩ := DataW.trod_struct Try.underlying40 h
  have hlc : cs.length = 2 := hl.trans (by kernel_rfl)
  have hxc : xs.length = 2 := hxl
  match cs, hlc with
  | [c0, c1], _ =>
    match xs, hxc with
    | [y0, y1], _ =>
      have f0 : DataW.trod enc Try.prog w base spare held m 9 (([c0, c1].drop 0).take (Try.prog.cellsOf 9)) = some y0 := hg 0 _ rfl
      have f1 : DataW.trod enc Try.prog w base spare held m 38 (([c0, c1].drop 1).take (Try.prog.cellsOf 38)) = some y1 := hg 1 _ rfl
      have zs : Try.prog.cellsOf 9 = 1 := by kernel_rfl
      have zl : Try.prog.cellsOf 38 = 1 := by kernel_rfl
      rw [zs] at f0
      rw [zl] at f1
      obtain ⟨t', e0, h0⟩ := cells_str f0
      obtain ⟨A, l, cap, e1, h1, h2, h3⟩ := open_rows strC (fun s => s.size ≤ maxLen) ⟨#[]⟩ Try.underlying38 zs (by decide) (fun _ => rfl) (fun _ _ _ h => cells_str h) f1
      simp [strC] at e0 e1
      subst e0 e1
      exact ⟨⟨⟨t', l⟩, A, cap⟩, rfl, h0, h1, h2, h3⟩
/-- topics and members that came in -/
def IsAsk (w : World) (A Am : Option Addr) (l : List Pt) (ms : List Me) : Prop :=
  Hid (RowsO ptC 2 w A l) ∧ Hid (∀ r ∈ l, r.t.size ≤ maxLen ∧ (Lit.int .i64 r.n).wf = true) ∧ l.length ≤ maxLen ∧ Hid (RowsO meC 2 w Am ms) ∧ Hid (∀ v ∈ ms, IsMe w v) ∧ ms.length ≤ maxLen
set_option maxRecDepth 100000 in
theorem cells_ask {n : Nat} {cs : List Value} {x : DataW H × List MemPlace} (h : DataW.trod enc Try.prog w base spare held n 25 cs = some x) :
    ∃ (A Am : Option Addr) (l : List Pt) (ms : List Me) (c cm : Nat), cs = [.slice A l.length c, .slice Am ms.length cm] ∧ IsAsk w A Am l ms := by
  obtain ⟨xs, m, _, _, hl, hxl, hg⟩ := DataW.trod_struct Try.underlying25 h
  have hlc : cs.length = 2 := hl.trans (by kernel_rfl)
  have hxc : xs.length = 2 := hxl
  match cs, hlc with
  | [c0, c1], _ =>
    match xs, hxc with
    | [y0, y1], _ =>
      have f0 : DataW.trod enc Try.prog w base spare held m 22 (([c0, c1].drop 0).take (Try.prog.cellsOf 22)) = some y0 := hg 0 _ rfl
      have f1 : DataW.trod enc Try.prog w base spare held m 23 (([c0, c1].drop 1).take (Try.prog.cellsOf 23)) = some y1 := hg 1 _ rfl
      have zs : Try.prog.cellsOf 22 = 1 := by kernel_rfl
      have zl : Try.prog.cellsOf 23 = 1 := by kernel_rfl
      rw [zs] at f0
      rw [zl] at f1
      obtain ⟨A, l, c, e0, h1, h2, h3⟩ := open_rows ptC (fun r => r.t.size ≤ maxLen ∧ (Lit.int .i64 r.n).wf = true) ⟨⟨#[]⟩, 0⟩ Try.underlying22 (k := 2) (by kernel_rfl) (by decide) (fun _ => rfl) (fun _ _ _ h => cells_topic h) f0
      obtain ⟨Am, ms, cm, e1, k1, k2, k3⟩ := open_rows meC (IsMe w) ⟨⟨⟨#[]⟩, []⟩, none, 0⟩ Try.underlying23 (k := 2) (by kernel_rfl) (by decide) (fun _ => rfl) (fun _ _ _ h => cells_me h) f1
      simp at e0 e1
      subst e0 e1
      exact ⟨A, Am, l, ms, c, cm, rfl, Lib.hid h1, Lib.hid h2, h3, Lib.hid k1, Lib.hid k2, k3⟩
set_option maxRecDepth 100000 in
theorem open_ask {r : Reach} {b0 : Nat} {v : Value} {d : DataW H} {p : List MemPlace} (hv : Value.okWide Try.prog w r b0 25 v) (h : DataW.Trod enc Try.prog w base spare held 25 v d p) :
    ∃ (A Am : Option Addr) (l : List Pt) (ms : List Me) (c cm : Nat), v = .agg #[.slice A l.length c, .slice Am ms.length cm] ∧ IsAsk w A Am l ms := by
  obtain ⟨cs, rfl, _⟩ := okWide_struct Try.underlying25 hv
  obtain ⟨fuel, hf⟩ := h
  obtain ⟨A, Am, l, ms, c, cm, e, hI⟩ := cells_ask hf
  refine ⟨A, Am, l, ms, c, cm, ?_, hI⟩
  have e' : cs.toList = [.slice A l.length c, .slice Am ms.length cm] := e
  rw [← Array.toArray_toList (xs := cs), e']
set_option maxRecDepth 100000 in
theorem cells_pt {n : Nat} {cs : List Value} {x : DataW H × List MemPlace} (h : DataW.trod enc Try.prog w base spare held n 27 cs = some x) :
    ∃ (t : ByteArray) (p : Int), cs = [.string t, .int .i64 p] ∧ t.size ≤ maxLen ∧ (Lit.int .i64 p).wf = true := by
  obtain ⟨xs, m, _, _, hl, hxl, hg⟩ := DataW.trod_struct Try.underlying27 h
  have hl2 : cs.length = 2 := hl.trans (by kernel_rfl)
  have hx2 : xs.length = 2 := hxl
  match cs, hl2 with
  | [c0, c1], _ =>
    match xs, hx2 with
    | [y0, y1], _ =>
      have f0 : DataW.trod enc Try.prog w base spare held m 9 (([c0, c1].drop 0).take (Try.prog.cellsOf 9)) = some y0 := hg 0 _ rfl
      have f1 : DataW.trod enc Try.prog w base spare held m 3 (([c0, c1].drop 1).take (Try.prog.cellsOf 3)) = some y1 := hg 1 _ rfl
      have zi : Try.prog.cellsOf 3 = 1 := by kernel_rfl
      have zs : Try.prog.cellsOf 9 = 1 := by kernel_rfl
      rw [zs] at f0
      rw [zi] at f1
      obtain ⟨t, e0, _, h0⟩ := DataW.trod_string Try.underlying9 f0
      obtain ⟨p, e1, _, hw⟩ := DataW.trod_int Try.underlying3 f1
      simp at e0 e1
      subst e0 e1
      exact ⟨t, p, rfl, h0, hw⟩
set_option maxRecDepth 100000 in
/-- a partition that came in -/
theorem open_pt {r : Reach} {b0 : Nat} {v : Value} {d : DataW H} {p : List MemPlace} (hv : Value.okWide Try.prog w r b0 27 v) (h : DataW.Trod enc Try.prog w base spare held 27 v d p) :
    ∃ (t : ByteArray) (n : Int), v = .agg #[.string t, .int .i64 n] ∧ t.size ≤ maxLen ∧ (Lit.int .i64 n).wf = true := by
  obtain ⟨cs, rfl, _⟩ := okWide_struct Try.underlying27 hv
  obtain ⟨fuel, hf⟩ := h
  obtain ⟨t, n, e, hI⟩ := cells_pt hf
  refine ⟨t, n, ?_, hI⟩
  have e' : cs.toList = [.string t, .int .i64 n] := e
  rw [← Array.toArray_toList (xs := cs), e']
end
end Go.Proofs.Ythongbobopampaa.L10
