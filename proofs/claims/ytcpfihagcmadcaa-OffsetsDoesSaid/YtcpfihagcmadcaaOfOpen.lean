/-
  Arguments of the laws on marks: what they are; a mark cut to forty bytes.
-/
import Derived.Test.YtcpfihagcmadcaaOfLoad
import Derived.WalkKit
import Derived.ProofKit
import Derived.OpenShut
import Derived.ChangeOld
import Derived.Lib.SmallJoins
import Derived.Deep.Slices
namespace Go.Proofs.Ytcpfihagcmadcaa.L12
open Go.ChangeShapes Go.WideShapes Go.RowKit Go.Deep
open L3 L4

theorem spot_none {w : World} {a : Addr} {v : Value} (c0 : w.cell? a = some v) : a.spot = none := by
  unfold World.cell? at c0
  split at c0
  · split at c0
    · cases c0
    · rename_i hsp
      cases hs : a.spot with
      | none => rfl
      | some _ => rw [hs] at hsp; simp at hsp
  · cases c0
/-- what any mark is that comes in -/
def SizeR (m : Mr) : Prop := m.g.size ≤ maxLen ∧ m.t.size ≤ maxLen ∧ (Lit.int .i64 m.p).wf = true ∧ (Lit.int .i64 m.o).wf = true
/-- a call of a script -/
structure Oc where
  kind : Int
  m : Mr
/-- a slice that came in, and reads so -/
def MarksO (w : World) (B : Nat) (A : Option Addr) (l : List Mr) : Prop :=
  0 < l.length → ∃ g o, A = some ⟨g, o, none⟩ ∧ g < B ∧ ∀ i r, l[i]? = some r → w.cell? ⟨g, o + i * 4, none⟩ = some (.string r.g) ∧ w.cell? ⟨g, o + i * 4 + 1, none⟩ = some (.string r.t) ∧ w.cell? ⟨g, o + i * 4 + 2, none⟩ = some (.int .i64 r.p) ∧ w.cell? ⟨g, o + i * 4 + 3, none⟩ = some (.int .i64 r.o)
def IsMarksA (w : World) (A : Option Addr) (l : List Mr) : Prop := Hid (MarksO w w.heap.size A l) ∧ Hid (∀ r ∈ l, SizeR r) ∧ l.length ≤ maxLen
/-- a slice that came in, and reads so -/
def OpsO (w : World) (B : Nat) (A : Option Addr) (l : List Oc) : Prop :=
  0 < l.length → ∃ g o, A = some ⟨g, o, none⟩ ∧ g < B ∧ ∀ i r, l[i]? = some r → w.cell? ⟨g, o + i * 5, none⟩ = some (.int .i64 r.kind) ∧ w.cell? ⟨g, o + i * 5 + 1, none⟩ = some (.string r.m.g) ∧ w.cell? ⟨g, o + i * 5 + 2, none⟩ = some (.string r.m.t) ∧ w.cell? ⟨g, o + i * 5 + 3, none⟩ = some (.int .i64 r.m.p) ∧ w.cell? ⟨g, o + i * 5 + 4, none⟩ = some (.int .i64 r.m.o)
def IsOps (w : World) (A : Option Addr) (l : List Oc) : Prop := Hid (OpsO w w.heap.size A l) ∧ Hid (∀ r ∈ l, SizeR r.m) ∧ l.length ≤ maxLen
section
variable {H : Type} {enc : TypeId × Value → H} {w : World} {base : Nat} {spare : Nat → Bool} {held : Bool}
theorem zi : Try.prog.cellsOf 3 = 1 := by kernel_rfl
theorem zs : Try.prog.cellsOf 9 = 1 := by kernel_rfl
set_option maxRecDepth 100000 in
theorem cells_part {n : Nat} {cs : List Value} {x : DataW H × List MemPlace} (h : DataW.trod enc Try.prog w base spare held n 30 cs = some x) : ∃ (t : ByteArray) (p : Int), cs = [.string t, .int .i64 p] ∧ t.size ≤ maxLen ∧ (Lit.int .i64 p).wf = true := by
  obtain ⟨xs, m, _, _, hl, hxl, hg⟩ := DataW.trod_struct Try.underlying30 h
  have hlc : cs.length = 2 := hl.trans (by kernel_rfl)
  have hxc : xs.length = 2 := hxl
  match cs, hlc with
  | [c0, c1], _ =>
    match xs, hxc with
    | [y0, y1], _ =>
      have f0 : DataW.trod enc Try.prog w base spare held m 9 (([c0, c1].drop 0).take (Try.prog.cellsOf 9)) = some y0 := hg 0 _ rfl
      have f1 : DataW.trod enc Try.prog w base spare held m 3 (([c0, c1].drop 1).take (Try.prog.cellsOf 3)) = some y1 := hg 1 _ rfl
      rw [zs] at f0
      rw [zi] at f1
      obtain ⟨t', e0, _, ht0⟩ := DataW.trod_string Try.underlying9 f0
      obtain ⟨n', e1, _, hw⟩ := DataW.trod_int Try.underlying3 f1
      simp at e0 e1
      subst e0 e1
      exact ⟨t', n', rfl, ht0, hw⟩
set_option maxRecDepth 100000 in
theorem cells_mark {n : Nat} {cs : List Value} {x : DataW H × List MemPlace} (h : DataW.trod enc Try.prog w base spare held n 32 cs = some x) : ∃ r : Mr, cs = [.string r.g, .string r.t, .int .i64 r.p, .int .i64 r.o] ∧ SizeR r := by
  obtain ⟨xs, m, _, _, hl, hxl, hg⟩ := DataW.trod_struct Try.underlying32 h
  have hlc : cs.length = 4 := hl.trans (by kernel_rfl)
  have hxc : xs.length = 3 := hxl
  have zp : Try.prog.cellsOf 30 = 2 := by kernel_rfl
  match cs, hlc with
  | [c0, c1, c2, c3], _ =>
    match xs, hxc with
    | [y0, y1, y2], _ =>
      have f0 : DataW.trod enc Try.prog w base spare held m 9 (([c0, c1, c2, c3].drop 0).take (Try.prog.cellsOf 9)) = some y0 := hg 0 _ rfl
      have f1 : DataW.trod enc Try.prog w base spare held m 30 (([c0, c1, c2, c3].drop 1).take (Try.prog.cellsOf 30)) = some y1 := hg 1 _ rfl
      have f2 : DataW.trod enc Try.prog w base spare held m 3 (([c0, c1, c2, c3].drop 3).take (Try.prog.cellsOf 3)) = some y2 := hg 2 _ rfl
      rw [zs] at f0
      rw [zp] at f1
      rw [zi] at f2
      obtain ⟨g', e0, _, ht0⟩ := DataW.trod_string Try.underlying9 f0
      obtain ⟨t', p', e1, ht1, hw1⟩ := cells_part f1
      obtain ⟨o', e2, _, hw2⟩ := DataW.trod_int Try.underlying3 f2
      simp at e0 e1 e2
      obtain ⟨rfl, rfl⟩ := e1
      subst e0 e2
      exact ⟨⟨g', t', p', o'⟩, rfl, ht0, ht1, hw1, hw2⟩
set_option maxRecDepth 100000 in
theorem cells_op {n : Nat} {cs : List Value} {x : DataW H × List MemPlace} (h : DataW.trod enc Try.prog w base spare held n 35 cs = some x) : ∃ r : Oc, cs = [.int .i64 r.kind, .string r.m.g, .string r.m.t, .int .i64 r.m.p, .int .i64 r.m.o] ∧ SizeR r.m := by
  obtain ⟨xs, m, _, _, hl, hxl, hg⟩ := DataW.trod_struct Try.underlying35 h
  have hlc : cs.length = 5 := hl.trans (by kernel_rfl)
  have hxc : xs.length = 2 := hxl
  have zm : Try.prog.cellsOf 32 = 4 := by kernel_rfl
  match cs, hlc with
  | [c0, c1, c2, c3, c4], _ =>
    match xs, hxc with
    | [y0, y1], _ =>
      have f0 : DataW.trod enc Try.prog w base spare held m 3 (([c0, c1, c2, c3, c4].drop 0).take (Try.prog.cellsOf 3)) = some y0 := hg 0 _ rfl
      have f1 : DataW.trod enc Try.prog w base spare held m 32 (([c0, c1, c2, c3, c4].drop 1).take (Try.prog.cellsOf 32)) = some y1 := hg 1 _ rfl
      rw [zi] at f0
      rw [zm] at f1
      obtain ⟨k', e0, _⟩ := DataW.trod_int Try.underlying3 f0
      obtain ⟨r', e1, hr⟩ := cells_mark f1
      simp at e0 e1
      obtain ⟨rfl, rfl, rfl, rfl⟩ := e1
      subst e0
      exact ⟨⟨k', r'⟩, rfl, hr⟩
set_option maxRecDepth 100000 in
theorem open_part {r : Reach} {b0 : Nat} {v : Value} {d : DataW H} {p : List MemPlace} (hv : Value.okWide Try.prog w r b0 30 v) (h : DataW.Trod enc Try.prog w base spare held 30 v d p) :
    ∃ (t : ByteArray) (n : Int), v = .agg #[.string t, .int .i64 n] ∧ Hid (t.size ≤ maxLen) ∧ Hid ((Lit.int .i64 n).wf = true) := by
  obtain ⟨cs, rfl, _⟩ := okWide_struct Try.underlying30 hv
  obtain ⟨fuel, hf⟩ := h
  obtain ⟨t, n, e, h1, h2⟩ := cells_part hf
  refine ⟨t, n, ?_, Lib.hid h1, Lib.hid h2⟩
  have e' : cs.toList = [.string t, .int .i64 n] := e
  rw [← Array.toArray_toList (xs := cs), e']
set_option maxRecDepth 100000 in
theorem open_mark {r : Reach} {b0 : Nat} {v : Value} {d : DataW H} {p : List MemPlace} (hv : Value.okWide Try.prog w r b0 32 v) (h : DataW.Trod enc Try.prog w base spare held 32 v d p) :
    ∃ (g t : ByteArray) (n o : Int), v = .agg #[.string g, .string t, .int .i64 n, .int .i64 o] ∧ Hid (SizeR ⟨g, t, n, o⟩) := by
  obtain ⟨cs, rfl, _⟩ := okWide_struct Try.underlying32 hv
  obtain ⟨fuel, hf⟩ := h
  obtain ⟨⟨g, t, n, o⟩, e, h1⟩ := cells_mark hf
  refine ⟨g, t, n, o, ?_, Lib.hid h1⟩
  have e' : cs.toList = [.string g, .string t, .int .i64 n, .int .i64 o] := e
  rw [← Array.toArray_toList (xs := cs), e']

set_option maxRecDepth 100000 in
theorem cells_marks {n : Nat} {cs : List Value} {x : DataW H × List MemPlace} (h : DataW.trod enc Try.prog w base spare held n 26 cs = some x) :
    ∃ (A : Option Addr) (l : List Mr) (cap : Nat), cs = [.slice A l.length cap] ∧ IsMarksA w A l := by
  rcases open_slice Try.underlying26 h with ⟨rfl, _⟩ | ⟨a, len, cap, m, n', D, Pl, rfl, _, hl, hm, hmm, _, hi⟩
  · exact ⟨none, [], 0, rfl, Lib.hid (fun h0 => absurd h0 (by simp)), Lib.hid (fun r hr => by simp at hr), by simp⟩
  · have hle : len ≤ m := by rw [hmm]; split <;> omega
    have zE : Try.prog.cellsOf 32 = 0 + 4 := by kernel_rfl
    rw [zE, Nat.zero_add] at hi
    have hrec : ∀ i, ∃ r : Mr, i < len → (SizeR r) ∧ ∀ j, j < 0 + 4 → w.cell? (a.add (i * (0 + 4) + j)) = [Value.string r.g, .string r.t, .int .i64 r.p, .int .i64 r.o][j]? := by
      intro i
      by_cases him : i < len
      · obtain ⟨cs', hc, ht⟩ := hi i (by omega)
        obtain ⟨c, e, h1⟩ := cells_mark ht
        obtain ⟨_, _, hcell⟩ := World.cells?_some hc
        refine ⟨c, fun _ => ⟨h1, fun j hj => ?_⟩⟩
        rw [Nat.zero_add] at hj ⊢
        rw [← Addr.add_add, hcell j hj, e]
      · exact ⟨⟨⟨#[]⟩, ⟨#[]⟩, 0, 0⟩, fun h => absurd h him⟩
    obtain ⟨f, hf⟩ := Classical.axiomOfChoice hrec
    have hlen : ((List.range len).map f).length = len := by simp
    refine ⟨some a, (List.range len).map f, cap, by rw [hlen], Lib.hid (fun h0 => ?_), Lib.hid (fun r hr => ?_), by rw [hlen]; omega⟩
    · rw [hlen] at h0
      have c0 := (hf 0 h0).2 0 (by omega)
      have hsp : a.spot = none := spot_none (by simpa [Addr.add] using c0 : w.cell? a = some _)
      obtain ⟨g, o, sp⟩ := a
      have hsp' : sp = none := hsp
      subst hsp'
      have hadd : ∀ j, (⟨g, o, none⟩ : Addr).add j = ⟨g, o + j, none⟩ := fun j => by unfold Addr.add; split <;> simp_all
      have hg : g < w.heap.size := World.block_lt_of_cell? w _ (by simpa [Addr.add] using c0 : w.cell? ⟨g, o, none⟩ = some _)
      refine ⟨g, o, rfl, hg, fun i r hr => ?_⟩
      have hir : i < len ∧ f i = r := by
        have h1 := (List.getElem?_eq_some_iff.1 hr).1
        rw [hlen] at h1
        refine ⟨h1, ?_⟩
        have h2 : ((List.range len).map f)[i]? = some (f i) := by simp [h1]
        rw [h2] at hr
        exact Option.some.inj hr
      obtain ⟨him, rfl⟩ := hir
      have q := (hf i him).2
      have q0 := q 0 (by omega); have q1 := q 1 (by omega); have q2 := q 2 (by omega); have q3 := q 3 (by omega);
      rw [hadd] at q0 q1 q2 q3
      simp only [Nat.add_zero, Nat.zero_add, ← Nat.add_assoc] at q0 q1 q2 q3
      exact ⟨q0, q1, q2, q3⟩
    · simp only [List.mem_map, List.mem_range] at hr
      obtain ⟨i, hi, rfl⟩ := hr
      exact (hf i hi).1

set_option maxRecDepth 100000 in
theorem cells_ops {n : Nat} {cs : List Value} {x : DataW H × List MemPlace} (h : DataW.trod enc Try.prog w base spare held n 22 cs = some x) :
    ∃ (A : Option Addr) (l : List Oc) (cap : Nat), cs = [.slice A l.length cap] ∧ IsOps w A l := by
  rcases open_slice Try.underlying22 h with ⟨rfl, _⟩ | ⟨a, len, cap, m, n', D, Pl, rfl, _, hl, hm, hmm, _, hi⟩
  · exact ⟨none, [], 0, rfl, Lib.hid (fun h0 => absurd h0 (by simp)), Lib.hid (fun r hr => by simp at hr), by simp⟩
  · have hle : len ≤ m := by rw [hmm]; split <;> omega
    have zE : Try.prog.cellsOf 35 = 0 + 5 := by kernel_rfl
    rw [zE, Nat.zero_add] at hi
    have hrec : ∀ i, ∃ r : Oc, i < len → (SizeR r.m) ∧ ∀ j, j < 0 + 5 → w.cell? (a.add (i * (0 + 5) + j)) = [Value.int .i64 r.kind, .string r.m.g, .string r.m.t, .int .i64 r.m.p, .int .i64 r.m.o][j]? := by
      intro i
      by_cases him : i < len
      · obtain ⟨cs', hc, ht⟩ := hi i (by omega)
        obtain ⟨c, e, h1⟩ := cells_op ht
        obtain ⟨_, _, hcell⟩ := World.cells?_some hc
        refine ⟨c, fun _ => ⟨h1, fun j hj => ?_⟩⟩
        rw [Nat.zero_add] at hj ⊢
        rw [← Addr.add_add, hcell j hj, e]
      · exact ⟨⟨0, ⟨⟨#[]⟩, ⟨#[]⟩, 0, 0⟩⟩, fun h => absurd h him⟩
    obtain ⟨f, hf⟩ := Classical.axiomOfChoice hrec
    have hlen : ((List.range len).map f).length = len := by simp
    refine ⟨some a, (List.range len).map f, cap, by rw [hlen], Lib.hid (fun h0 => ?_), Lib.hid (fun r hr => ?_), by rw [hlen]; omega⟩
    · rw [hlen] at h0
      have c0 := (hf 0 h0).2 0 (by omega)
      have hsp : a.spot = none := spot_none (by simpa [Addr.add] using c0 : w.cell? a = some _)
      obtain ⟨g, o, sp⟩ := a
      have hsp' : sp = none := hsp
      subst hsp'
      have hadd : ∀ j, (⟨g, o, none⟩ : Addr).add j = ⟨g, o + j, none⟩ := fun j => by unfold Addr.add; split <;> simp_all
      have hg : g < w.heap.size := World.block_lt_of_cell? w _ (by simpa [Addr.add] using c0 : w.cell? ⟨g, o, none⟩ = some _)
      refine ⟨g, o, rfl, hg, fun i r hr => ?_⟩
      have hir : i < len ∧ f i = r := by
        have h1 := (List.getElem?_eq_some_iff.1 hr).1
        rw [hlen] at h1
        refine ⟨h1, ?_⟩
        have h2 : ((List.range len).map f)[i]? = some (f i) := by simp [h1]
        rw [h2] at hr
        exact Option.some.inj hr
      obtain ⟨him, rfl⟩ := hir
      have q := (hf i him).2
      have q0 := q 0 (by omega); have q1 := q 1 (by omega); have q2 := q 2 (by omega); have q3 := q 3 (by omega); have q4 := q 4 (by omega);
      rw [hadd] at q0 q1 q2 q3 q4
      simp only [Nat.add_zero, Nat.zero_add, ← Nat.add_assoc] at q0 q1 q2 q3 q4
      exact ⟨q0, q1, q2, q3, q4⟩
    · simp only [List.mem_map, List.mem_range] at hr
      obtain ⟨i, hi, rfl⟩ := hr
      exact (hf i hi).1

set_option maxRecDepth 100000 in
theorem open_marks {r : Reach} {b0 : Nat} {v : Value} {d : DataW H} {p : List MemPlace} (hv : Value.okWide Try.prog w r b0 26 v) (h : DataW.Trod enc Try.prog w base spare held 26 v d p) :
    ∃ (A : Option Addr) (l : List Mr) (cap : Nat), v = .slice A l.length cap ∧ IsMarksA w A l := by
  obtain ⟨a, len, c, rfl⟩ := okWide_slice Try.underlying26 hv
  obtain ⟨fuel, hf⟩ := h
  obtain ⟨A, l, cap, e, hI⟩ := cells_marks hf
  have e' : [Value.slice a len c] = [Value.slice A l.length cap] := e
  exact ⟨A, l, cap, by injection e', hI⟩
set_option maxRecDepth 100000 in
theorem open_ops {r : Reach} {b0 : Nat} {v : Value} {d : DataW H} {p : List MemPlace} (hv : Value.okWide Try.prog w r b0 22 v) (h : DataW.Trod enc Try.prog w base spare held 22 v d p) :
    ∃ (A : Option Addr) (l : List Oc) (cap : Nat), v = .slice A l.length cap ∧ IsOps w A l := by
  obtain ⟨a, len, c, rfl⟩ := okWide_slice Try.underlying22 hv
  obtain ⟨fuel, hf⟩ := h
  obtain ⟨A, l, cap, e, hI⟩ := cells_ops hf
  have e' : [Value.slice a len c] = [Value.slice A l.length cap] := e
  exact ⟨A, l, cap, by injection e', hI⟩
end
/-- a text of at most forty bytes -/
def cutB (s : ByteArray) : ByteArray := s.extract 0 (min (s.size : Int) 40).toNat
theorem cutB_size (s : ByteArray) : (cutB s).size ≤ 40 := by unfold cutB; rw [ByteArray.size_extract]; omega
def cutM (m : Mr) : Mr := ⟨cutB m.g, cutB m.t, m.p, m.o⟩
theorem cutM_size {m : Mr} (h : SizeR m) : SizeR (cutM m) := by
  have h1 := cutB_size m.g
  have h2 := cutB_size m.t
  exact ⟨by show (cutB m.g).size ≤ maxLen; unfold maxLen; omega, by show (cutB m.t).size ≤ maxLen; unfold maxLen; omega, h.2.2.1, h.2.2.2⟩
theorem set4 {w : World} {k : Nat} {a b c d x0 x1 x2 x3 : Value} {T : TypeId} (h : w.heap[k]? = some (.cells #[x0, x1, x2, x3] T (0, 0))) :
    ((((w.setCell ⟨k, 0, none⟩ a).setCell ⟨k, 1, none⟩ b).setCell ⟨k, 2, none⟩ c).setCell ⟨k, 3, none⟩ d).heap[k]? = some (.cells #[a, b, c, d] T (0, 0)) := by
  refine (heap_setCell_same _ _ 3 _ _ _ (heap_setCell_same _ _ 2 _ _ _ (heap_setCell_same _ _ 1 _ _ _ (heap_setCell_same _ _ 0 _ _ _ h)))).trans ?_
  simp only [List.setIfInBounds_toArray, List.set_cons_zero, List.set_cons_succ]
set_option maxRecDepth 100000 in
set_option maxHeartbeats 2000000 in
theorem cut_is (w : World) (g t c d : ByteArray) (p o : Int) (hg : g.size ≤ maxLen) (ht : t.size ≤ maxLen) (HC : Hid (cutB g = c)) (HD : Hid (cutB t = d)) : Calls Try.prog 6 #[.agg #[.string g, .string t, .int .i64 p, .int .i64 o]] w fun e w' => e = .returned (.agg #[.string c, .string d, .int .i64 p, .int .i64 o]) ∧ Below w.heap.size w w' := by
  unfold maxLen at hg ht
  have h0 : (0 : Int) ≤ min (g.size : Int) 40 := by omega
  have h1 : min (g.size : Int) 40 ≤ (g.size : Int) := by omega
  have h2 : (min (g.size : Int) 40).toNat ≤ g.size := by omega
  have k0 : (0 : Int) ≤ min (t.size : Int) 40 := by omega
  have k1 : min (t.size : Int) 40 ≤ (t.size : Int) := by omega
  have k2 : (min (t.size : Int) 40).toNat ≤ t.size := by omega
  have HC' : g.extract 0 (min (g.size : Int) 40).toNat = c := HC.out
  have HD' : t.extract 0 (min (t.size : Int) 40).toNat = d := HD.out
  obtain ⟨W, hW⟩ : ∃ W, (w.alloc (.cells #[.string g, .string t, .int .i64 p, .int .i64 o] 32)).alloc (.cells #[.string ⟨#[]⟩, .string ⟨#[]⟩, .int .i64 0, .int .i64 0] 32) = W := ⟨_, rfl⟩
  have hb1 := one_box' (w := w) (.cells #[.string g, .string t, .int .i64 p, .int .i64 o] 32)
  have hbW : Below w.heap.size w W := by rw [← hW]; exact hb1.alloc hb1.size _
  have hr : W.heap[w.heap.size]? = some (.cells #[.string g, .string t, .int .i64 p, .int .i64 o] 32 (0, 0)) := by
    rw [← hW]; exact (Below.heap_alloc _ _ _ (by simp)).trans (heap_alloc_new _ _)
  have hr2 : W.heap[w.heap.size + 1]? = some (.cells #[.string ⟨#[]⟩, .string ⟨#[]⟩, .int .i64 0, .int .i64 0] 32 (0, 0)) := by
    rw [← hW]
    have e1 : (w.alloc (.cells #[.string g, .string t, .int .i64 p, .int .i64 o] 32)).heap.size = w.heap.size + 1 := by simp
    rw [← e1]; exact heap_alloc_new _ _
  obtain ⟨b0, b1, b2, b3⟩ := row4 hr
  have f0 : ∀ i, W.frozen? ⟨w.heap.size, i, none⟩ = false := fun i => frozen_of_row _ _ _ _ _ hr
  have f00 := f0 0
  have HW := Lib.hid hW
  have HBW := Lib.hid hbW
  have HR := Lib.hid hr
  have HR2 := Lib.hid hr2
  clear hb1 hW hbW hr hr2 f0
  go_enter Try.func6, Try.ntmps6
  go_upto_region 1 with (fail)
  rw [HW.out]
  go_upto_region 2 with (fail)
  obtain ⟨W1, hW1⟩ : ∃ W1, W.setCell ⟨w.heap.size, 0, none⟩ (.string c) = W1 := ⟨_, rfl⟩
  have r1 := heap_setCell_same W w.heap.size 0 _ _ (.string c) HR.out
  have hb1 : Below w.heap.size w (W.setCell ⟨w.heap.size, 0, none⟩ (.string c)) := HBW.out.setCell (Nat.le_refl _) _
  have s1 := (Below.heap_setCell W ⟨w.heap.size, 0, none⟩ (.string c) (w.heap.size + 1) (by simp)).trans HR2.out
  rw [hW1] at r1 hb1 s1 ⊢
  obtain ⟨c0, c1, c2, c3⟩ := row4 r1
  have f10 := frozen_of_row W1 w.heap.size 1 _ _ r1
  have R1 := Lib.hid r1
  have B1 := Lib.hid hb1
  have S1 := Lib.hid s1
  clear r1 hb1 s1 hW1 b0 b1 b2 b3 f00
  go_upto_region 3 with (fail)
  obtain ⟨W2, hW2⟩ : ∃ W2, W1.setCell ⟨w.heap.size, 1, none⟩ (.string d) = W2 := ⟨_, rfl⟩
  have r2 := heap_setCell_same W1 w.heap.size 1 _ _ (.string d) R1.out
  have hb2 : Below w.heap.size w (W1.setCell ⟨w.heap.size, 1, none⟩ (.string d)) := B1.out.setCell (Nat.le_refl _) _
  have s2 := (Below.heap_setCell W1 ⟨w.heap.size, 1, none⟩ (.string d) (w.heap.size + 1) (by simp)).trans S1.out
  rw [hW2] at r2 hb2 s2 ⊢
  obtain ⟨e0, e1, e2, e3⟩ := row4 r2
  have B2 := Lib.hid hb2
  have S2 := Lib.hid s2
  clear r2 hb2 s2 hW2 c0 c1 c2 c3 f10
  have fz : ∀ i, W2.frozen? ⟨w.heap.size + 1, i, none⟩ = false := fun i => frozen_of_row _ _ _ _ _ S2.out
  have fz0 := fz 0; have fz1 := fz 1; have fz2 := fz 2; have fz3 := fz 3
  obtain ⟨x0, x1, x2, x3⟩ := row4 S2.out
  clear fz
  go_wp2_with fail
  refine bodyPost_ret (v := .agg #[.string c, .string d, .int .i64 p, .int .i64 o]) (results_cell_row (p := 2) (ty := 32) Try.results6 _ _ (w.heap.size + 1) 32 #[.string c, .string d, .int .i64 p, .int .i64 o] (0, 0) _ rfl (set4 S2.out) Try.underlying32 rfl (by kernel_rfl)) rfl ?_
  exact ⟨rfl, (((B2.out.setCell (by simp) _).setCell (by simp) _).setCell (by simp) _).setCell (by simp) _⟩
end Go.Proofs.Ytcpfihagcmadcaa.L12
