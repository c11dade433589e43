/-
  Arguments of the laws on topics: what they are.
-/
import Derived.Test.YtohfbmgonjkhhaaTpFixed
import Derived.WalkKit
import Derived.ProofKit
import Derived.OpenShut
import Derived.ChangeOld
import Derived.Lib.SmallJoins
import Derived.Deep.Slices
namespace Go.Proofs.Ytohfbmgonjkhhaa.L9
open Go.ChangeShapes Go.WideShapes Go.RowKit Go.Deep
open L3 L4

theorem spot_no {w : World} {a : Addr} {v : Value} (c0 : w.cell? a = some v) : a.spot = none := by
  unfold World.cell? at c0
  split at c0
  · split at c0
    · cases c0
    · rename_i hsp
      cases hs : a.spot with
      | none => rfl
      | some _ => rw [hs] at hsp; simp at hsp
  · cases c0
/-- a call of a script -/
structure Op where
  kind : Int
  s : ByteArray
  n : Int
/-- a slice that came in, and reads so -/
def TopicsO (w : World) (B : Nat) (A : Option Addr) (l : List Pt) : Prop :=
  0 < l.length → ∃ g o, A = some ⟨g, o, none⟩ ∧ g < B ∧ ∀ i r, l[i]? = some r → w.cell? ⟨g, o + i * 2, none⟩ = some (.string r.t) ∧ w.cell? ⟨g, o + i * 2 + 1, none⟩ = some (.int .i64 r.n)
def IsTopics (w : World) (A : Option Addr) (l : List Pt) : Prop := Hid (TopicsO w w.heap.size A l) ∧ Hid (∀ r ∈ l, r.t.size ≤ maxLen) ∧ l.length ≤ maxLen
/-- a slice that came in, and reads so -/
def TextsO (w : World) (B : Nat) (A : Option Addr) (l : List ByteArray) : Prop :=
  0 < l.length → ∃ g o, A = some ⟨g, o, none⟩ ∧ g < B ∧ ∀ i r, l[i]? = some r → w.cell? ⟨g, o + i, none⟩ = some (.string r)
def IsTexts (w : World) (A : Option Addr) (l : List ByteArray) : Prop := Hid (TextsO w w.heap.size A l) ∧ Hid (∀ r ∈ l, r.size ≤ maxLen) ∧ l.length ≤ maxLen
/-- a slice that came in, and reads so -/
def OpsO (w : World) (B : Nat) (A : Option Addr) (l : List Op) : Prop :=
  0 < l.length → ∃ g o, A = some ⟨g, o, none⟩ ∧ g < B ∧ ∀ i r, l[i]? = some r → w.cell? ⟨g, o + i * 3, none⟩ = some (.int .i64 r.kind) ∧ w.cell? ⟨g, o + i * 3 + 1, none⟩ = some (.string r.s) ∧ w.cell? ⟨g, o + i * 3 + 2, none⟩ = some (.int .i64 r.n)
def IsOps (w : World) (A : Option Addr) (l : List Op) : Prop := Hid (OpsO w w.heap.size A l) ∧ Hid (∀ r ∈ l, r.s.size ≤ maxLen) ∧ l.length ≤ maxLen
section
variable {H : Type} {enc : TypeId × Value → H} {w : World} {base : Nat} {spare : Nat → Bool} {held : Bool}
set_option maxRecDepth 100000 in
theorem cells_topic {n : Nat} {cs : List Value} {x : DataW H × List MemPlace} (h : DataW.trod enc Try.prog w base spare held n 46 cs = some x) :
    ∃ r : Pt, cs = [.string r.t, .int .i64 r.n] ∧ r.t.size ≤ maxLen := by
  obtain ⟨xs, m, _, _, hl, hxl, hg⟩ := DataW.trod_struct Try.underlying46 h
  have hlc : cs.length = 2 := hl.trans (by kernel_rfl)
  have hxc : xs.length = 2 := hxl
  match cs, hlc with
  | [c0, c1], _ =>
    match xs, hxc with
    | [y0, y1], _ =>
      have f0 : DataW.trod enc Try.prog w base spare held m 9 (([c0, c1].drop 0).take (Try.prog.cellsOf 9)) = some y0 := hg 0 _ rfl
      have f1 : DataW.trod enc Try.prog w base spare held m 3 (([c0, c1].drop 1).take (Try.prog.cellsOf 3)) = some y1 := hg 1 _ rfl
      have zi : Try.prog.cellsOf 3 = 1 := by kernel_rfl
      have zs : Try.prog.cellsOf 9 = 1 := by kernel_rfl
      rw [zs] at f0
      rw [zi] at f1
      obtain ⟨t', e0, _, ht0⟩ := DataW.trod_string Try.underlying9 f0
      obtain ⟨n', e1, _⟩ := DataW.trod_int Try.underlying3 f1
      simp at e0 e1
      subst e0 e1
      exact ⟨⟨t', n'⟩, rfl, ht0⟩
set_option maxRecDepth 100000 in
theorem cells_topics {n : Nat} {cs : List Value} {x : DataW H × List MemPlace} (h : DataW.trod enc Try.prog w base spare held n 27 cs = some x) :
    ∃ (A : Option Addr) (l : List Pt) (cap : Nat), cs = [.slice A l.length cap] ∧ IsTopics w A l := by
  rcases open_slice Try.underlying27 h with ⟨rfl, _⟩ | ⟨a, len, cap, m, n', D, Pl, rfl, _, hl, hm, hmm, _, hi⟩
  · exact ⟨none, [], 0, rfl, Lib.hid (fun h0 => absurd h0 (by simp)), Lib.hid (fun r hr => by simp at hr), by simp⟩
  · have hle : len ≤ m := by rw [hmm]; split <;> omega
    have zE : Try.prog.cellsOf 46 = 0 + 2 := by kernel_rfl
    rw [zE, Nat.zero_add] at hi
    have hrec : ∀ i, ∃ r : Pt, i < len → (r.t.size ≤ maxLen) ∧ ∀ j, j < 0 + 2 → w.cell? (a.add (i * (0 + 2) + j)) = [Value.string r.t, Value.int .i64 r.n][j]? := by
      intro i
      by_cases him : i < len
      · obtain ⟨cs', hc, ht⟩ := hi i (by omega)
        obtain ⟨c, e, h1⟩ := cells_topic ht
        obtain ⟨_, _, hcell⟩ := World.cells?_some hc
        refine ⟨c, fun _ => ⟨h1, fun j hj => ?_⟩⟩
        rw [Nat.zero_add] at hj ⊢
        rw [← Addr.add_add, hcell j hj, e]
      · exact ⟨⟨⟨#[]⟩, 0⟩, fun h => absurd h him⟩
    obtain ⟨f, hf⟩ := Classical.axiomOfChoice hrec
    have hlen : ((List.range len).map f).length = len := by simp
    refine ⟨some a, (List.range len).map f, cap, by rw [hlen], Lib.hid (fun h0 => ?_), Lib.hid (fun r hr => ?_), by rw [hlen]; omega⟩
    · rw [hlen] at h0
      have c0 := (hf 0 h0).2 0 (by omega)
      have hsp : a.spot = none := spot_no (by simpa [Addr.add] using c0 : w.cell? a = some _)
      obtain ⟨g, o, sp⟩ := a
      have hsp' : sp = none := hsp
      subst hsp'
      have hadd : ∀ j, (⟨g, o, none⟩ : Addr).add j = ⟨g, o + j, none⟩ := fun j => by unfold Addr.add; split <;> simp_all
      have hg : g < w.heap.size := World.block_lt_of_cell? w _ (by simpa [Addr.add] using c0 : w.cell? ⟨g, o, none⟩ = some _)
      refine ⟨g, o, rfl, hg, fun i r hr => ?_⟩
      have hir : i < len ∧ f i = r := by
        have h1 := (List.getElem?_eq_some_iff.1 hr).1
        rw [hlen] at h1
        refine ⟨h1, ?_⟩
        have h2 : ((List.range len).map f)[i]? = some (f i) := by simp [h1]
        rw [h2] at hr
        exact Option.some.inj hr
      obtain ⟨him, rfl⟩ := hir
      have q := (hf i him).2
      have q0 := q 0 (by omega); have q1 := q 1 (by omega)
      rw [hadd] at q0 q1
      simp only [Nat.add_zero, Nat.zero_add, ← Nat.add_assoc] at q0 q1
      exact ⟨q0, q1⟩
    · simp only [List.mem_map, List.mem_range] at hr
      obtain ⟨i, hi, rfl⟩ := hr
      exact (hf i hi).1
set_option maxRecDepth 100000 in
theorem open_topics {r : Reach} {b0 : Nat} {v : Value} {d : DataW H} {p : List MemPlace} (hv : Value.okWide Try.prog w r b0 27 v) (h : DataW.Trod enc Try.prog w base spare held 27 v d p) :
    ∃ (A : Option Addr) (l : List Pt) (cap : Nat), v = .slice A l.length cap ∧ IsTopics w A l := by
  obtain ⟨a, len, c, rfl⟩ := okWide_slice Try.underlying27 hv
  obtain ⟨fuel, hf⟩ := h
  obtain ⟨A, l, cap, e, hI⟩ := cells_topics hf
  have e' : [Value.slice a len c] = [Value.slice A l.length cap] := e
  exact ⟨A, l, cap, by injection e', hI⟩
set_option maxRecDepth 100000 in
theorem cells_texts {n : Nat} {cs : List Value} {x : DataW H × List MemPlace} (h : DataW.trod enc Try.prog w base spare held n 23 cs = some x) :
    ∃ (A : Option Addr) (l : List ByteArray) (cap : Nat), cs = [.slice A l.length cap] ∧ IsTexts w A l := by
  rcases open_slice Try.underlying23 h with ⟨rfl, _⟩ | ⟨a, len, cap, m, n', D, Pl, rfl, _, hl, hm, hmm, _, hi⟩
  · exact ⟨none, [], 0, rfl, Lib.hid (fun h0 => absurd h0 (by simp)), Lib.hid (fun r hr => by simp at hr), by simp⟩
  · have hle : len ≤ m := by rw [hmm]; split <;> omega
    have z9 : Try.prog.cellsOf 9 = 1 := by kernel_rfl
    rw [z9] at hi
    have hrec : ∀ i, ∃ r : ByteArray, i < len → r.size ≤ maxLen ∧ w.cell? (a.add i) = some (.string r) := by
      intro i
      by_cases him : i < len
      · obtain ⟨cs', hc, ht⟩ := hi i (by omega)
        obtain ⟨t, e, _, ht1⟩ := DataW.trod_string Try.underlying9 ht
        obtain ⟨_, _, hcell⟩ := World.cells?_some hc
        refine ⟨t, fun _ => ⟨ht1, ?_⟩⟩
        have := hcell 0 (by omega)
        rw [Addr.add_add, Nat.add_zero, e] at this
        simpa using this
      · exact ⟨⟨#[]⟩, fun h => absurd h him⟩
    obtain ⟨f, hf⟩ := Classical.axiomOfChoice hrec
    have hlen : ((List.range len).map f).length = len := by simp
    refine ⟨some a, (List.range len).map f, cap, by rw [hlen], Lib.hid (fun h0 => ?_), Lib.hid (fun r hr => ?_), by rw [hlen]; omega⟩
    · rw [hlen] at h0
      have c0 := (hf 0 h0).2
      have hsp : a.spot = none := spot_no (by simpa [Addr.add] using c0 : w.cell? a = some _)
      obtain ⟨g, o, sp⟩ := a
      have hsp' : sp = none := hsp
      subst hsp'
      have hadd : ∀ j, (⟨g, o, none⟩ : Addr).add j = ⟨g, o + j, none⟩ := fun j => by unfold Addr.add; split <;> simp_all
      have hg : g < w.heap.size := World.block_lt_of_cell? w _ (by simpa [Addr.add] using c0 : w.cell? ⟨g, o, none⟩ = some _)
      refine ⟨g, o, rfl, hg, fun i r hr => ?_⟩
      have hir : i < len ∧ f i = r := by
        have h1 := (List.getElem?_eq_some_iff.1 hr).1
        rw [hlen] at h1
        refine ⟨h1, ?_⟩
        have h2 : ((List.range len).map f)[i]? = some (f i) := by simp [h1]
        rw [h2] at hr
        exact Option.some.inj hr
      obtain ⟨him, rfl⟩ := hir
      have q := (hf i him).2
      rwa [hadd] at q
    · simp only [List.mem_map, List.mem_range] at hr
      obtain ⟨i, hi, rfl⟩ := hr
      exact (hf i hi).1
set_option maxRecDepth 100000 in
theorem open_texts {r : Reach} {b0 : Nat} {v : Value} {d : DataW H} {p : List MemPlace} (hv : Value.okWide Try.prog w r b0 23 v) (h : DataW.Trod enc Try.prog w base spare held 23 v d p) :
    ∃ (A : Option Addr) (l : List ByteArray) (cap : Nat), v = .slice A l.length cap ∧ IsTexts w A l := by
  obtain ⟨a, len, c, rfl⟩ := okWide_slice Try.underlying23 hv
  obtain ⟨fuel, hf⟩ := h
  obtain ⟨A, l, cap, e, hI⟩ := cells_texts hf
  have e' : [Value.slice a len c] = [Value.slice A l.length cap] := e
  exact ⟨A, l, cap, by injection e', hI⟩
set_option maxRecDepth 100000 in
theorem cells_op {n : Nat} {cs : List Value} {x : DataW H × List MemPlace} (h : DataW.trod enc Try.prog w base spare held n 32 cs = some x) :
    ∃ r : Op, cs = [.int .i64 r.kind, .string r.s, .int .i64 r.n] ∧ r.s.size ≤ maxLen := by
  obtain ⟨xs, m, _, _, hl, hxl, hg⟩ := DataW.trod_struct Try.underlying32 h
  have hlc : cs.length = 3 := hl.trans (by kernel_rfl)
  have hxc : xs.length = 3 := hxl
  match cs, hlc with
  | [c0, c1, c2], _ =>
    match xs, hxc with
    | [y0, y1, y2], _ =>
      have f0 : DataW.trod enc Try.prog w base spare held m 3 (([c0, c1, c2].drop 0).take (Try.prog.cellsOf 3)) = some y0 := hg 0 _ rfl
      have f1 : DataW.trod enc Try.prog w base spare held m 9 (([c0, c1, c2].drop 1).take (Try.prog.cellsOf 9)) = some y1 := hg 1 _ rfl
      have f2 : DataW.trod enc Try.prog w base spare held m 3 (([c0, c1, c2].drop 2).take (Try.prog.cellsOf 3)) = some y2 := hg 2 _ rfl
      have zi : Try.prog.cellsOf 3 = 1 := by kernel_rfl
      have zs : Try.prog.cellsOf 9 = 1 := by kernel_rfl
      rw [zi] at f0
      rw [zs] at f1
      rw [zi] at f2
      obtain ⟨kind', e0, _⟩ := DataW.trod_int Try.underlying3 f0
      obtain ⟨s', e1, _, ht1⟩ := DataW.trod_string Try.underlying9 f1
      obtain ⟨n', e2, _⟩ := DataW.trod_int Try.underlying3 f2
      simp at e0 e1 e2
      subst e0 e1 e2
      exact ⟨⟨kind', s', n'⟩, rfl, ht1⟩
set_option maxRecDepth 100000 in
theorem cells_ops {n : Nat} {cs : List Value} {x : DataW H × List MemPlace} (h : DataW.trod enc Try.prog w base spare held n 22 cs = some x) :
    ∃ (A : Option Addr) (l : List Op) (cap : Nat), cs = [.slice A l.length cap] ∧ IsOps w A l := by
  rcases open_slice Try.underlying22 h with ⟨rfl, _⟩ | ⟨a, len, cap, m, n', D, Pl, rfl, _, hl, hm, hmm, _, hi⟩
  · exact ⟨none, [], 0, rfl, Lib.hid (fun h0 => absurd h0 (by simp)), Lib.hid (fun r hr => by simp at hr), by simp⟩
  · have hle : len ≤ m := by rw [hmm]; split <;> omega
    have zE : Try.prog.cellsOf 32 = 0 + 3 := by kernel_rfl
    rw [zE, Nat.zero_add] at hi
    have hrec : ∀ i, ∃ r : Op, i < len → (r.s.size ≤ maxLen) ∧ ∀ j, j < 0 + 3 → w.cell? (a.add (i * (0 + 3) + j)) = [Value.int .i64 r.kind, Value.string r.s, Value.int .i64 r.n][j]? := by
      intro i
      by_cases him : i < len
      · obtain ⟨cs', hc, ht⟩ := hi i (by omega)
        obtain ⟨c, e, h1⟩ := cells_op ht
        obtain ⟨_, _, hcell⟩ := World.cells?_some hc
        refine ⟨c, fun _ => ⟨h1, fun j hj => ?_⟩⟩
        rw [Nat.zero_add] at hj ⊢
        rw [← Addr.add_add, hcell j hj, e]
      · exact ⟨⟨0, ⟨#[]⟩, 0⟩, fun h => absurd h him⟩
    obtain ⟨f, hf⟩ := Classical.axiomOfChoice hrec
    have hlen : ((List.range len).map f).length = len := by simp
    refine ⟨some a, (List.range len).map f, cap, by rw [hlen], Lib.hid (fun h0 => ?_), Lib.hid (fun r hr => ?_), by rw [hlen]; omega⟩
    · rw [hlen] at h0
      have c0 := (hf 0 h0).2 0 (by omega)
      have hsp : a.spot = none := spot_no (by simpa [Addr.add] using c0 : w.cell? a = some _)
      obtain ⟨g, o, sp⟩ := a
      have hsp' : sp = none := hsp
      subst hsp'
      have hadd : ∀ j, (⟨g, o, none⟩ : Addr).add j = ⟨g, o + j, none⟩ := fun j => by unfold Addr.add; split <;> simp_all
      have hg : g < w.heap.size := World.block_lt_of_cell? w _ (by simpa [Addr.add] using c0 : w.cell? ⟨g, o, none⟩ = some _)
      refine ⟨g, o, rfl, hg, fun i r hr => ?_⟩
      have hir : i < len ∧ f i = r := by
        have h1 := (List.getElem?_eq_some_iff.1 hr).1
        rw [hlen] at h1
        refine ⟨h1, ?_⟩
        have h2 : ((List.range len).map f)[i]? = some (f i) := by simp [h1]
        rw [h2] at hr
        exact Option.some.inj hr
      obtain ⟨him, rfl⟩ := hir
      have q := (hf i him).2
      have q0 := q 0 (by omega); have q1 := q 1 (by omega); have q2 := q 2 (by omega)
      rw [hadd] at q0 q1 q2
      simp only [Nat.add_zero, Nat.zero_add, ← Nat.add_assoc] at q0 q1 q2
      exact ⟨q0, q1, q2⟩
    · simp only [List.mem_map, List.mem_range] at hr
      obtain ⟨i, hi, rfl⟩ := hr
      exact (hf i hi).1
set_option maxRecDepth 100000 in
theorem open_ops {r : Reach} {b0 : Nat} {v : Value} {d : DataW H} {p : List MemPlace} (hv : Value.okWide Try.prog w r b0 22 v) (h : DataW.Trod enc Try.prog w base spare held 22 v d p) :
    ∃ (A : Option Addr) (l : List Op) (cap : Nat), v = .slice A l.length cap ∧ IsOps w A l := by
  obtain ⟨a, len, c, rfl⟩ := okWide_slice Try.underlying22 hv
  obtain ⟨fuel, hf⟩ := h
  obtain ⟨A, l, cap, e, hI⟩ := cells_ops hf
  have e' : [Value.slice a len c] = [Value.slice A l.length cap] := e
  exact ⟨A, l, cap, by injection e', hI⟩
end
end Go.Proofs.Ytohfbmgonjkhhaa.L9
