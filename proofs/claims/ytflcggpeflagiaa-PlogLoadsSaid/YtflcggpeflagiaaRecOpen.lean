/-
  Arguments that are records, and batches: what they are.
-/
import Derived.Test.YtflcggpeflagiaaMRecAll
import Derived.WalkKit
import Derived.ProofKit
import Derived.OpenShut
import Derived.ChangeOld
import Derived.Lib.SmallJoins
import Derived.Deep.Slices
namespace Go.Proofs.Ytflcggpeflagiaa.L3
open Go.ChangeShapes Go.WideShapes Go.RowKit Go.Deep

section
variable {H : Type} {enc : TypeId × Value → H} {w : World} {base : Nat} {spare : Nat → Bool} {held : Bool}

set_option maxRecDepth 100000 in
theorem cells_rec {n : Nat} {cs : List Value} {x : DataW H × List MemPlace} (h : DataW.trod enc Try.prog w base spare held n 41 cs = some x) :
    ∃ (hk : Bool) (k : ByteArray) (tb : Bool) (v : ByteArray), cs = [.bool hk, .string k, .bool tb, .string v] ∧ k.size ≤ maxLen ∧ v.size ≤ maxLen := by
  obtain ⟨xs, m, _, _, hl, hxl, hf⟩ := DataW.trod_struct Try.underlying41 h
  have hl4 : cs.length = 4 := hl.trans (by kernel_rfl)
  have hx4 : xs.length = 4 := hxl
  match cs, hl4 with
  | [c0, c1, c2, c3], _ =>
    match xs, hx4 with
    | [y0, y1, y2, y3], _ =>
      have f0 : DataW.trod enc Try.prog w base spare held m 4 (([c0, c1, c2, c3].drop 0).take (Try.prog.cellsOf 4)) = some y0 := hf 0 _ rfl
      have f1 : DataW.trod enc Try.prog w base spare held m 9 (([c0, c1, c2, c3].drop 1).take (Try.prog.cellsOf 9)) = some y1 := hf 1 _ rfl
      have f2 : DataW.trod enc Try.prog w base spare held m 4 (([c0, c1, c2, c3].drop 2).take (Try.prog.cellsOf 4)) = some y2 := hf 2 _ rfl
      have f3 : DataW.trod enc Try.prog w base spare held m 9 (([c0, c1, c2, c3].drop 3).take (Try.prog.cellsOf 9)) = some y3 := hf 3 _ rfl
      have z4 : Try.prog.cellsOf 4 = 1 := by kernel_rfl
      have z9 : Try.prog.cellsOf 9 = 1 := by kernel_rfl
      rw [z4] at f0 f2
      rw [z9] at f1 f3
      obtain ⟨hk, e0, _⟩ := DataW.trod_bool Try.underlying4 f0
      obtain ⟨k, e1, _, hk1⟩ := DataW.trod_string Try.underlying9 f1
      obtain ⟨tb, e2, _⟩ := DataW.trod_bool Try.underlying4 f2
      obtain ⟨v, e3, _, hv1⟩ := DataW.trod_string Try.underlying9 f3
      simp at e0 e1 e2 e3
      subst e0 e1 e2 e3
      exact ⟨hk, k, tb, v, rfl, hk1, hv1⟩

set_option maxRecDepth 100000 in
theorem open_rec {r : Reach} {b0 : Nat} {v : Value} {d : DataW H} {p : List MemPlace} (hv : Value.okWide Try.prog w r b0 41 v) (h : DataW.Trod enc Try.prog w base spare held 41 v d p) :
    ∃ (hk : Bool) (k : ByteArray) (tb : Bool) (u : ByteArray), v = .agg #[.bool hk, .string k, .bool tb, .string u] ∧ k.size ≤ maxLen ∧ u.size ≤ maxLen := by
  obtain ⟨cs, rfl, _⟩ := okWide_struct Try.underlying41 hv
  obtain ⟨fuel, hf⟩ := h
  obtain ⟨hk, k, tb, u, e, h1, h2⟩ := cells_rec hf
  refine ⟨hk, k, tb, u, ?_, h1, h2⟩
  have e' : cs.toList = [.bool hk, .string k, .bool tb, .string u] := e
  rw [← Array.toArray_toList (xs := cs), e']

/-- what a slice of records that came in holds -/
def IsRecs (w : World) (A : Option Addr) (l : List R) : Prop := Hid (ReadsO w w.heap.size A l) ∧ Hid (∀ r ∈ l, r.key.size ≤ maxLen ∧ r.val.size ≤ maxLen) ∧ l.length ≤ maxLen

set_option maxRecDepth 100000 in
theorem cells_recs {n : Nat} {cs : List Value} {x : DataW H × List MemPlace} (h : DataW.trod enc Try.prog w base spare held n 30 cs = some x) :
    ∃ (A : Option Addr) (l : List R) (cap : Nat), cs = [.slice A l.length cap] ∧ IsRecs w A l := by
  rcases open_slice Try.underlying30 h with ⟨rfl, _⟩ | ⟨a, len, cap, m, n', D, Pl, rfl, _, hl, hm, hmm, _, hi⟩
  · exact ⟨none, [], 0, rfl, Lib.hid (fun h0 => absurd h0 (by simp)), Lib.hid (fun r hr => by simp at hr), by simp⟩
  · have hle : len ≤ m := by rw [hmm]; split <;> omega
    have z23 : Try.prog.cellsOf 41 = 4 := by kernel_rfl
    rw [z23] at hi
    have hrec : ∀ i, ∃ r : R, i < len → (r.key.size ≤ maxLen ∧ r.val.size ≤ maxLen) ∧ ∀ j, j < 4 → w.cell? (a.add (i * 4 + j)) = [Value.bool r.hk, .string r.key, .bool r.tb, .string r.val][j]? := by
      intro i
      by_cases him : i < len
      · obtain ⟨cs', hc, ht⟩ := hi i (by omega)
        obtain ⟨hk, k, tb, v, e, h1, h2⟩ := cells_rec ht
        obtain ⟨_, _, hcell⟩ := World.cells?_some hc
        refine ⟨⟨hk, k, tb, v⟩, fun _ => ⟨⟨h1, h2⟩, fun j hj => ?_⟩⟩
        rw [← Addr.add_add, hcell j hj, e]
      · exact ⟨R.zero, fun h => absurd h him⟩
    obtain ⟨f, hf⟩ := Classical.axiomOfChoice hrec
    have hlen : ((List.range len).map f).length = len := by simp
    refine ⟨some a, (List.range len).map f, cap, by rw [hlen], Lib.hid (fun h0 => ?_), Lib.hid (fun r hr => ?_), by rw [hlen]; omega⟩
    · rw [hlen] at h0
      have c0 := (hf 0 h0).2 0 (by omega)
      have hsp : a.spot = none := by
        have : w.cell? a = some (.bool (f 0).hk) := by simpa [Addr.add] using c0
        unfold World.cell? at this
        split at this
        · split at this
          · cases this
          · rename_i hsp
            cases hs : a.spot with
            | none => rfl
            | some _ => rw [hs] at hsp; simp at hsp
        · cases this
      obtain ⟨g, o, sp⟩ := a
      have hsp' : sp = none := hsp
      subst hsp'
      have hadd : ∀ j, (⟨g, o, none⟩ : Addr).add j = ⟨g, o + j, none⟩ := fun j => by unfold Addr.add; split <;> simp_all
      have hg : g < w.heap.size := World.block_lt_of_cell? w _ (by simpa [Addr.add] using c0 : w.cell? ⟨g, o, none⟩ = some _)
      refine ⟨g, o, rfl, hg, fun i r hr => ?_⟩
      have hir : i < len ∧ f i = r := by
        have h1 := (List.getElem?_eq_some_iff.1 hr).1
        rw [hlen] at h1
        refine ⟨h1, ?_⟩
        have h2 : ((List.range len).map f)[i]? = some (f i) := by simp [h1]
        rw [h2] at hr
        exact Option.some.inj hr
      obtain ⟨him, rfl⟩ := hir
      have q := (hf i him).2
      have q0 := q 0 (by omega)
      have q1 := q 1 (by omega)
      have q2 := q 2 (by omega)
      have q3 := q 3 (by omega)
      rw [hadd] at q0 q1 q2 q3
      simp only [Nat.add_zero, ← Nat.add_assoc] at q0 q1 q2 q3
      exact ⟨q0, q1, q2, q3⟩
    · simp only [List.mem_map, List.mem_range] at hr
      obtain ⟨i, hi, rfl⟩ := hr
      exact (hf i hi).1

set_option maxRecDepth 100000 in
theorem open_batch {r : Reach} {b0 : Nat} {v : Value} {d : DataW H} {p : List MemPlace} (hv : Value.okWide Try.prog w r b0 60 v) (h : DataW.Trod enc Try.prog w base spare held 60 v d p) :
    ∃ (x y z : Int) (A : Option Addr) (l : List R) (cap : Nat), v = .agg #[.int .i64 x, .int .i64 y, .int .i64 z, .slice A l.length cap] ∧ IsRecs w A l := by
  obtain ⟨cs, rfl, _⟩ := okWide_struct Try.underlying60 hv
  obtain ⟨fuel, hf⟩ := h
  obtain ⟨xs, m, _, _, hl, hxl, hg⟩ := DataW.trod_struct Try.underlying60 hf
  have hl4 : cs.toList.length = 4 := hl.trans (by kernel_rfl)
  have hx4 : xs.length = 4 := hxl
  obtain ⟨c⟩ := cs
  match c, hl4 with
  | [c0, c1, c2, c3], _ =>
    match xs, hx4 with
    | [y0, y1, y2, y3], _ =>
      have f0 : DataW.trod enc Try.prog w base spare held m 3 (([c0, c1, c2, c3].drop 0).take (Try.prog.cellsOf 3)) = some y0 := hg 0 _ rfl
      have f1 : DataW.trod enc Try.prog w base spare held m 3 (([c0, c1, c2, c3].drop 1).take (Try.prog.cellsOf 3)) = some y1 := hg 1 _ rfl
      have f2 : DataW.trod enc Try.prog w base spare held m 3 (([c0, c1, c2, c3].drop 2).take (Try.prog.cellsOf 3)) = some y2 := hg 2 _ rfl
      have f3 : DataW.trod enc Try.prog w base spare held m 30 (([c0, c1, c2, c3].drop 3).take (Try.prog.cellsOf 30)) = some y3 := hg 3 _ rfl
      have z3 : Try.prog.cellsOf 3 = 1 := by kernel_rfl
      have z24 : Try.prog.cellsOf 30 = 1 := by kernel_rfl
      rw [z3] at f0 f1 f2
      rw [z24] at f3
      obtain ⟨x, e0, _⟩ := DataW.trod_int Try.underlying3 f0
      obtain ⟨y, e1, _⟩ := DataW.trod_int Try.underlying3 f1
      obtain ⟨z, e2, _⟩ := DataW.trod_int Try.underlying3 f2
      obtain ⟨A, l, cap, e3, hR⟩ := cells_recs f3
      simp at e0 e1 e2 e3
      subst e0 e1 e2 e3
      exact ⟨x, y, z, A, l, cap, rfl, hR⟩
end
end Go.Proofs.Ytflcggpeflagiaa.L3
