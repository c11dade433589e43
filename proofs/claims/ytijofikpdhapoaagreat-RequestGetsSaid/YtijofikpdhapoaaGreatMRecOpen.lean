/-
  Arguments that are records, and batches: what they are.
-/
import Derived.Test.YtijofikpdhapoaaGreatMRecAll
import Derived.WalkKit
import Derived.ProofKit
import Derived.OpenShut
import Derived.ChangeOld
import Derived.Lib.SmallJoins
import Derived.Deep.Slices
import Derived.Test.YtijofikpdhapoaaGreatReqCut
import Derived.Test.YtijofikpdhapoaaGreatReqAlike
namespace Go.Proofs.YtijofikpdhapoaaGreat.L3
open Go.ChangeShapes Go.WideShapes Go.RowKit Go.Deep

section
variable {H : Type} {enc : TypeId × Value → H} {w : World} {base : Nat} {spare : Nat → Bool} {held : Bool}

set_option maxRecDepth 100000 in
theorem cells_rec {n : Nat} {cs : List Value} {x : DataW H × List MemPlace} (h : DataW.trod enc Tryz.prog w base spare held n 35 cs = some x) :
    ∃ (hk : Bool) (k : ByteArray) (tb : Bool) (v : ByteArray), cs = [.bool hk, .string k, .bool tb, .string v] ∧ k.size ≤ maxLen ∧ v.size ≤ maxLen := by
  obtain ⟨xs, m, _, _, hl, hxl, hf⟩ := DataW.trod_struct Tryz.underlying35 h
  have hl4 : cs.length = 4 := hl.trans (by kernel_rfl)
  have hx4 : xs.length = 4 := hxl
  match cs, hl4 with
  | [c0, c1, c2, c3], _ =>
    match xs, hx4 with
    | [y0, y1, y2, y3], _ =>
      have f0 : DataW.trod enc Tryz.prog w base spare held m 4 (([c0, c1, c2, c3].drop 0).take (Tryz.prog.cellsOf 4)) = some y0 := hf 0 _ rfl
      have f1 : DataW.trod enc Tryz.prog w base spare held m 9 (([c0, c1, c2, c3].drop 1).take (Tryz.prog.cellsOf 9)) = some y1 := hf 1 _ rfl
      have f2 : DataW.trod enc Tryz.prog w base spare held m 4 (([c0, c1, c2, c3].drop 2).take (Tryz.prog.cellsOf 4)) = some y2 := hf 2 _ rfl
      have f3 : DataW.trod enc Tryz.prog w base spare held m 9 (([c0, c1, c2, c3].drop 3).take (Tryz.prog.cellsOf 9)) = some y3 := hf 3 _ rfl
      have z4 : Tryz.prog.cellsOf 4 = 1 := by kernel_rfl
      have z9 : Tryz.prog.cellsOf 9 = 1 := by kernel_rfl
      rw [z4] at f0 f2
      rw [z9] at f1 f3
      obtain ⟨hk, e0, _⟩ := DataW.trod_bool Tryz.underlying4 f0
      obtain ⟨k, e1, _, hk1⟩ := DataW.trod_string Tryz.underlying9 f1
      obtain ⟨tb, e2, _⟩ := DataW.trod_bool Tryz.underlying4 f2
      obtain ⟨v, e3, _, hv1⟩ := DataW.trod_string Tryz.underlying9 f3
      simp at e0 e1 e2 e3
      subst e0 e1 e2 e3
      exact ⟨hk, k, tb, v, rfl, hk1, hv1⟩

set_option maxRecDepth 100000 in
theorem open_rec {r : Reach} {b0 : Nat} {v : Value} {d : DataW H} {p : List MemPlace} (hv : Value.okWide Tryz.prog w r b0 35 v) (h : DataW.Trod enc Tryz.prog w base spare held 35 v d p) :
    ∃ (hk : Bool) (k : ByteArray) (tb : Bool) (u : ByteArray), v = .agg #[.bool hk, .string k, .bool tb, .string u] ∧ k.size ≤ maxLen ∧ u.size ≤ maxLen := by
  obtain ⟨cs, rfl, _⟩ := okWide_struct Tryz.underlying35 hv
  obtain ⟨fuel, hf⟩ := h
  obtain ⟨hk, k, tb, u, e, h1, h2⟩ := cells_rec hf
  refine ⟨hk, k, tb, u, ?_, h1, h2⟩
  have e' : cs.toList = [.bool hk, .string k, .bool tb, .string u] := e
  rw [← Array.toArray_toList (xs := cs), e']

/-- what a slice of records that came in holds -/
def IsRecs (w : World) (A : Option Addr) (l : List R) : Prop := Hid (ReadsO w w.heap.size A l) ∧ Hid (∀ r ∈ l, r.key.size ≤ maxLen ∧ r.val.size ≤ maxLen) ∧ l.length ≤ maxLen

set_option maxRecDepth 100000 in
theorem cells_recs {n : Nat} {cs : List Value} {x : DataW H × List MemPlace} (h : DataW.trod enc Tryz.prog w base spare held n 24 cs = some x) :
    ∃ (A : Option Addr) (l : List R) (cap : Nat), cs = [.slice A l.length cap] ∧ IsRecs w A l := by
  rcases open_slice Tryz.underlying24 h with ⟨rfl, _⟩ | ⟨a, len, cap, m, n', D, Pl, rfl, _, hl, hm, hmm, _, hi⟩
  · exact ⟨none, [], 0, rfl, Lib.hid (fun h0 => absurd h0 (by simp)), Lib.hid (fun r hr => by simp at hr), by simp⟩
  · have hle : len ≤ m := by rw [hmm]; split <;> omega
    have z23 : Tryz.prog.cellsOf 35 = 4 := by kernel_rfl
    rw [z23] at hi
    have hrec : ∀ i, ∃ r : R, i < len → (r.key.size ≤ maxLen ∧ r.val.size ≤ maxLen) ∧ ∀ j, j < 4 → w.cell? (a.add (i * 4 + j)) = [Value.bool r.hk, .string r.key, .bool r.tb, .string r.val][j]? := by
      intro i
      by_cases him : i < len
      · obtain ⟨cs', hc, ht⟩ := hi i (by omega)
        obtain ⟨hk, k, tb, v, e, h1, h2⟩ := cells_rec ht
        obtain ⟨_, _, hcell⟩ := World.cells?_some hc
        refine ⟨⟨hk, k, tb, v⟩, fun _ => ⟨⟨h1, h2⟩, fun j hj => ?_⟩⟩
        rw [← Addr.add_add, hcell j hj, e]
      · exact ⟨R.zero, fun h => absurd h him⟩
    obtain ⟨f, hf⟩ := Classical.axiomOfChoice hrec
    have hlen : ((List.range len).map f).length = len := by simp
    refine ⟨some a, (List.range len).map f, cap, by rw [hlen], Lib.hid (fun h0 => ?_), Lib.hid (fun r hr => ?_), by rw [hlen]; omega⟩
    · rw [hlen] at h0
      have c0 := (hf 0 h0).2 0 (by omega)
      have hsp : a.spot = none := by
        have : w.cell? a = some (.bool (f 0).hk) := by simpa [Addr.add] using c0
        unfold World.cell? at this
        split at this
        · split at this
          · cases this
          · rename_i hsp
            cases hs : a.spot with
            | none => rfl
            | some _ => rw [hs] at hsp; simp at hsp
        · cases this
      obtain ⟨g, o, sp⟩ := a
      have hsp' : sp = none := hsp
      subst hsp'
      have hadd : ∀ j, (⟨g, o, none⟩ : Addr).add j = ⟨g, o + j, none⟩ := fun j => by unfold Addr.add; split <;> simp_all
      have hg : g < w.heap.size := World.block_lt_of_cell? w _ (by simpa [Addr.add] using c0 : w.cell? ⟨g, o, none⟩ = some _)
      refine ⟨g, o, rfl, hg, fun i r hr => ?_⟩
      have hir : i < len ∧ f i = r := by
        have h1 := (List.getElem?_eq_some_iff.1 hr).1
        rw [hlen] at h1
        refine ⟨h1, ?_⟩
        have h2 : ((List.range len).map f)[i]? = some (f i) := by simp [h1]
        rw [h2] at hr
        exact Option.some.inj hr
      obtain ⟨him, rfl⟩ := hir
      have q := (hf i him).2
      have q0 := q 0 (by omega)
      have q1 := q 1 (by omega)
      have q2 := q 2 (by omega)
      have q3 := q 3 (by omega)
      rw [hadd] at q0 q1 q2 q3
      simp only [Nat.add_zero, ← Nat.add_assoc] at q0 q1 q2 q3
      exact ⟨q0, q1, q2, q3⟩
    · simp only [List.mem_map, List.mem_range] at hr
      obtain ⟨i, hi, rfl⟩ := hr
      exact (hf i hi).1

set_option maxRecDepth 100000 in
theorem open_batch {r : Reach} {b0 : Nat} {v : Value} {d : DataW H} {p : List MemPlace} (hv : Value.okWide Tryz.prog w r b0 26 v) (h : DataW.Trod enc Tryz.prog w base spare held 26 v d p) :
    ∃ (x y z : Int) (A : Option Addr) (l : List R) (cap : Nat), v = .agg #[.int .i64 x, .int .i64 y, .int .i64 z, .slice A l.length cap] ∧ IsRecs w A l := by
  obtain ⟨cs, rfl, _⟩ := okWide_struct Tryz.underlying26 hv
  obtain ⟨fuel, hf⟩ := h
  obtain ⟨xs, m, _, _, hl, hxl, hg⟩ := DataW.trod_struct Tryz.underlying26 hf
  have hl4 : cs.toList.length = 4 := hl.trans (by kernel_rfl)
  have hx4 : xs.length = 4 := hxl
  obtain ⟨c⟩ := cs
  match c, hl4 with
  | [c0, c1, c2, c3], _ =>
    match xs, hx4 with
    | [y0, y1, y2, y3], _ =>
      have f0 : DataW.trod enc Tryz.prog w base spare held m 3 (([c0, c1, c2, c3].drop 0).take (Tryz.prog.cellsOf 3)) = some y0 := hg 0 _ rfl
      have f1 : DataW.trod enc Tryz.prog w base spare held m 3 (([c0, c1, c2, c3].drop 1).take (Tryz.prog.cellsOf 3)) = some y1 := hg 1 _ rfl
      have f2 : DataW.trod enc Tryz.prog w base spare held m 3 (([c0, c1, c2, c3].drop 2).take (Tryz.prog.cellsOf 3)) = some y2 := hg 2 _ rfl
      have f3 : DataW.trod enc Tryz.prog w base spare held m 24 (([c0, c1, c2, c3].drop 3).take (Tryz.prog.cellsOf 24)) = some y3 := hg 3 _ rfl
      have z3 : Tryz.prog.cellsOf 3 = 1 := by kernel_rfl
      have z24 : Tryz.prog.cellsOf 24 = 1 := by kernel_rfl
      rw [z3] at f0 f1 f2
      rw [z24] at f3
      obtain ⟨x, e0, _⟩ := DataW.trod_int Tryz.underlying3 f0
      obtain ⟨y, e1, _⟩ := DataW.trod_int Tryz.underlying3 f1
      obtain ⟨z, e2, _⟩ := DataW.trod_int Tryz.underlying3 f2
      obtain ⟨A, l, cap, e3, hR⟩ := cells_recs f3
      simp at e0 e1 e2 e3
      subst e0 e1 e2 e3
      exact ⟨x, y, z, A, l, cap, rfl, hR⟩
end
end Go.Proofs.YtijofikpdhapoaaGreat.L3
/-
  Arguments that are commands: what they are.
-/
namespace Go.Proofs.YtijofikpdhapoaaGreat.L4
open Go.ChangeShapes Go.WideShapes Go.RowKit Go.Deep
open L3

section
variable {H : Type} {enc : TypeId × Value → H} {w : World} {base : Nat} {spare : Nat → Bool} {held : Bool}

/-- what a slice of texts that came in holds -/
def IsTops (w : World) (A : Option Addr) (l : List ByteArray) : Prop := Hid (ReadsTO w w.heap.size A l) ∧ Hid (∀ s ∈ l, s.size ≤ maxLen) ∧ l.length ≤ maxLen

theorem spot_none {w : World} {a : Addr} {v : Value} (c0 : w.cell? a = some v) : a.spot = none := by
  unfold World.cell? at c0
  split at c0
  · split at c0
    · cases c0
    · rename_i hsp
      cases hs : a.spot with
      | none => rfl
      | some _ => rw [hs] at hsp; simp at hsp
  · cases c0

set_option maxRecDepth 100000 in
theorem cells_tops {n : Nat} {cs : List Value} {x : DataW H × List MemPlace} (h : DataW.trod enc Tryz.prog w base spare held n 27 cs = some x) :
    ∃ (A : Option Addr) (l : List ByteArray) (cap : Nat), cs = [.slice A l.length cap] ∧ IsTops w A l := by
  rcases open_slice Tryz.underlying27 h with ⟨rfl, _⟩ | ⟨a, len, cap, m, n', D, Pl, rfl, _, hl, hm, hmm, _, hi⟩
  · exact ⟨none, [], 0, rfl, Lib.hid (fun h0 => absurd h0 (by simp)), Lib.hid (fun r hr => by simp at hr), by simp⟩
  · have hle : len ≤ m := by rw [hmm]; split <;> omega
    have z9 : Tryz.prog.cellsOf 9 = 1 := by kernel_rfl
    rw [z9] at hi
    have hrec : ∀ i, ∃ r : ByteArray, i < len → r.size ≤ maxLen ∧ w.cell? (a.add i) = some (.string r) := by
      intro i
      by_cases him : i < len
      · obtain ⟨cs', hc, ht⟩ := hi i (by omega)
        obtain ⟨t, e, _, ht1⟩ := DataW.trod_string Tryz.underlying9 ht
        obtain ⟨_, _, hcell⟩ := World.cells?_some hc
        refine ⟨t, fun _ => ⟨ht1, ?_⟩⟩
        have := hcell 0 (by omega)
        rw [Addr.add_add, Nat.add_zero, e] at this
        simpa using this
      · exact ⟨⟨#[]⟩, fun h => absurd h him⟩
    obtain ⟨f, hf⟩ := Classical.axiomOfChoice hrec
    have hlen : ((List.range len).map f).length = len := by simp
    refine ⟨some a, (List.range len).map f, cap, by rw [hlen], Lib.hid (fun h0 => ?_), Lib.hid (fun r hr => ?_), by rw [hlen]; omega⟩
    · rw [hlen] at h0
      have c0 := (hf 0 h0).2
      have hsp : a.spot = none := spot_none (by simpa [Addr.add] using c0 : w.cell? a = some _)
      obtain ⟨g, o, sp⟩ := a
      have hsp' : sp = none := hsp
      subst hsp'
      have hadd : ∀ j, (⟨g, o, none⟩ : Addr).add j = ⟨g, o + j, none⟩ := fun j => by unfold Addr.add; split <;> simp_all
      have hg : g < w.heap.size := World.block_lt_of_cell? w _ (by simpa [Addr.add] using c0 : w.cell? ⟨g, o, none⟩ = some _)
      refine ⟨g, o, rfl, hg, fun i r hr => ?_⟩
      have hir : i < len ∧ f i = r := by
        have h1 := (List.getElem?_eq_some_iff.1 hr).1
        rw [hlen] at h1
        refine ⟨h1, ?_⟩
        have h2 : ((List.range len).map f)[i]? = some (f i) := by simp [h1]
        rw [h2] at hr
        exact Option.some.inj hr
      obtain ⟨him, rfl⟩ := hir
      have q := (hf i him).2
      rwa [hadd] at q
    · simp only [List.mem_map, List.mem_range] at hr
      obtain ⟨i, hi, rfl⟩ := hr
      exact (hf i hi).1

set_option maxRecDepth 100000 in
theorem cells_batch {n : Nat} {cs : List Value} {x : DataW H × List MemPlace} (h : DataW.trod enc Tryz.prog w base spare held n 26 cs = some x) :
    ∃ (x y z : Int) (A : Option Addr) (l : List R) (cap : Nat), cs = [.int .i64 x, .int .i64 y, .int .i64 z, .slice A l.length cap] ∧ IsRecs w A l := by
  obtain ⟨xs, m, _, _, hl, hxl, hg⟩ := DataW.trod_struct Tryz.underlying26 h
  have hl4 : cs.length = 4 := hl.trans (by kernel_rfl)
  have hx4 : xs.length = 4 := hxl
  match cs, hl4 with
  | [c0, c1, c2, c3], _ =>
    match xs, hx4 with
    | [y0, y1, y2, y3], _ =>
      have f0 : DataW.trod enc Tryz.prog w base spare held m 3 (([c0, c1, c2, c3].drop 0).take (Tryz.prog.cellsOf 3)) = some y0 := hg 0 _ rfl
      have f1 : DataW.trod enc Tryz.prog w base spare held m 3 (([c0, c1, c2, c3].drop 1).take (Tryz.prog.cellsOf 3)) = some y1 := hg 1 _ rfl
      have f2 : DataW.trod enc Tryz.prog w base spare held m 3 (([c0, c1, c2, c3].drop 2).take (Tryz.prog.cellsOf 3)) = some y2 := hg 2 _ rfl
      have f3 : DataW.trod enc Tryz.prog w base spare held m 24 (([c0, c1, c2, c3].drop 3).take (Tryz.prog.cellsOf 24)) = some y3 := hg 3 _ rfl
      have z3 : Tryz.prog.cellsOf 3 = 1 := by kernel_rfl
      have z24 : Tryz.prog.cellsOf 24 = 1 := by kernel_rfl
      rw [z3] at f0 f1 f2
      rw [z24] at f3
      obtain ⟨x, e0, _⟩ := DataW.trod_int Tryz.underlying3 f0
      obtain ⟨y, e1, _⟩ := DataW.trod_int Tryz.underlying3 f1
      obtain ⟨z, e2, _⟩ := DataW.trod_int Tryz.underlying3 f2
      obtain ⟨A, l, cap, e3, hR⟩ := cells_recs f3
      simp at e0 e1 e2 e3
      subst e0 e1 e2 e3
      exact ⟨x, y, z, A, l, cap, rfl, hR⟩
set_option maxRecDepth 100000 in
theorem cells_part {n : Nat} {cs : List Value} {x : DataW H × List MemPlace} (h : DataW.trod enc Tryz.prog w base spare held n 23 cs = some x) :
    ∃ (t : ByteArray) (k : Int), cs = [.string t, .int .i64 k] ∧ t.size ≤ maxLen := by
  obtain ⟨xs, m, _, _, hl, hxl, hg⟩ := DataW.trod_struct Tryz.underlying23 h
  have hl4 : cs.length = 2 := hl.trans (by kernel_rfl)
  have hx4 : xs.length = 2 := hxl
  match cs, hl4 with
  | [c0, c1], _ =>
    match xs, hx4 with
    | [y0, y1], _ =>
      have f0 : DataW.trod enc Tryz.prog w base spare held m 9 (([c0, c1].drop 0).take (Tryz.prog.cellsOf 9)) = some y0 := hg 0 _ rfl
      have f1 : DataW.trod enc Tryz.prog w base spare held m 3 (([c0, c1].drop 1).take (Tryz.prog.cellsOf 3)) = some y1 := hg 1 _ rfl
      have z3 : Tryz.prog.cellsOf 3 = 1 := by kernel_rfl
      have z9 : Tryz.prog.cellsOf 9 = 1 := by kernel_rfl
      rw [z9] at f0
      rw [z3] at f1
      obtain ⟨t, e0, _, ht⟩ := DataW.trod_string Tryz.underlying9 f0
      obtain ⟨k, e1, _⟩ := DataW.trod_int Tryz.underlying3 f1
      simp at e0 e1
      subst e0 e1
      exact ⟨t, k, rfl, ht⟩

set_option maxRecDepth 100000 in
theorem open_op {r : Reach} {b0 : Nat} {v : Value} {d : DataW H} {p : List MemPlace} (hv : Value.okWide Tryz.prog w r b0 29 v) (h : DataW.Trod enc Tryz.prog w base spare held 29 v d p) :
    ∃ (kind : Int) (topic : ByteArray) (pn n off bp be bq : Int) (RA : Option Addr) (recs : List R) (rc : Nat) (group member : ByteArray) (gen : Int) (robin : Bool) (TA : Option Addr) (tops : List ByteArray) (tc : Nat),
      v = .agg #[.int .i64 kind, .string topic, .int .i64 pn, .int .i64 n, .int .i64 off, .int .i64 bp, .int .i64 be, .int .i64 bq, .slice RA recs.length rc, .string group, .string member, .int .i64 gen, .bool robin, .slice TA tops.length tc] ∧
      IsRecs w RA recs ∧ IsTops w TA tops ∧ Hid (topic.size ≤ maxLen) ∧ Hid (group.size ≤ maxLen) ∧ Hid (member.size ≤ maxLen) := by
  obtain ⟨cs, rfl, _⟩ := okWide_struct Tryz.underlying29 hv
  obtain ⟨fuel, hf⟩ := h
  obtain ⟨xs, m, _, _, hl, hxl, hg⟩ := DataW.trod_struct Tryz.underlying29 hf
  have hl4 : cs.toList.length = 14 := hl.trans (by kernel_rfl)
  have hx4 : xs.length = 10 := hxl
  obtain ⟨c⟩ := cs
  match c, hl4 with
  | [c0, c1, c2, c3, c4, c5, c6, c7, c8, c9, c10, c11, c12, c13], _ =>
    match xs, hx4 with
    | [y0, y1, y2, y3, y4, y5, y6, y7, y8, y9], _ =>
      have z3 : Tryz.prog.cellsOf 3 = 1 := by kernel_rfl
      have z9 : Tryz.prog.cellsOf 9 = 1 := by kernel_rfl
      have z4 : Tryz.prog.cellsOf 4 = 1 := by kernel_rfl
      have z23 : Tryz.prog.cellsOf 23 = 2 := by kernel_rfl
      have z26 : Tryz.prog.cellsOf 26 = 4 := by kernel_rfl
      have z27 : Tryz.prog.cellsOf 27 = 1 := by kernel_rfl
      have f0 : DataW.trod enc Tryz.prog w base spare held m 3 (([c0, c1, c2, c3, c4, c5, c6, c7, c8, c9, c10, c11, c12, c13].drop 0).take (Tryz.prog.cellsOf 3)) = some y0 := hg 0 _ rfl
      have f1 : DataW.trod enc Tryz.prog w base spare held m 23 (([c0, c1, c2, c3, c4, c5, c6, c7, c8, c9, c10, c11, c12, c13].drop 1).take (Tryz.prog.cellsOf 23)) = some y1 := hg 1 _ rfl
      have f2 : DataW.trod enc Tryz.prog w base spare held m 3 (([c0, c1, c2, c3, c4, c5, c6, c7, c8, c9, c10, c11, c12, c13].drop 3).take (Tryz.prog.cellsOf 3)) = some y2 := hg 2 _ rfl
      have f3 : DataW.trod enc Tryz.prog w base spare held m 3 (([c0, c1, c2, c3, c4, c5, c6, c7, c8, c9, c10, c11, c12, c13].drop 4).take (Tryz.prog.cellsOf 3)) = some y3 := hg 3 _ rfl
      have f4 : DataW.trod enc Tryz.prog w base spare held m 26 (([c0, c1, c2, c3, c4, c5, c6, c7, c8, c9, c10, c11, c12, c13].drop 5).take (Tryz.prog.cellsOf 26)) = some y4 := hg 4 _ rfl
      have f5 : DataW.trod enc Tryz.prog w base spare held m 9 (([c0, c1, c2, c3, c4, c5, c6, c7, c8, c9, c10, c11, c12, c13].drop 9).take (Tryz.prog.cellsOf 9)) = some y5 := hg 5 _ rfl
      have f6 : DataW.trod enc Tryz.prog w base spare held m 9 (([c0, c1, c2, c3, c4, c5, c6, c7, c8, c9, c10, c11, c12, c13].drop 10).take (Tryz.prog.cellsOf 9)) = some y6 := hg 6 _ rfl
      have f7 : DataW.trod enc Tryz.prog w base spare held m 3 (([c0, c1, c2, c3, c4, c5, c6, c7, c8, c9, c10, c11, c12, c13].drop 11).take (Tryz.prog.cellsOf 3)) = some y7 := hg 7 _ rfl
      have f8 : DataW.trod enc Tryz.prog w base spare held m 4 (([c0, c1, c2, c3, c4, c5, c6, c7, c8, c9, c10, c11, c12, c13].drop 12).take (Tryz.prog.cellsOf 4)) = some y8 := hg 8 _ rfl
      have f9 : DataW.trod enc Tryz.prog w base spare held m 27 (([c0, c1, c2, c3, c4, c5, c6, c7, c8, c9, c10, c11, c12, c13].drop 13).take (Tryz.prog.cellsOf 27)) = some y9 := hg 9 _ rfl
      rw [z3] at f0 f2 f3 f7
      rw [z9] at f5 f6
      rw [z4] at f8
      rw [z23] at f1
      rw [z26] at f4
      rw [z27] at f9
      obtain ⟨kind, e0, _⟩ := DataW.trod_int Tryz.underlying3 f0
      obtain ⟨topic, pn, e1, s1⟩ := cells_part f1
      obtain ⟨n, e2, _⟩ := DataW.trod_int Tryz.underlying3 f2
      obtain ⟨off, e3, _⟩ := DataW.trod_int Tryz.underlying3 f3
      obtain ⟨bp, be, bq, RA, recs, rc, e4, hR⟩ := cells_batch f4
      obtain ⟨group, e5, _, s5⟩ := DataW.trod_string Tryz.underlying9 f5
      obtain ⟨member, e6, _, s6⟩ := DataW.trod_string Tryz.underlying9 f6
      obtain ⟨gen, e7, _⟩ := DataW.trod_int Tryz.underlying3 f7
      obtain ⟨robin, e8, _⟩ := DataW.trod_bool Tryz.underlying4 f8
      obtain ⟨TA, tops, tc, e9, hT⟩ := cells_tops f9
      simp at e0 e1 e2 e3 e4 e5 e6 e7 e8 e9
      obtain ⟨e1a, e1b⟩ := e1
      obtain ⟨e4a, e4b, e4c, e4d⟩ := e4
      subst e0 e1a e1b e2 e3 e4a e4b e4c e4d e5 e6 e7 e8 e9
      exact ⟨kind, topic, pn, n, off, bp, be, bq, RA, recs, rc, group, member, gen, robin, TA, tops, tc, rfl, hR, hT, Lib.hid s1, Lib.hid s5, Lib.hid s6⟩
end
end Go.Proofs.YtijofikpdhapoaaGreat.L4
