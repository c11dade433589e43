/-
  Arguments that are replies: what they are.
-/
import Derived.Test.YtlhkhccpeohefaaMRecOpen
namespace Go.Proofs.Ytlhkhccpeohefaa.L4
open Go.ChangeShapes Go.WideShapes Go.RowKit Go.Deep
open L3

/-- a slice that came in, and reads so -/
def ReadsFO (w : World) (B : Nat) (A : Option Addr) (l : List Fd) : Prop :=
  0 < l.length → ∃ g o, A = some ⟨g, o, none⟩ ∧ g < B ∧ ∀ i r, l[i]? = some r → w.cell? ⟨g, o + i * 5, none⟩ = some (.int .i64 r.o) ∧ w.cell? ⟨g, o + i * 5 + 1, none⟩ = some (.bool r.r.hk) ∧ w.cell? ⟨g, o + i * 5 + 2, none⟩ = some (.string r.r.key) ∧ w.cell? ⟨g, o + i * 5 + 3, none⟩ = some (.bool r.r.tb) ∧ w.cell? ⟨g, o + i * 5 + 4, none⟩ = some (.string r.r.val)
theorem ReadsFO.below {w w' : World} {B : Nat} {A : Option Addr} {l : List Fd} (h : ReadsFO w B A l) (hb : Below B w w') : ReadsFO w' B A l := fun h0 => by
  obtain ⟨g, o, e, hg, hc⟩ := h h0
  exact ⟨g, o, e, hg, fun i r hr => ⟨(hb.cell (p := ⟨g, o + i * 5, none⟩) hg).trans (hc i r hr).1, (hb.cell (p := ⟨g, o + i * 5 + 1, none⟩) hg).trans (hc i r hr).2.1, (hb.cell (p := ⟨g, o + i * 5 + 2, none⟩) hg).trans (hc i r hr).2.2.1, (hb.cell (p := ⟨g, o + i * 5 + 3, none⟩) hg).trans (hc i r hr).2.2.2.1, (hb.cell (p := ⟨g, o + i * 5 + 4, none⟩) hg).trans (hc i r hr).2.2.2.2⟩⟩

/-- a slice that came in, and reads so -/
def ReadsPO (w : World) (B : Nat) (A : Option Addr) (l : List Pt) : Prop :=
  0 < l.length → ∃ g o, A = some ⟨g, o, none⟩ ∧ g < B ∧ ∀ i r, l[i]? = some r → w.cell? ⟨g, o + i * 2, none⟩ = some (.string r.t) ∧ w.cell? ⟨g, o + i * 2 + 1, none⟩ = some (.int .i64 r.n)
theorem ReadsPO.below {w w' : World} {B : Nat} {A : Option Addr} {l : List Pt} (h : ReadsPO w B A l) (hb : Below B w w') : ReadsPO w' B A l := fun h0 => by
  obtain ⟨g, o, e, hg, hc⟩ := h h0
  exact ⟨g, o, e, hg, fun i r hr => ⟨(hb.cell (p := ⟨g, o + i * 2, none⟩) hg).trans (hc i r hr).1, (hb.cell (p := ⟨g, o + i * 2 + 1, none⟩) hg).trans (hc i r hr).2⟩⟩

def IsFound (w : World) (A : Option Addr) (l : List Fd) : Prop := Hid (ReadsFO w w.heap.size A l) ∧ Hid (∀ f ∈ l, f.r.key.size ≤ maxLen ∧ f.r.val.size ≤ maxLen) ∧ l.length ≤ maxLen
def IsParts (w : World) (A : Option Addr) (l : List Pt) : Prop := Hid (ReadsPO w w.heap.size A l) ∧ Hid (∀ f ∈ l, f.t.size ≤ maxLen) ∧ l.length ≤ maxLen
section
variable {H : Type} {enc : TypeId × Value → H} {w : World} {base : Nat} {spare : Nat → Bool} {held : Bool}

set_option maxRecDepth 100000 in
theorem cells_found {n : Nat} {cs : List Value} {x : DataW H × List MemPlace} (h : DataW.trod enc Try.prog w base spare held n 78 cs = some x) :
    ∃ (off : Int) (hk : Bool) (k : ByteArray) (tb : Bool) (v : ByteArray), cs = [.int .i64 off, .bool hk, .string k, .bool tb, .string v] ∧ k.size ≤ maxLen ∧ v.size ≤ maxLen := by
  obtain ⟨xs, m, _, _, hl, hxl, hg⟩ := DataW.trod_struct Try.underlying78 h
  have hl5 : cs.length = 5 := hl.trans (by kernel_rfl)
  have hx2 : xs.length = 2 := hxl
  match cs, hl5 with
  | [c0, c1, c2, c3, c4], _ =>
    match xs, hx2 with
    | [y0, y1], _ =>
      have f0 : DataW.trod enc Try.prog w base spare held m 3 (([c0, c1, c2, c3, c4].drop 0).take (Try.prog.cellsOf 3)) = some y0 := hg 0 _ rfl
      have f1 : DataW.trod enc Try.prog w base spare held m 76 (([c0, c1, c2, c3, c4].drop 1).take (Try.prog.cellsOf 76)) = some y1 := hg 1 _ rfl
      have zi : Try.prog.cellsOf 3 = 1 := by kernel_rfl
      have zr : Try.prog.cellsOf 76 = 2 + 2 := by kernel_rfl
      rw [zi] at f0
      rw [zr] at f1
      obtain ⟨off, e0, _⟩ := DataW.trod_int Try.underlying3 f0
      obtain ⟨hk, k, tb, v, e1, h1, h2⟩ := cells_rec f1
      simp at e0 e1
      obtain ⟨ea, eb, ec, ed⟩ := e1
      subst e0 ea eb ec ed
      exact ⟨off, hk, k, tb, v, rfl, h1, h2⟩

set_option maxRecDepth 100000 in
theorem cells_founds {n : Nat} {cs : List Value} {x : DataW H × List MemPlace} (h : DataW.trod enc Try.prog w base spare held n 39 cs = some x) :
    ∃ (A : Option Addr) (l : List Fd) (cap : Nat), cs = [.slice A l.length cap] ∧ IsFound w A l := by
  rcases open_slice Try.underlying39 h with ⟨rfl, _⟩ | ⟨a, len, cap, m, n', D, Pl, rfl, _, hl, hm, hmm, _, hi⟩
  · exact ⟨none, [], 0, rfl, Lib.hid (fun h0 => absurd h0 (by simp)), Lib.hid (fun r hr => by simp at hr), by simp⟩
  · have hle : len ≤ m := by rw [hmm]; split <;> omega
    have zE : Try.prog.cellsOf 78 = 0 + 5 := by kernel_rfl
    rw [zE, Nat.zero_add] at hi
    have hrec : ∀ i, ∃ r : Fd, i < len → (r.r.key.size ≤ maxLen ∧ r.r.val.size ≤ maxLen) ∧ ∀ j, j < 0 + 5 → w.cell? (a.add (i * (0 + 5) + j)) = [Value.int .i64 r.o, .bool r.r.hk, .string r.r.key, .bool r.r.tb, .string r.r.val][j]? := by
      intro i
      by_cases him : i < len
      · obtain ⟨cs', hc, ht⟩ := hi i (by omega)
        obtain ⟨off, hk, k, tb, v, e, h1, h2⟩ := cells_found ht
        obtain ⟨_, _, hcell⟩ := World.cells?_some hc
        refine ⟨⟨off, ⟨hk, k, tb, v⟩⟩, fun _ => ⟨⟨h1, h2⟩, fun j hj => ?_⟩⟩
        rw [Nat.zero_add] at hj ⊢
        rw [← Addr.add_add, hcell j hj, e]
      · exact ⟨⟨0, R.zero⟩, fun h => absurd h him⟩
    obtain ⟨f, hf⟩ := Classical.axiomOfChoice hrec
    have hlen : ((List.range len).map f).length = len := by simp
    refine ⟨some a, (List.range len).map f, cap, by rw [hlen], Lib.hid (fun h0 => ?_), Lib.hid (fun r hr => ?_), by rw [hlen]; omega⟩
    · rw [hlen] at h0
      have c0 := (hf 0 h0).2 0 (by omega)
      have hsp : a.spot = none := spot_none (by simpa [Addr.add] using c0 : w.cell? a = some _)
      obtain ⟨g, o, sp⟩ := a
      have hsp' : sp = none := hsp
      subst hsp'
      have hadd : ∀ j, (⟨g, o, none⟩ : Addr).add j = ⟨g, o + j, none⟩ := fun j => by unfold Addr.add; split <;> simp_all
      have hg : g < w.heap.size := World.block_lt_of_cell? w _ (by simpa [Addr.add] using c0 : w.cell? ⟨g, o, none⟩ = some _)
      refine ⟨g, o, rfl, hg, fun i r hr => ?_⟩
      have hir : i < len ∧ f i = r := by
        have h1 := (List.getElem?_eq_some_iff.1 hr).1
        rw [hlen] at h1
        refine ⟨h1, ?_⟩
        have h2 : ((List.range len).map f)[i]? = some (f i) := by simp [h1]
        rw [h2] at hr
        exact Option.some.inj hr
      obtain ⟨him, rfl⟩ := hir
      have q := (hf i him).2
      have q0 := q 0 (by omega); have q1 := q 1 (by omega); have q2 := q 2 (by omega); have q3 := q 3 (by omega); have q4 := q 4 (by omega);
      rw [hadd] at q0 q1 q2 q3 q4
      simp only [Nat.add_zero, Nat.zero_add, ← Nat.add_assoc] at q0 q1 q2 q3 q4
      exact ⟨q0, q1, q2, q3, q4⟩
    · simp only [List.mem_map, List.mem_range] at hr
      obtain ⟨i, hi, rfl⟩ := hr
      exact (hf i hi).1

set_option maxRecDepth 100000 in
theorem cells_parts {n : Nat} {cs : List Value} {x : DataW H × List MemPlace} (h : DataW.trod enc Try.prog w base spare held n 40 cs = some x) :
    ∃ (A : Option Addr) (l : List Pt) (cap : Nat), cs = [.slice A l.length cap] ∧ IsParts w A l := by
  rcases open_slice Try.underlying40 h with ⟨rfl, _⟩ | ⟨a, len, cap, m, n', D, Pl, rfl, _, hl, hm, hmm, _, hi⟩
  · exact ⟨none, [], 0, rfl, Lib.hid (fun h0 => absurd h0 (by simp)), Lib.hid (fun r hr => by simp at hr), by simp⟩
  · have hle : len ≤ m := by rw [hmm]; split <;> omega
    have zE : Try.prog.cellsOf 23 = 0 + 2 := by kernel_rfl
    rw [zE, Nat.zero_add] at hi
    have hrec : ∀ i, ∃ r : Pt, i < len → (r.t.size ≤ maxLen) ∧ ∀ j, j < 0 + 2 → w.cell? (a.add (i * (0 + 2) + j)) = [Value.string r.t, .int .i64 r.n][j]? := by
      intro i
      by_cases him : i < len
      · obtain ⟨cs', hc, ht⟩ := hi i (by omega)
        obtain ⟨t, n, e, h1⟩ := cells_part ht
        obtain ⟨_, _, hcell⟩ := World.cells?_some hc
        refine ⟨⟨t, n⟩, fun _ => ⟨h1, fun j hj => ?_⟩⟩
        rw [Nat.zero_add] at hj ⊢
        rw [← Addr.add_add, hcell j hj, e]
      · exact ⟨⟨⟨#[]⟩, 0⟩, fun h => absurd h him⟩
    obtain ⟨f, hf⟩ := Classical.axiomOfChoice hrec
    have hlen : ((List.range len).map f).length = len := by simp
    refine ⟨some a, (List.range len).map f, cap, by rw [hlen], Lib.hid (fun h0 => ?_), Lib.hid (fun r hr => ?_), by rw [hlen]; omega⟩
    · rw [hlen] at h0
      have c0 := (hf 0 h0).2 0 (by omega)
      have hsp : a.spot = none := spot_none (by simpa [Addr.add] using c0 : w.cell? a = some _)
      obtain ⟨g, o, sp⟩ := a
      have hsp' : sp = none := hsp
      subst hsp'
      have hadd : ∀ j, (⟨g, o, none⟩ : Addr).add j = ⟨g, o + j, none⟩ := fun j => by unfold Addr.add; split <;> simp_all
      have hg : g < w.heap.size := World.block_lt_of_cell? w _ (by simpa [Addr.add] using c0 : w.cell? ⟨g, o, none⟩ = some _)
      refine ⟨g, o, rfl, hg, fun i r hr => ?_⟩
      have hir : i < len ∧ f i = r := by
        have h1 := (List.getElem?_eq_some_iff.1 hr).1
        rw [hlen] at h1
        refine ⟨h1, ?_⟩
        have h2 : ((List.range len).map f)[i]? = some (f i) := by simp [h1]
        rw [h2] at hr
        exact Option.some.inj hr
      obtain ⟨him, rfl⟩ := hir
      have q := (hf i him).2
      have q0 := q 0 (by omega); have q1 := q 1 (by omega);
      rw [hadd] at q0 q1
      simp only [Nat.add_zero, Nat.zero_add, ← Nat.add_assoc] at q0 q1
      exact ⟨q0, q1⟩
    · simp only [List.mem_map, List.mem_range] at hr
      obtain ⟨i, hi, rfl⟩ := hr
      exact (hf i hi).1

set_option maxRecDepth 100000 in
theorem open_reply {r : Reach} {b0 : Nat} {v : Value} {d : DataW H} {p : List MemPlace} (hv : Value.okWide Try.prog w r b0 42 v) (h : DataW.Trod enc Try.prog w base spare held 42 v d p) :
    ∃ (e off n gen : Int) (FA : Option Addr) (found : List Fd) (fc : Nat) (PA : Option Addr) (parts : List Pt) (pc : Nat),
      v = .agg #[.int .i64 e, .int .i64 off, .int .i64 n, .int .i64 gen, .slice FA found.length fc, .slice PA parts.length pc] ∧ IsFound w FA found ∧ IsParts w PA parts := by
  obtain ⟨cs, rfl, _⟩ := okWide_struct Try.underlying42 hv
  obtain ⟨fuel, hf⟩ := h
  obtain ⟨xs, m, _, _, hl, hxl, hg⟩ := DataW.trod_struct Try.underlying42 hf
  have hl6 : cs.toList.length = 6 := hl.trans (by kernel_rfl)
  have hx6 : xs.length = 6 := hxl
  obtain ⟨c⟩ := cs
  match c, hl6 with
  | [c0, c1, c2, c3, c4, c5], _ =>
    match xs, hx6 with
    | [y0, y1, y2, y3, y4, y5], _ =>
      have f0 : DataW.trod enc Try.prog w base spare held m 31 (([c0, c1, c2, c3, c4, c5].drop 0).take (Try.prog.cellsOf 31)) = some y0 := hg 0 _ rfl
      have f1 : DataW.trod enc Try.prog w base spare held m 3 (([c0, c1, c2, c3, c4, c5].drop 1).take (Try.prog.cellsOf 3)) = some y1 := hg 1 _ rfl
      have f2 : DataW.trod enc Try.prog w base spare held m 3 (([c0, c1, c2, c3, c4, c5].drop 2).take (Try.prog.cellsOf 3)) = some y2 := hg 2 _ rfl
      have f3 : DataW.trod enc Try.prog w base spare held m 3 (([c0, c1, c2, c3, c4, c5].drop 3).take (Try.prog.cellsOf 3)) = some y3 := hg 3 _ rfl
      have f4 : DataW.trod enc Try.prog w base spare held m 39 (([c0, c1, c2, c3, c4, c5].drop 4).take (Try.prog.cellsOf 39)) = some y4 := hg 4 _ rfl
      have f5 : DataW.trod enc Try.prog w base spare held m 40 (([c0, c1, c2, c3, c4, c5].drop 5).take (Try.prog.cellsOf 40)) = some y5 := hg 5 _ rfl
      have z0 : Try.prog.cellsOf 31 = 1 := by kernel_rfl
      rw [z0] at f0
      have z1 : Try.prog.cellsOf 3 = 1 := by kernel_rfl
      rw [z1] at f1
      have z2 : Try.prog.cellsOf 3 = 1 := by kernel_rfl
      rw [z2] at f2
      have z3 : Try.prog.cellsOf 3 = 1 := by kernel_rfl
      rw [z3] at f3
      have z4 : Try.prog.cellsOf 39 = 1 := by kernel_rfl
      rw [z4] at f4
      have z5 : Try.prog.cellsOf 40 = 1 := by kernel_rfl
      rw [z5] at f5
      obtain ⟨e, e0, _⟩ := DataW.trod_int Try.underlying31 f0
      obtain ⟨off, e1, _⟩ := DataW.trod_int Try.underlying3 f1
      obtain ⟨n, e2, _⟩ := DataW.trod_int Try.underlying3 f2
      obtain ⟨gen, e3, _⟩ := DataW.trod_int Try.underlying3 f3
      obtain ⟨FA, found, fc, e4, hF⟩ := cells_founds f4
      obtain ⟨PA, parts, pc, e5, hP⟩ := cells_parts f5
      simp at e0 e1 e2 e3 e4 e5
      subst e0 e1 e2 e3 e4 e5
      exact ⟨e, off, n, gen, FA, found, fc, PA, parts, pc, rfl, hF, hP⟩
end
end Go.Proofs.Ytlhkhccpeohefaa.L4
