/-
  What is remembered, as it comes in; no topic of a call is longer than memory can be.
-/
import Derived.Test.YtcmlopflandlgaaDdReach
import Derived.Test.YtcmlopflandlgaaDdSort
namespace Go.Proofs.Ytcmlopflandlgaa.L8
open Go.ChangeShapes Go.WideShapes Go.RowKit Go.Deep
open L3 L4

/-- batches that came in -/
def DidsO (w : World) (B : Nat) (A : Option Addr) (l : List Did) : Prop :=
  0 < l.length → ∃ g o, A = some ⟨g, o, none⟩ ∧ g < B ∧ ∀ i d, l[i]? = some d → w.cell? ⟨g, o + i * 3, none⟩ = some (.int .i64 d.s) ∧ w.cell? ⟨g, o + i * 3 + 1, none⟩ = some (.int .i64 d.n) ∧ w.cell? ⟨g, o + i * 3 + 2, none⟩ = some (.int .i64 d.o)
def IsMk1 (w : World) (v : MV) : Prop := DidsO w w.heap.size v.A v.m.l ∧ v.m.t.size ≤ maxLen ∧ (Lit.int .i64 v.m.p).wf = true ∧ v.m.l.length ≤ v.c ∧ v.m.l.length ≤ maxLen ∧ (v.A = none → v.m.l = [] ∧ v.c = 0)
def MksO (w : World) (B : Nat) (A : Option Addr) (l : List MV) : Prop :=
  0 < l.length → ∃ g o, A = some ⟨g, o, none⟩ ∧ g < B ∧ ∀ i v, l[i]? = some v → w.cell? ⟨g, o + i * 5, none⟩ = some (.int .i64 v.m.id) ∧ w.cell? ⟨g, o + i * 5 + 1, none⟩ = some (.int .i64 v.m.ep) ∧ w.cell? ⟨g, o + i * 5 + 2, none⟩ = some (.string v.m.t) ∧ w.cell? ⟨g, o + i * 5 + 3, none⟩ = some (.int .i64 v.m.p) ∧ w.cell? ⟨g, o + i * 5 + 4, none⟩ = some (.slice v.A v.m.l.length v.c)
def IsMks (w : World) (A : Option Addr) (l : List MV) : Prop := Hid (MksO w w.heap.size A l) ∧ Hid (∀ v ∈ l, IsMk1 w v) ∧ l.length ≤ maxLen
section
variable {H : Type} {enc : TypeId × Value → H} {w : World} {base : Nat} {spare : Nat → Bool} {held : Bool}
set_option maxRecDepth 100000 in
theorem cells_did {n : Nat} {cs : List Value} {x : DataW H × List MemPlace} (h : DataW.trod enc Try.prog w base spare held n 50 cs = some x) : ∃ d : Did, cs = didC d := by
  obtain ⟨xs, m, _, _, hl, hxl, hg⟩ := DataW.trod_struct Try.underlying50 h
  have hl3 : cs.length = 3 := hl.trans (by kernel_rfl)
  have hx3 : xs.length = 3 := hxl
  match cs, hl3 with
  | [c0, c1, c2], _ =>
    match xs, hx3 with
    | [y0, y1, y2], _ =>
      have f0 : DataW.trod enc Try.prog w base spare held m 3 (([c0, c1, c2].drop 0).take (Try.prog.cellsOf 3)) = some y0 := hg 0 _ rfl
      have f1 : DataW.trod enc Try.prog w base spare held m 3 (([c0, c1, c2].drop 1).take (Try.prog.cellsOf 3)) = some y1 := hg 1 _ rfl
      have f2 : DataW.trod enc Try.prog w base spare held m 3 (([c0, c1, c2].drop 2).take (Try.prog.cellsOf 3)) = some y2 := hg 2 _ rfl
      have zi : Try.prog.cellsOf 3 = 1 := by kernel_rfl
      rw [zi] at f0 f1 f2
      obtain ⟨a, e0, _⟩ := cells_num f0
      obtain ⟨b, e1, _⟩ := cells_num f1
      obtain ⟨c, e2, _⟩ := cells_num f2
      simp at e0 e1 e2
      subst e0 e1 e2
      exact ⟨⟨a, b, c⟩, rfl⟩
set_option maxRecDepth 100000 in
theorem cells_dids {n : Nat} {cs : List Value} {x : DataW H × List MemPlace} (h : DataW.trod enc Try.prog w base spare held n 46 cs = some x) :
    ∃ (A : Option Addr) (l : List Did) (cap : Nat), cs = [.slice A l.length cap] ∧ DidsO w w.heap.size A l ∧ l.length ≤ cap ∧ l.length ≤ maxLen ∧ (A = none → l = [] ∧ cap = 0) := by
  rcases open_slice Try.underlying46 h with ⟨rfl, _⟩ | ⟨a, len, cap, m, n', D, Pl, rfl, _, hl, hm, hmm, _, hi⟩
  · exact ⟨none, [], 0, rfl, (fun h0 => absurd h0 (by simp)), by simp, by simp, fun _ => ⟨rfl, rfl⟩⟩
  · have hle : len ≤ m := by rw [hmm]; split <;> omega
    have zE : Try.prog.cellsOf 50 = 0 + 3 := by kernel_rfl
    rw [zE, Nat.zero_add] at hi
    have hrec : ∀ i, ∃ r : Did, i < len → ∀ j, j < 0 + 3 → w.cell? (a.add (i * (0 + 3) + j)) = (didC r)[j]? := by
      intro i
      by_cases him : i < len
      · obtain ⟨cs', hc, ht⟩ := hi i (by omega)
        obtain ⟨c, e⟩ := cells_did ht
        obtain ⟨_, _, hcell⟩ := World.cells?_some hc
        refine ⟨c, fun _ j hj => ?_⟩
        rw [Nat.zero_add] at hj ⊢
        rw [← Addr.add_add, hcell j hj, e]
      · exact ⟨⟨0, 0, 0⟩, fun h => absurd h him⟩
    obtain ⟨f, hf⟩ := Classical.axiomOfChoice hrec
    have hlen : ((List.range len).map f).length = len := by simp
    refine ⟨some a, (List.range len).map f, cap, by rw [hlen], (fun h0 => ?_), by rw [hlen]; exact hl, by rw [hlen]; omega, fun e => by cases e⟩
    rw [hlen] at h0
    have c0 := (hf 0 h0) 0 (by omega)
    have hsp : a.spot = none := spotNone (by simpa [Addr.add, didC] using c0 : w.cell? a = some _)
    obtain ⟨g, o, sp⟩ := a
    have hsp' : sp = none := hsp
    subst hsp'
    have hadd : ∀ j, (⟨g, o, none⟩ : Addr).add j = ⟨g, o + j, none⟩ := fun j => by unfold Addr.add; split <;> simp_all
    have hg : g < w.heap.size := World.block_lt_of_cell? w _ (by simpa [Addr.add, didC] using c0 : w.cell? ⟨g, o, none⟩ = some _)
    refine ⟨g, o, rfl, hg, fun i r hr => ?_⟩
    have hir : i < len ∧ f i = r := by
      have h1 := (List.getElem?_eq_some_iff.1 hr).1
      rw [hlen] at h1
      refine ⟨h1, ?_⟩
      have h2 : ((List.range len).map f)[i]? = some (f i) := by simp [h1]
      rw [h2] at hr
      exact Option.some.inj hr
    obtain ⟨him, rfl⟩ := hir
    have q := hf i him
    have q0 := q 0 (by omega); have q1 := q 1 (by omega); have q2 := q 2 (by omega)
    rw [hadd] at q0 q1 q2
    simp only [Nat.add_zero, Nat.zero_add, ← Nat.add_assoc] at q0 q1 q2
    exact ⟨q0, q1, q2⟩
set_option maxRecDepth 100000 in
theorem cells_mk {n : Nat} {cs : List Value} {x : DataW H × List MemPlace} (h : DataW.trod enc Try.prog w base spare held n 48 cs = some x) : ∃ v : MV, cs = mkC v ∧ IsMk1 w v := by
  obtain ⟨xs, m, _, _, hl, hxl, hg⟩ := DataW.trod_struct Try.underlying48 h
  have hl5 : cs.length = 5 := hl.trans (by kernel_rfl)
  have hx4 : xs.length = 4 := hxl
  match cs, hl5 with
  | [c0, c1, c2, c3, c4], _ =>
    match xs, hx4 with
    | [y0, y1, y2, y3], _ =>
      have f0 : DataW.trod enc Try.prog w base spare held m 3 (([c0, c1, c2, c3, c4].drop 0).take (Try.prog.cellsOf 3)) = some y0 := hg 0 _ rfl
      have f1 : DataW.trod enc Try.prog w base spare held m 3 (([c0, c1, c2, c3, c4].drop 1).take (Try.prog.cellsOf 3)) = some y1 := hg 1 _ rfl
      have f2 : DataW.trod enc Try.prog w base spare held m 31 (([c0, c1, c2, c3, c4].drop 2).take (Try.prog.cellsOf 31)) = some y2 := hg 2 _ rfl
      have f3 : DataW.trod enc Try.prog w base spare held m 46 (([c0, c1, c2, c3, c4].drop (2 + 2)).take (Try.prog.cellsOf 46)) = some y3 := hg (2 + 1) _ rfl
      have zi : Try.prog.cellsOf 3 = 1 := by kernel_rfl
      have zp : Try.prog.cellsOf 31 = 2 := by kernel_rfl
      have zd : Try.prog.cellsOf 46 = 1 := by kernel_rfl
      rw [zi] at f0 f1
      rw [zp] at f2
      rw [zd] at f3
      obtain ⟨a, e0, _⟩ := cells_num f0
      obtain ⟨b, e1, _⟩ := cells_num f1
      obtain ⟨t, p, e2, h2, h3⟩ := cells_part f2
      obtain ⟨A, l, cap, e3, k1, k2, k3, k4⟩ := cells_dids f3
      simp at e0 e1 e2 e3
      obtain ⟨rfl, rfl⟩ := e2
      subst e0 e1 e3
      exact ⟨⟨⟨a, b, t, p, l⟩, A, cap⟩, rfl, k1, h2, h3, k2, k3, k4⟩
set_option maxRecDepth 100000 in
theorem cells_mks {n : Nat} {cs : List Value} {x : DataW H × List MemPlace} (h : DataW.trod enc Try.prog w base spare held n 27 cs = some x) :
    ∃ (A : Option Addr) (l : List MV) (cap : Nat), cs = [.slice A l.length cap] ∧ IsMks w A l := by
  rcases open_slice Try.underlying27 h with ⟨rfl, _⟩ | ⟨a, len, cap, m, n', D, Pl, rfl, _, hl, hm, hmm, _, hi⟩
  · exact ⟨none, [], 0, rfl, Lib.hid (fun h0 => absurd h0 (by simp)), Lib.hid (fun r hr => by simp at hr), by simp⟩
  · have hle : len ≤ m := by rw [hmm]; split <;> omega
    have zE : Try.prog.cellsOf 48 = 0 + 5 := by kernel_rfl
    rw [zE, Nat.zero_add] at hi
    have hrec : ∀ i, ∃ r : MV, i < len → IsMk1 w r ∧ ∀ j, j < 0 + 5 → w.cell? (a.add (i * (0 + 5) + j)) = (mkC r)[j]? := by
      intro i
      by_cases him : i < len
      · obtain ⟨cs', hc, ht⟩ := hi i (by omega)
        obtain ⟨c, e, h1⟩ := cells_mk ht
        obtain ⟨_, _, hcell⟩ := World.cells?_some hc
        refine ⟨c, fun _ => ⟨h1, fun j hj => ?_⟩⟩
        rw [Nat.zero_add] at hj ⊢
        rw [← Addr.add_add, hcell j hj, e]
      · exact ⟨⟨⟨0, 0, ⟨#[]⟩, 0, []⟩, none, 0⟩, fun h => absurd h him⟩
    obtain ⟨f, hf⟩ := Classical.axiomOfChoice hrec
    have hlen : ((List.range len).map f).length = len := by simp
    refine ⟨some a, (List.range len).map f, cap, by rw [hlen], Lib.hid (fun h0 => ?_), Lib.hid (fun r hr => ?_), by rw [hlen]; omega⟩
    · rw [hlen] at h0
      have c0 := (hf 0 h0).2 0 (by omega)
      have hsp : a.spot = none := spotNone (by simpa [Addr.add, mkC] using c0 : w.cell? a = some _)
      obtain ⟨g, o, sp⟩ := a
      have hsp' : sp = none := hsp
      subst hsp'
      have hadd : ∀ j, (⟨g, o, none⟩ : Addr).add j = ⟨g, o + j, none⟩ := fun j => by unfold Addr.add; split <;> simp_all
      have hg : g < w.heap.size := World.block_lt_of_cell? w _ (by simpa [Addr.add, mkC] using c0 : w.cell? ⟨g, o, none⟩ = some _)
      refine ⟨g, o, rfl, hg, fun i r hr => ?_⟩
      have hir : i < len ∧ f i = r := by
        have h1 := (List.getElem?_eq_some_iff.1 hr).1
        rw [hlen] at h1
        refine ⟨h1, ?_⟩
        have h2 : ((List.range len).map f)[i]? = some (f i) := by simp [h1]
        rw [h2] at hr
        exact Option.some.inj hr
      obtain ⟨him, rfl⟩ := hir
      have q := (hf i him).2
      have q0 := q 0 (by omega); have q1 := q 1 (by omega); have q2 := q 2 (by omega); have q3 := q 3 (by omega); have q4 := q 4 (by omega)
      rw [hadd] at q0 q1 q2 q3 q4
      simp only [Nat.add_zero, Nat.zero_add, ← Nat.add_assoc] at q0 q1 q2 q3 q4
      exact ⟨q0, q1, q2, q3, q4⟩
    · simp only [List.mem_map, List.mem_range] at hr
      obtain ⟨i, hi, rfl⟩ := hr
      exact (hf i hi).1
set_option maxRecDepth 100000 in
theorem open_mks {r : Reach} {b0 : Nat} {v : Value} {d : DataW H} {p : List MemPlace} (hv : Value.okWide Try.prog w r b0 27 v) (h : DataW.Trod enc Try.prog w base spare held 27 v d p) :
    ∃ (A : Option Addr) (l : List MV) (cap : Nat), v = .slice A l.length cap ∧ IsMks w A l := by
  obtain ⟨a, len, c, rfl⟩ := okWide_slice Try.underlying27 hv
  obtain ⟨fuel, hf⟩ := h
  obtain ⟨A, l, cap, e, hI⟩ := cells_mks hf
  have e' : [Value.slice a len c] = [Value.slice A l.length cap] := e
  exact ⟨A, l, cap, by injection e', hI⟩
set_option maxRecDepth 100000 in
theorem reach_sc {ts : List TypeId} {ds : List (DataW H)} (hsz : (DataW.weightsEach Try.prog ts ds).all (· ≤ reachBytes) = true) {j : Nat} (ht : ts[j]? = some 36) {d : DataW H} (hd : ds[j]? = some d) {a0 a1 a2 a4 a5 a6 a7 a8 : Value} {t : ByteArray} {p : List MemPlace}
    (h : DataW.Trod enc Try.prog w base spare held 36 (.agg #[a0, a1, a2, .string t, a4, a5, a6, a7, a8]) d p) : t.size ≤ 281474976710656 := by
  obtain ⟨fuel, hf⟩ := h
  obtain ⟨t', h3, hw⟩ := sc_weight hf
  have e : t' = t := by
    have h3' : ([a0, a1, a2, .string t, a4, a5, a6, a7, a8] : List Value)[3]? = some (.string t') := h3
    simp at h3'
    exact h3'.symm
  subst e
  have := List.all_eq_true.1 hsz _ (DataW.weights_mem_each ht hd _ hw)
  have hle : t'.size ≤ reachBytes := by simpa using this
  have := reachBytes_lt
  omega
end
end Go.Proofs.Ytcmlopflandlgaa.L8
