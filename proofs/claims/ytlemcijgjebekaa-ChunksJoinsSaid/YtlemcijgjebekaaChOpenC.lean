/-
  An argument that is a slice of chunks.
-/
import Derived.Test.YtlemcijgjebekaaChOpen
namespace Go.Proofs.Ytlemcijgjebekaa.L7
open Go.ChangeShapes Go.WideShapes Go.RowKit Go.Deep
open L3 L4 L5

/-- a slice of chunks that came in, and reads so -/
def CksO (w : World) (B : Nat) (A : Option Addr) (l : List Ck) : Prop :=
  0 < l.length → ∃ g o, A = some ⟨g, o, none⟩ ∧ g < B ∧ ∀ i r, l[i]? = some r → w.cell? ⟨g, o + i * 4, none⟩ = some (.int .i64 r.i) ∧ w.cell? ⟨g, o + i * 4 + 1, none⟩ = some (.int .i64 r.n) ∧ w.cell? ⟨g, o + i * 4 + 2, none⟩ = some (.int .u64 r.d) ∧ w.cell? ⟨g, o + i * 4 + 3, none⟩ = some (.string r.b)
def IsCk1 (r : Ck) : Prop := r.d < 18446744073709551616 ∧ r.b.size ≤ maxLen
def IsCks (w : World) (A : Option Addr) (l : List Ck) : Prop := Hid (CksO w w.heap.size A l) ∧ Hid (∀ r ∈ l, IsCk1 r) ∧ l.length ≤ maxLen
section
variable {H : Type} {enc : TypeId × Value → H} {w : World} {base : Nat} {spare : Nat → Bool} {held : Bool}
theorem cells_ckn {n : Nat} {cs : List Value} {x : DataW H × List MemPlace} (h : DataW.trod enc Try.prog w base spare held n 71 cs = some x) :
    ∃ r : Ck, cs = [.int .i64 r.i, .int .i64 r.n, .int .u64 r.d, .string r.b] ∧ IsCk1 r := by
  obtain ⟨i, m, d, b, rfl, hd, hb⟩ := cells_ck h
  have hd0 : 0 ≤ d ∧ d < 18446744073709551616 := by simp [Lit.wf, IntKind.min, IntKind.max, IntKind.bits, IntKind.signed] at hd; omega
  obtain ⟨d', rfl⟩ : ∃ d' : Nat, d = (d' : Int) := ⟨d.toNat, by omega⟩
  exact ⟨⟨i, m, d', b⟩, rfl, by show d' < _; omega, hb⟩
set_option maxRecDepth 100000 in
theorem cells_cks {n : Nat} {cs : List Value} {x : DataW H × List MemPlace} (h : DataW.trod enc Try.prog w base spare held n 72 cs = some x) :
    ∃ (A : Option Addr) (l : List Ck) (cap : Nat), cs = [.slice A l.length cap] ∧ IsCks w A l := by
  rcases open_slice Try.underlying72 h with ⟨rfl, _⟩ | ⟨a, len, cap, m, n', D, Pl, rfl, _, hl, hm, hmm, _, hi⟩
  · exact ⟨none, [], 0, rfl, Lib.hid (fun h0 => absurd h0 (by simp)), Lib.hid (fun r hr => by simp at hr), by simp⟩
  · have hle : len ≤ m := by rw [hmm]; split <;> omega
    have zE : Try.prog.cellsOf 71 = 0 + 4 := by kernel_rfl
    rw [zE, Nat.zero_add] at hi
    have hrec : ∀ i, ∃ r : Ck, i < len → (IsCk1 r) ∧ ∀ j, j < 0 + 4 → w.cell? (a.add (i * (0 + 4) + j)) = [Value.int .i64 r.i, Value.int .i64 r.n, Value.int .u64 r.d, Value.string r.b][j]? := by
      intro i
      by_cases him : i < len
      · obtain ⟨cs', hc, ht⟩ := hi i (by omega)
        obtain ⟨c, e, h1⟩ := cells_ckn ht
        obtain ⟨_, _, hcell⟩ := World.cells?_some hc
        refine ⟨c, fun _ => ⟨h1, fun j hj => ?_⟩⟩
        rw [Nat.zero_add] at hj ⊢
        rw [← Addr.add_add, hcell j hj, e]
      · exact ⟨Ck.zero, fun h => absurd h him⟩
    obtain ⟨f, hf⟩ := Classical.axiomOfChoice hrec
    have hlen : ((List.range len).map f).length = len := by simp
    refine ⟨some a, (List.range len).map f, cap, by rw [hlen], Lib.hid (fun h0 => ?_), Lib.hid (fun r hr => ?_), by rw [hlen]; omega⟩
    · rw [hlen] at h0
      have c0 := (hf 0 h0).2 0 (by omega)
      have hsp : a.spot = none := spotNone (by simpa [Addr.add] using c0 : w.cell? a = some _)
      obtain ⟨g, o, sp⟩ := a
      have hsp' : sp = none := hsp
      subst hsp'
      have hadd : ∀ j, (⟨g, o, none⟩ : Addr).add j = ⟨g, o + j, none⟩ := fun j => by unfold Addr.add; split <;> simp_all
      have hg : g < w.heap.size := World.block_lt_of_cell? w _ (by simpa [Addr.add] using c0 : w.cell? ⟨g, o, none⟩ = some _)
      refine ⟨g, o, rfl, hg, fun i r hr => ?_⟩
      have hir : i < len ∧ f i = r := by
        have h1 := (List.getElem?_eq_some_iff.1 hr).1
        rw [hlen] at h1
        refine ⟨h1, ?_⟩
        have h2 : ((List.range len).map f)[i]? = some (f i) := by simp [h1]
        rw [h2] at hr
        exact Option.some.inj hr
      obtain ⟨him, rfl⟩ := hir
      have q := (hf i him).2
      have q0 := q 0 (by omega); have q1 := q 1 (by omega); have q2 := q 2 (by omega); have q3 := q 3 (by omega);
      rw [hadd] at q0 q1 q2 q3
      simp only [Nat.add_zero, Nat.zero_add, ← Nat.add_assoc] at q0 q1 q2 q3
      exact ⟨q0, q1, q2, q3⟩
    · simp only [List.mem_map, List.mem_range] at hr
      obtain ⟨i, hi, rfl⟩ := hr
      exact (hf i hi).1

set_option maxRecDepth 100000 in
theorem open_cks {r : Reach} {b0 : Nat} {v : Value} {d : DataW H} {p : List MemPlace} (hv : Value.okWide Try.prog w r b0 72 v) (h : DataW.Trod enc Try.prog w base spare held 72 v d p) :
    ∃ (A : Option Addr) (l : List Ck) (cap : Nat), v = .slice A l.length cap ∧ IsCks w A l := by
  obtain ⟨a, len, c, rfl⟩ := okWide_slice Try.underlying72 hv
  obtain ⟨fuel, hf⟩ := h
  obtain ⟨A, l, cap, e, hI⟩ := cells_cks hf
  have e' : [Value.slice a len c] = [Value.slice A l.length cap] := e
  exact ⟨A, l, cap, by injection e', hI⟩
end
end Go.Proofs.Ytlemcijgjebekaa.L7
