/-
  Arguments of layer 8: numbers.
-/
import Derived.Test.YtcmlopflandlgaaRecOpen
namespace Go.Proofs.Ytcmlopflandlgaa.L8
open Go.ChangeShapes Go.WideShapes Go.RowKit Go.Deep
open L3 L4

theorem spotNone {w : World} {a : Addr} {v : Value} (h : w.cell? a = some v) : a.spot = none := by
  unfold World.cell? at h
  split at h
  · split at h
    · cases h
    · rename_i hsp
      cases hs : a.spot with
      | none => rfl
      | some _ => rw [hs] at hsp; simp at hsp
  · cases h
/-- a slice that came in, and reads so -/
def NumsO (w : World) (B : Nat) (A : Option Addr) (l : List Int) : Prop :=
  0 < l.length → ∃ g o, A = some ⟨g, o, none⟩ ∧ g < B ∧ ∀ i r, l[i]? = some r → w.cell? ⟨g, o + i * 1, none⟩ = some (.int .i64 r)
def IsNums (w : World) (A : Option Addr) (l : List Int) : Prop := Hid (NumsO w w.heap.size A l) ∧ Hid (∀ r ∈ l, (Lit.int .i64 r).wf = true) ∧ l.length ≤ maxLen
section
variable {H : Type} {enc : TypeId × Value → H} {w : World} {base : Nat} {spare : Nat → Bool} {held : Bool}
set_option maxRecDepth 100000 in
theorem cells_num {n : Nat} {cs : List Value} {x : DataW H × List MemPlace} (h : DataW.trod enc Try.prog w base spare held n 3 cs = some x) : ∃ (y : Int), cs = [.int .i64 y] ∧ (Lit.int .i64 y).wf = true := by
  obtain ⟨y, e, _, hw⟩ := DataW.trod_int Try.underlying3 h
  exact ⟨y, e, hw⟩
set_option maxRecDepth 100000 in
theorem cells_nums {n : Nat} {cs : List Value} {x : DataW H × List MemPlace} (h : DataW.trod enc Try.prog w base spare held n 26 cs = some x) :
    ∃ (A : Option Addr) (l : List Int) (cap : Nat), cs = [.slice A l.length cap] ∧ IsNums w A l ∧ l.length ≤ cap := by
  rcases open_slice Try.underlying26 h with ⟨rfl, _⟩ | ⟨a, len, cap, m, n', D, Pl, rfl, _, hl, hm, hmm, _, hi⟩
  · exact ⟨none, [], 0, rfl, ⟨Lib.hid (fun h0 => absurd h0 (by simp)), Lib.hid (fun r hr => by simp at hr), by simp⟩, by simp⟩
  · have hle : len ≤ m := by rw [hmm]; split <;> omega
    have zE : Try.prog.cellsOf 3 = 0 + 1 := by kernel_rfl
    rw [zE, Nat.zero_add] at hi
    have hrec : ∀ i, ∃ r : Int, i < len → ((Lit.int .i64 r).wf = true) ∧ ∀ j, j < 0 + 1 → w.cell? (a.add (i * (0 + 1) + j)) = [Value.int .i64 r][j]? := by
      intro i
      by_cases him : i < len
      · obtain ⟨cs', hc, ht⟩ := hi i (by omega)
        obtain ⟨y, e, h1⟩ := cells_num ht
        obtain ⟨_, _, hcell⟩ := World.cells?_some hc
        refine ⟨y, fun _ => ⟨h1, fun j hj => ?_⟩⟩
        rw [Nat.zero_add] at hj ⊢
        rw [← Addr.add_add, hcell j hj, e]
      · exact ⟨0, fun h => absurd h him⟩
    obtain ⟨f, hf⟩ := Classical.axiomOfChoice hrec
    have hlen : ((List.range len).map f).length = len := by simp
    refine ⟨some a, (List.range len).map f, cap, by rw [hlen], ⟨Lib.hid (fun h0 => ?_), Lib.hid (fun r hr => ?_), by rw [hlen]; omega⟩, by rw [hlen]; exact hl⟩
    · rw [hlen] at h0
      have c0 := (hf 0 h0).2 0 (by omega)
      have hsp : a.spot = none := spotNone (by simpa [Addr.add] using c0 : w.cell? a = some _)
      obtain ⟨g, o, sp⟩ := a
      have hsp' : sp = none := hsp
      subst hsp'
      have hadd : ∀ j, (⟨g, o, none⟩ : Addr).add j = ⟨g, o + j, none⟩ := fun j => by unfold Addr.add; split <;> simp_all
      have hg : g < w.heap.size := World.block_lt_of_cell? w _ (by simpa [Addr.add] using c0 : w.cell? ⟨g, o, none⟩ = some _)
      refine ⟨g, o, rfl, hg, fun i r hr => ?_⟩
      have hir : i < len ∧ f i = r := by
        have h1 := (List.getElem?_eq_some_iff.1 hr).1
        rw [hlen] at h1
        refine ⟨h1, ?_⟩
        have h2 : ((List.range len).map f)[i]? = some (f i) := by simp [h1]
        rw [h2] at hr
        exact Option.some.inj hr
      obtain ⟨him, rfl⟩ := hir
      have q := (hf i him).2
      have q0 := q 0 (by omega);
      rw [hadd] at q0
      simp only [Nat.add_zero, Nat.zero_add] at q0
      exact q0
    · simp only [List.mem_map, List.mem_range] at hr
      obtain ⟨i, hi, rfl⟩ := hr
      exact (hf i hi).1
set_option maxRecDepth 100000 in
theorem open_nums {r : Reach} {b0 : Nat} {v : Value} {d : DataW H} {p : List MemPlace} (hv : Value.okWide Try.prog w r b0 26 v) (h : DataW.Trod enc Try.prog w base spare held 26 v d p) :
    ∃ (A : Option Addr) (l : List Int) (cap : Nat), v = .slice A l.length cap ∧ IsNums w A l ∧ l.length ≤ cap := by
  obtain ⟨a, len, c, rfl⟩ := okWide_slice Try.underlying26 hv
  obtain ⟨fuel, hf⟩ := h
  obtain ⟨A, l, cap, e, hI⟩ := cells_nums hf
  have e' : [Value.slice a len c] = [Value.slice A l.length cap] := e
  exact ⟨A, l, cap, by injection e', hI⟩
set_option maxRecDepth 100000 in
theorem cells_part {n : Nat} {cs : List Value} {x : DataW H × List MemPlace} (h : DataW.trod enc Try.prog w base spare held n 31 cs = some x) :
    ∃ (t : ByteArray) (p : Int), cs = [.string t, .int .i64 p] ∧ t.size ≤ maxLen ∧ (Lit.int .i64 p).wf = true := by
  obtain ⟨xs, m, _, _, hl, hxl, hg⟩ := DataW.trod_struct Try.underlying31 h
  have hl2 : cs.length = 2 := hl.trans (by kernel_rfl)
  have hx2 : xs.length = 2 := hxl
  match cs, hl2 with
  | [c0, c1], _ =>
    match xs, hx2 with
    | [y0, y1], _ =>
      have f0 : DataW.trod enc Try.prog w base spare held m 9 (([c0, c1].drop 0).take (Try.prog.cellsOf 9)) = some y0 := hg 0 _ rfl
      have f1 : DataW.trod enc Try.prog w base spare held m 3 (([c0, c1].drop 1).take (Try.prog.cellsOf 3)) = some y1 := hg 1 _ rfl
      have zi : Try.prog.cellsOf 3 = 1 := by kernel_rfl
      have zs : Try.prog.cellsOf 9 = 1 := by kernel_rfl
      rw [zs] at f0
      rw [zi] at f1
      obtain ⟨t, e0, _, h0⟩ := DataW.trod_string Try.underlying9 f0
      obtain ⟨p, e1, _, hw⟩ := DataW.trod_int Try.underlying3 f1
      simp at e0 e1
      subst e0 e1
      exact ⟨t, p, rfl, h0, hw⟩
end
theorem NumsO.at {w : World} {B : Nat} {A : Option Addr} {l : List Int} (h : NumsO w B A l) {i : Nat} (hi : i < l.length) : ∃ g o x, A = some ⟨g, o, none⟩ ∧ g < B ∧ l[i]? = some x ∧ w.cell? ⟨g, o + i, none⟩ = some (.int .i64 x) := by
  obtain ⟨g, o, e, hg, hc⟩ := h (by omega)
  exact ⟨g, o, _, e, hg, List.getElem?_eq_getElem hi, by have := hc i _ (List.getElem?_eq_getElem hi); rwa [Nat.mul_one] at this⟩
end Go.Proofs.Ytcmlopflandlgaa.L8
