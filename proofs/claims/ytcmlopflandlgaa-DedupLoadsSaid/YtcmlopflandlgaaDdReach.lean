/-
  No topic of a script that came in is longer than memory can be.
-/
import Derived.Test.YtcmlopflandlgaaDdOps
import Derived.SizedLaws
namespace Go.Proofs.Ytcmlopflandlgaa.L8
open Go.ChangeShapes Go.WideShapes Go.RowKit Go.Deep
open L3 L4

section
variable {H : Type} {enc : TypeId × Value → H} {w : World} {base : Nat} {spare : Nat → Bool} {held : Bool}
set_option maxRecDepth 100000 in
theorem part_weight {n : Nat} {cs : List Value} {x : DataW H × List MemPlace} (h : DataW.trod enc Try.prog w base spare held n 31 cs = some x) :
    ∃ (t : ByteArray) (v : Value), cs = [.string t, v] ∧ t.size ∈ x.1.weights Try.prog 31 := by
  obtain ⟨xs, m, _, hx, hl, hxl, hg⟩ := DataW.trod_struct Try.underlying31 h
  have hl2 : cs.length = 2 := hl.trans (by kernel_rfl)
  have hx2 : xs.length = 2 := hxl
  match cs, hl2 with
  | [c0, c1], _ =>
    match xs, hx2 with
    | [y0, y1], _ =>
      have f0 : DataW.trod enc Try.prog w base spare held m 9 (([c0, c1].drop 0).take (Try.prog.cellsOf 9)) = some y0 := hg 0 _ rfl
      have zs : Try.prog.cellsOf 9 = 1 := by kernel_rfl
      rw [zs] at f0
      obtain ⟨t, e0, hy, h0⟩ := DataW.trod_string Try.underlying9 f0
      simp at e0
      subst e0
      refine ⟨t, c1, rfl, ?_⟩
      subst hx hy
      simp [DataW.weights, DataW.weightsEach, Try.underlying31]
set_option maxRecDepth 100000 in
theorem sc_weight {n : Nat} {cs : List Value} {x : DataW H × List MemPlace} (h : DataW.trod enc Try.prog w base spare held n 36 cs = some x) :
    ∃ t : ByteArray, cs[3]? = some (.string t) ∧ t.size ∈ x.1.weights Try.prog 36 := by
  obtain ⟨xs, m, _, hx, hl, hxl, hg⟩ := DataW.trod_struct Try.underlying36 h
  have hl9 : cs.length = 9 := hl.trans (by kernel_rfl)
  have hx5 : xs.length = 5 := hxl
  match cs, hl9 with
  | [c0, c1, c2, c3, c4, c5, c6, c7, c8], _ =>
    match xs, hx5 with
    | [y0, y1, y2, y3, y4], _ =>
      have f3 : DataW.trod enc Try.prog w base spare held m 31 (([c0, c1, c2, c3, c4, c5, c6, c7, c8].drop (2 + 1)).take (Try.prog.cellsOf 31)) = some y3 := hg (2 + 1) _ rfl
      have zp : Try.prog.cellsOf 31 = 2 := by kernel_rfl
      rw [zp] at f3
      obtain ⟨t, v, e3, hw⟩ := part_weight f3
      simp at e3
      obtain ⟨rfl, rfl⟩ := e3
      refine ⟨t, rfl, ?_⟩
      subst hx
      simp only [DataW.weights, Try.underlying36, List.map_cons, List.map_nil, DataW.weightsEach, List.mem_append]
      exact .inr (.inr (.inr (.inl hw)))
theorem weights_all {P : Program} {e : TypeId} : ∀ {ds : List (DataW H)} {i : Nat} {d : DataW H}, ds[i]? = some d → ∀ n ∈ d.weights P e, n ∈ DataW.weightsAll P e ds
  | [], i, d, h => by simp at h
  | a :: t, 0, d, h => fun n hn => by
    simp at h; subst h
    simp only [DataW.weightsAll, List.mem_append]; exact .inl hn
  | a :: t, i + 1, d, h => fun n hn => by
    simp only [DataW.weightsAll, List.mem_append]; exact .inr (weights_all (by simpa using h) n hn)
set_option maxRecDepth 100000 in
theorem reach_scs {ts : List TypeId} {ds : List (DataW H)} (hsz : (DataW.weightsEach Try.prog ts ds).all (· ≤ reachBytes) = true) {j : Nat} (ht : ts[j]? = some 22) {d : DataW H} (hd : ds[j]? = some d) {A : Option Addr} {l : List Sc} {c B : Nat} {p : List MemPlace}
    (h : DataW.Trod enc Try.prog w base spare held 22 (.slice A l.length c) d p) (hS : ScO w B A l) : ∀ r ∈ l, r.t.size ≤ 281474976710656 := fun r hr => by
  obtain ⟨i, hi, hri⟩ := List.getElem_of_mem hr
  have hr' : l[i]? = some r := by rw [List.getElem?_eq_getElem hi, hri]
  obtain ⟨g, o, rfl, _, hc⟩ := hS (by omega)
  obtain ⟨_, _, _, c3, _⟩ := hc i r hr'
  obtain ⟨fuel, hf⟩ := h
  rcases DataW.trod_slice Try.underlying22 hf with ⟨e, _⟩ | ⟨a, len, cap, elems, rest, n, _, e, hx, _, _, _, hlen, hel, _⟩
  · cases e
  · injection e with e
    injection e with e1 e2 e3
    injection e1 with e1
    subst e1
    have zE : Try.prog.cellsOf 36 = 9 := by kernel_rfl
    have hi' : i < len := by omega
    have he := hel i hi'
    rw [zE, List.getElem?_eq_getElem (by omega)] at he
    obtain ⟨cs, hcs, htr⟩ := Option.bind_eq_some_iff.1 he
    obtain ⟨t, h3, hw⟩ := sc_weight htr
    obtain ⟨_, _, hcell⟩ := World.cells?_some hcs
    have q := hcell 3 (by omega)
    rw [h3, Addr.add_lit, Addr.add_lit] at q
    rw [q] at c3
    injection c3 with c3
    injection c3 with c3
    have hx1 : d = .slice (elems.map (·.1)) (rest.map (·.1)) := by injection hx
    have hm : t.size ∈ d.weights Try.prog 22 := by
      rw [hx1]
      simp only [DataW.weights, Try.underlying22, List.mem_cons, List.mem_append]
      refine .inr (.inl (weights_all (i := i) (d := (elems[i]'(by omega)).1) ?_ _ hw))
      rw [List.getElem?_map, List.getElem?_eq_getElem (by omega)]; rfl
    have := List.all_eq_true.1 hsz _ (DataW.weights_mem_each ht hd _ hm)
    have hle : t.size ≤ reachBytes := by simpa using this
    have := reachBytes_lt
    rw [← c3]; omega
end
end Go.Proofs.Ytcmlopflandlgaa.L8
