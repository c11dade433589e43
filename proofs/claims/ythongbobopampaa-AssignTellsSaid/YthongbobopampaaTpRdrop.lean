/-
  Contracts over the document's own functions: Make, Grow, Drop.
-/
import Derived.Test.YthongbobopampaaTpRmake2
namespace Go.Proofs.Ythongbobopampaa.L9
open Go.RowKit
open Go.Maps
open L3 L4

/-! ### Grow -/
theorem set_at {Q : List Pt} (hR : Rise Q) {j : Nat} {s : ByteArray} {z : Int} (hz : Q[j]? = some ⟨s, z⟩) (n : Int) : setQ Q s n = Q.set j ⟨s, n⟩ := by
  have hj := (List.getElem?_eq_some_iff.1 hz).1
  have he := (List.getElem?_eq_some_iff.1 hz).2
  apply List.ext_getElem
  · simp [setQ]
  · intro i h1 h2
    have hi : i < Q.length := by simpa [setQ] using h1
    rw [List.getElem_set]
    have hmap : (setQ Q s n)[i] = if Q[i].t = s then ⟨s, n⟩ else Q[i] := List.getElem_map _
    rw [hmap]
    by_cases e : j = i
    · subst e
      rw [if_pos rfl, if_pos (by rw [he])]
    · rw [if_neg e, if_neg]
      intro q
      have hp := List.pairwise_iff_getElem.1 hR.ne
      rcases Nat.lt_or_gt_of_ne e with r | r
      · have := hp j i hj hi r
        rw [he, q] at this; exact this rfl
      · have := hp i j hi hj r
        rw [he, q] at this; exact this rfl
theorem rowP_set : ∀ {Q : List Pt} {j : Nat} {s : ByteArray} {z n : Int}, Q[j]? = some ⟨s, z⟩ → rowP (Q.set j ⟨s, n⟩) = (rowP Q).set (j * 2 + 1) (.int .i64 n)
  | [], _, _, _, _, h => by simp at h
  | a :: t, 0, s, z, n, h => by
    simp at h
    subst h
    simp [rowP, ptC]
  | a :: t, j + 1, s, z, n, h => by
    have ih := rowP_set (Q := t) (j := j) (n := n) (by simpa using h)
    have e1 : rowP (a :: t.set j ⟨s, n⟩) = ptC a ++ rowP (t.set j ⟨s, n⟩) := rfl
    have e2 : rowP (a :: t) = ptC a ++ rowP t := rfl
    rw [List.set_cons_succ, e1, e2, ih, show (j + 1) * 2 + 1 = (j * 2 + 1) + 2 by omega]
    simp [ptC]
theorem own_set {w : World} {base g i n cap : Nat} {T : TypeId} {xs : List Value} {u : Value} (h : w.ownsRow base T 2 (.slice (some ⟨g, 0, none⟩) n cap) n xs) : (w.setCell ⟨g, i, none⟩ u).ownsRow base T 2 (.slice (some ⟨g, 0, none⟩) n cap) n (xs.set i u) := by
  refine ⟨by simpa using h.1, ?_⟩
  rcases h.2 with ⟨e, _⟩ | ⟨k', cap', cur, e, h1, hh, hc, hm, hs, ht⟩
  · cases e
  · injection e with e1 _ e3; injection e1 with e1; injection e1 with e1 _; subst e1; subst e3
    refine .inr ⟨g, cap, cur.setIfInBounds i u, rfl, h1, heap_setCell_same _ _ _ _ _ _ hh, hc, hm, by simpa using hs, ?_⟩
    rw [Array.toList_setIfInBounds, List.take_set, ht]

end Go.Proofs.Ythongbobopampaa.L9
