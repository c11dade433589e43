/-
  Contracts over the document's own functions: Make, Grow, Drop.
-/
import Derived.Test.YtohfbmgonjkhhaaTpRmake2
namespace Go.Proofs.Ytohfbmgonjkhhaa.L9
open Go.RowKit
open Go.Maps
open L3 L4

theorem rmake_is {w : World} {B k cap : Nat} {A : Option Addr} {Q : List Pt} (s : ByteArray) (n x : Int) (h : Hid (Doc w B k A cap Q)) (hA : Hid (A = none → cap = 0)) (G : Hid (Good Q)) (hB : Hid (B ≤ w.heap.size)) (hs : s.size ≤ maxLen) (HX : Hid (makeE Q s n = x)) :
    Calls Try.prog 11 #[.pointer (some ⟨k, 0, none⟩), .string s, .int .i64 n] w fun e w' => e = .returned (.int .i64 x) ∧ Turned w B k A (makeQ Q s n) w' := by
  by_cases h0 : x = 0
  · subst h0
    have e : makeQ Q s n = insQ Q ⟨s, n⟩ := by unfold makeQ; rw [HX.out]; rfl
    rw [e]
    exact rmake_ok s n h G rfl hB hs HX
  · have e : makeQ Q s n = Q := by unfold makeQ; rw [HX.out, if_neg h0]
    rw [e]
    exact (rmake_err s n x h G rfl hs HX h0).mono fun e w' ⟨he, hw⟩ => ⟨he, by rw [hw]; exact Turned.same h.out hA.out (Below.refl _ _)⟩

/-! ### Grow -/
theorem set_at {Q : List Pt} (hR : Rise Q) {j : Nat} {s : ByteArray} {z : Int} (hz : Q[j]? = some ⟨s, z⟩) (n : Int) : setQ Q s n = Q.set j ⟨s, n⟩ := by
  have hj := (List.getElem?_eq_some_iff.1 hz).1
  have he := (List.getElem?_eq_some_iff.1 hz).2
  apply List.ext_getElem
  · simp [setQ]
  · intro i h1 h2
    have hi : i < Q.length := by simpa [setQ] using h1
    rw [List.getElem_set]
    have hmap : (setQ Q s n)[i] = if Q[i].t = s then ⟨s, n⟩ else Q[i] := List.getElem_map _
    rw [hmap]
    by_cases e : j = i
    · subst e
      rw [if_pos rfl, if_pos (by rw [he])]
    · rw [if_neg e, if_neg]
      intro q
      have hp := List.pairwise_iff_getElem.1 hR.ne
      rcases Nat.lt_or_gt_of_ne e with r | r
      · have := hp j i hj hi r
        rw [he, q] at this; exact this rfl
      · have := hp i j hi hj r
        rw [he, q] at this; exact this rfl
theorem rowP_set : ∀ {Q : List Pt} {j : Nat} {s : ByteArray} {z n : Int}, Q[j]? = some ⟨s, z⟩ → rowP (Q.set j ⟨s, n⟩) = (rowP Q).set (j * 2 + 1) (.int .i64 n)
  | [], _, _, _, _, h => by simp at h
  | a :: t, 0, s, z, n, h => by
    simp at h
    subst h
    simp [rowP, ptC]
  | a :: t, j + 1, s, z, n, h => by
    have ih := rowP_set (Q := t) (j := j) (n := n) (by simpa using h)
    have e1 : rowP (a :: t.set j ⟨s, n⟩) = ptC a ++ rowP (t.set j ⟨s, n⟩) := rfl
    have e2 : rowP (a :: t) = ptC a ++ rowP t := rfl
    rw [List.set_cons_succ, e1, e2, ih, show (j + 1) * 2 + 1 = (j * 2 + 1) + 2 by omega]
    simp [ptC]
theorem own_set {w : World} {base g i n cap : Nat} {T : TypeId} {xs : List Value} {u : Value} (h : w.ownsRow base T 2 (.slice (some ⟨g, 0, none⟩) n cap) n xs) : (w.setCell ⟨g, i, none⟩ u).ownsRow base T 2 (.slice (some ⟨g, 0, none⟩) n cap) n (xs.set i u) := by
  refine ⟨by simpa using h.1, ?_⟩
  rcases h.2 with ⟨e, _⟩ | ⟨k', cap', cur, e, h1, hh, hc, hm, hs, ht⟩
  · cases e
  · injection e with e1 _ e3; injection e1 with e1; injection e1 with e1 _; subst e1; subst e3
    refine .inr ⟨g, cap, cur.setIfInBounds i u, rfl, h1, heap_setCell_same _ _ _ _ _ _ hh, hc, hm, by simpa using hs, ?_⟩
    rw [Array.toList_setIfInBounds, List.take_set, ht]

set_option maxRecDepth 100000 in
set_option maxHeartbeats 2000000 in
theorem rgrow_is {w : World} {B k cap m : Nat} {A : Option Addr} {Q : List Pt} (s : ByteArray) (n x : Int) (h : Hid (Doc w B k A cap Q)) (hA : Hid (A = none → cap = 0)) (G : Hid (Good Q)) (hm : Q.length = m) (HX : Hid (growE Q s n = x)) :
    Calls Try.prog 13 #[.pointer (some ⟨k, 0, none⟩), .string s, .int .i64 n] w fun e w' => e = .returned (.int .i64 x) ∧ Turned w B k A (growQ Q s n) w' := by
  have hx := HX.out
  unfold growE at hx
  have hl8 : m ≤ 8 := by rw [← hm]; exact G.out.len
  have HR : Hid (Rise Q) := Lib.hid G.out.rise
  have HDOC := h
  cases hh : hasB Q s with
  | false =>
    rw [hh, if_pos rfl] at hx
    subst hx
    have hq : growQ Q s n = Q := by unfold growQ; rw [HX.out]; rfl
    rw [hq]
    have HP : Hid (plP Q s (-1)) := Lib.hid (.inl ⟨rfl, hh⟩)
    clear hh hq
    go_enter Try.func13, Try.ntmps13
    go_wp2_with (go_at_call 34; refine (rplace_is s _ h hm (by omega) HR HP).mono ?_; rintro e w1 ⟨rfl, hw1⟩; obtain rfl := hw1.symm)
    go_ret
    exact ⟨rfl, Turned.same HDOC.out hA.out (Below.refl _ _)⟩
  | true =>
    rw [hh, if_neg (by simp)] at hx
    obtain ⟨j, ⟨zt, zn⟩, hz, rfl⟩ := plP_some hh
    dsimp only at hx HX hh ⊢
    have HP : Hid (plP Q zt (j : Int)) := Lib.hid (.inr ⟨j, _, rfl, hz, rfl⟩)
    rw [show numOf Q zt = zn from num_mem HR.out.ne (List.mem_of_getElem? hz)] at hx
    have hj := (List.getElem?_eq_some_iff.1 hz).1
    rw [hm] at hj
    have c0 := h.out.c0
    rw [hm] at c0
    obtain ⟨ga, rfl, hga, hcells⟩ := h.out.reads (by rw [hm]; omega)
    obtain ⟨_, d1⟩ := hcells j _ hz
    dsimp only at d1
    have k0 : (0 : Int) ≤ (j : Int) := by omega
    have k1 : (j : Int) < (m : Int) := by omega
    have k2 : ¬ (j : Int) < 0 := by omega
    have HZ := Lib.hid hz
    have hgood := G.out.fit _ (List.mem_of_getElem? hz)
    dsimp only at hgood
    by_cases h1 : 8 < n
    · rw [if_pos (.inr h1)] at hx
      subst hx
      have hq : growQ Q zt n = Q := by unfold growQ; rw [HX.out]; rfl
      rw [hq]
      clear hh hq hcells hz hgood
      go_enter Try.func13, Try.ntmps13
      go_wp2_with (go_at_call 34; refine (rplace_is zt _ h hm (by omega) HR HP).mono ?_; rintro e w1 ⟨rfl, hw1⟩; obtain rfl := hw1.symm)
      go_ret
      exact ⟨rfl, Turned.same HDOC.out hA.out (Below.refl _ _)⟩
    · have n1 : ¬ 8 < n := h1
      have n2 : decide (8 < n) = false := decide_eq_false h1
      by_cases h2 : n < zn
      · rw [if_pos (.inl h2)] at hx
        subst hx
        have hq : growQ Q zt n = Q := by unfold growQ; rw [HX.out]; rfl
        rw [hq]
        clear hh hq hcells hz hgood
        go_enter Try.func13, Try.ntmps13
        go_wp2_with (go_at_call 34; refine (rplace_is zt _ h hm (by omega) HR HP).mono ?_; rintro e w1 ⟨rfl, hw1⟩; obtain rfl := hw1.symm)
        go_ret
        exact ⟨rfl, Turned.same HDOC.out hA.out (Below.refl _ _)⟩
      · rw [if_neg (by omega)] at hx
        subst hx
        have hq : growQ Q zt n = setQ Q zt n := by unfold growQ; rw [HX.out]; rfl
        rw [hq, set_at HR.out hz]
        have f1 : w.frozen? ⟨ga, j * 2 + 1, none⟩ = false := by
          rcases h.out.own.2 with ⟨e, _⟩ | ⟨g', cap', cur, e, _, hh', _⟩
          · cases e
          · injection e with e; injection e with e; injection e with e; subst e
            exact frozen_of_row _ _ _ _ _ hh'
        have n3 : decide (n < zn) = false := decide_eq_false h2
        have HM := Lib.hid hm
        clear hh hq hcells hz hgood
        go_enter Try.func13, Try.ntmps13
        go_wp2_with (go_at_call 34; refine (rplace_is zt _ h hm (by omega) HR HP).mono ?_; rintro e w1 ⟨rfl, hw1⟩; obtain rfl := hw1.symm)
        go_ret
        have hkA := HDOC.out.kA
        refine ⟨rfl, _, cap, ⟨?_, ?_⟩, (Only.refl _ _).setCell (.inl (by simp [bk])) _, fun _ q => .inl q, fun e => by cases e⟩
        · rw [List.length_set]
          exact (Below.heap_setCell _ _ _ _ (fun e => hkA (by simp [bk]; exact e))).trans HDOC.out.row
        · rw [List.length_set, rowP_set HZ.out]
          exact own_set HDOC.out.own
end Go.Proofs.Ytohfbmgonjkhhaa.L9
