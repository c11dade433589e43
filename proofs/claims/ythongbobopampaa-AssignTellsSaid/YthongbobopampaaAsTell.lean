/-
  What a law that asks both ways has in hand: each answer in every case; lists that may be spoilt.
-/
import Derived.Test.YthongbobopampaaAsRob
import Derived.Test.YthongbobopampaaAsDocNo
import Derived.Test.YthongbobopampaaAsCut2
import Derived.Test.YthongbobopampaaAsFixed
namespace Go.Proofs.Ythongbobopampaa.L10
open Go.RowKit
open L3 L4 L9

/-- topics, members and a partition of the law's own -/
structure AskP (W w : World) (ab pb : Nat) (A Am : Option Addr) (n c nm cm : Nat) (l : List Pt) (ms : List Mb) (t : ByteArray) (k : Int) : Prop where
  row : w.heap[ab]? = some (.cells #[.slice A n c, .slice Am nm cm] 25 (0, 0))
  prow : w.heap[pb]? = some (.cells #[.string t, .int .i64 k] 27 (0, 0))
  il : IsL w w.heap.size A n c l
  im : IsM w w.heap.size Am nm cm ms
  bel : Below W.heap.size W w
theorem AskP.below {W w w' : World} {ab pb n c nm cm : Nat} {A Am : Option Addr} {l : List Pt} {ms : List Mb} {t : ByteArray} {k : Int} (h : AskP W w ab pb A Am n c nm cm l ms t k) (h1 : Below w.heap.size w w') : AskP W w' ab pb A Am n c nm cm l ms t k :=
  ⟨(h1.block ab (Array.getElem?_eq_some_iff.1 h.row).1).trans h.row, (h1.block pb (Array.getElem?_eq_some_iff.1 h.prow).1).trans h.prow, (h.il.below h1).keep (fun _ _ q _ => q) h1.size, (h.im.below h1).keep (fun _ _ q _ => q) h1.size, h.bel.trans (h1.mono h.bel.size)⟩
theorem AskP.c {W w : World} {ab pb n c nm cm : Nat} {A Am : Option Addr} {l : List Pt} {ms : List Mb} {t : ByteArray} {k : Int} (h : AskP W w ab pb A Am n c nm cm l ms t k) : w.cell? ⟨ab, 0, none⟩ = some (.slice A n c) ∧ w.cell? ⟨ab, 1, none⟩ = some (.slice Am nm cm) ∧ w.cell? ⟨pb, 0, none⟩ = some (.string t) ∧ w.cell? ⟨pb, 1, none⟩ = some (.int .i64 k) :=
  ⟨(cell_of_row _ _ 0 _ _ _ h.row).trans rfl, (cell_of_row _ _ 1 _ _ _ h.row).trans rfl, (cell_of_row _ _ 0 _ _ _ h.prow).trans rfl, (cell_of_row _ _ 1 _ _ _ h.prow).trans rfl⟩
/-- behind the cut and the two stores -/
theorem askP_start {W W2 w1 : World} {A0 B0 A Am : Option Addr} {l0 m0 c0 d0 c cm ab pb : Nat} {L : List Pt} {M : List Mb} {t1 t : ByteArray} {k : Int} (h1 : Below W.heap.size W W2) (h2 : Below W2.heap.size W2 w1) (ha : W.heap.size ≤ ab) (hp : W.heap.size ≤ pb) (hne : ab ≠ pb)
    (hra : W2.heap[ab]? = some (.cells #[.slice A0 l0 c0, .slice B0 m0 d0] 25 (0, 0))) (hrp : W2.heap[pb]? = some (.cells #[.string t1, .int .i64 k] 27 (0, 0)))
    (hP : ∀ w2 : World, (∀ k, W2.heap.size ≤ k → k < w1.heap.size → w2.heap[k]? = w1.heap[k]?) → w1.heap.size ≤ w2.heap.size → IsL w2 w2.heap.size A L.length c L ∧ IsM w2 w2.heap.size Am M.length cm M) :
    AskP W (((w1.setCell ⟨ab, 0, none⟩ (.slice A L.length c)).setCell ⟨ab, 1, none⟩ (.slice Am M.length cm)).setCell ⟨pb, 0, none⟩ (.string t)) ab pb A Am L.length c M.length cm L M t k := by
  have la := (Array.getElem?_eq_some_iff.1 hra).1
  have lp := (Array.getElem?_eq_some_iff.1 hrp).1
  have r1 := (h2.block ab la).trans hra
  have r2 := (h2.block pb lp).trans hrp
  have s1 := set2 (v0 := .slice A L.length c) (v1 := .slice Am M.length cm) r1
  have s2 : ((w1.setCell ⟨ab, 0, none⟩ (.slice A L.length c)).setCell ⟨ab, 1, none⟩ (.slice Am M.length cm)).heap[pb]? = some (.cells #[.string t1, .int .i64 k] 27 (0, 0)) := ((Below.heap_setCell _ _ _ _ (Ne.symm hne)).trans (Below.heap_setCell _ _ _ _ (Ne.symm hne))).trans r2
  have hs : (((w1.setCell ⟨ab, 0, none⟩ (.slice A L.length c)).setCell ⟨ab, 1, none⟩ (.slice Am M.length cm)).setCell ⟨pb, 0, none⟩ (.string t)).heap.size = w1.heap.size := by simp [World.setCell]
  obtain ⟨hl, hm⟩ := hP (((w1.setCell ⟨ab, 0, none⟩ (.slice A L.length c)).setCell ⟨ab, 1, none⟩ (.slice Am M.length cm)).setCell ⟨pb, 0, none⟩ (.string t)) (fun i hi _ => ((Below.heap_setCell _ _ _ _ (by show i ≠ pb; omega)).trans (Below.heap_setCell _ _ _ _ (by show i ≠ ab; omega))).trans (Below.heap_setCell _ _ _ _ (by show i ≠ ab; omega))) (by rw [hs]; exact Nat.le_refl _)
  refine ⟨(Below.heap_setCell _ _ _ _ hne).trans s1, ?_, hl, hm, ?_⟩
  · exact heap_setCell_same _ pb 0 _ _ (.string t) s2
  · have hb : Below W.heap.size W w1 := h1.trans (h2.mono h1.size)
    exact ((hb.setCell (p := ⟨ab, 0, none⟩) ha _).setCell (p := ⟨ab, 1, none⟩) ha _).setCell (p := ⟨pb, 0, none⟩) hp _

/-! ### who has a partition -/
theorem who_is (L : List (List Pt)) (p : Pt) : ∃ v, WhoP L p v := by
  by_cases h : ∀ x ∈ L, p ∉ x
  · exact ⟨-1, .inr ⟨rfl, h⟩⟩
  · induction L with
    | nil => exact absurd (fun x hx => by cases hx) h
    | cons a t ih =>
      by_cases ha : p ∈ a
      · exact ⟨0, .inl ⟨0, rfl, by simp, ⟨a, rfl, ha⟩, fun j hj => by omega⟩⟩
      · have ht : ¬ ∀ x ∈ t, p ∉ x := fun q => h (fun x hx => by
          rcases List.mem_cons.1 hx with rfl | hx
          · exact ha
          · exact q x hx)
        obtain ⟨v, hv⟩ := ih ht
        rcases hv with ⟨i, rfl, hi, ⟨x, hx, hpx⟩, hno⟩ | ⟨_, hv⟩
        · refine ⟨((i + 1 : Nat) : Int), .inl ⟨i + 1, rfl, by simpa using hi, ⟨x, by simpa using hx, hpx⟩, fun j hj y hy => ?_⟩⟩
          cases j with
          | zero => simp at hy; subst hy; exact ha
          | succ j => exact hno j (by omega) y (by simpa using hy)
        · exact absurd hv ht

/-! ### lists that may be spoilt -/
def SP (w : World) (B : Nat) (s : Sl) : Prop := 0 < s.x.length → ∃ g cs, s.A = some ⟨g, 0, none⟩ ∧ B ≤ g ∧ w.heap[g]? = some (.cells cs 27 (0, 0)) ∧ 2 * s.x.length ≤ cs.size
/-- the row of lists, and each list, in blocks from B on -/
structure SL (w : World) (B : Nat) (A : Option Addr) (n c : Nat) (sl : List Sl) : Prop where
  len : sl.length = n
  row : w.ownsRow B 36 1 (.slice A n c) n (sl.map Sl.v)
  each : ∀ s ∈ sl, SP w B s
theorem SL.of {w : World} {B n c : Nat} {A : Option Addr} {sl : List Sl} (h : Lists w B (.slice A n c) sl) (hn : sl.length = n) : SL w B A n c sl := by
  subst hn
  refine ⟨rfl, h.out, fun s hs h0 => ?_⟩
  have hi := h.inn s hs
  obtain ⟨g, e, _, hc⟩ := own_reads hi rfl (own_lt hi) h0
  obtain ⟨cs, h1, hb⟩ := own_bk hi g (by rw [e]; simp [bk])
  refine ⟨g, cs, e, h1, hb, ?_⟩
  have q := (hc (s.x.length - 1) _ (List.getElem?_eq_getElem (show s.x.length - 1 < s.x.length by omega))).2
  rw [cell_of_row _ _ _ _ _ _ hb] at q
  have := (Array.getElem?_eq_some_iff.1 q).1
  omega
theorem SL.below {w w' : World} {B n c : Nat} {A : Option Addr} {sl : List Sl} (h : SL w B A n c sl) (hb : Below w.heap.size w w') : SL w' B A n c sl := by
  refine ⟨h.len, own_at h.row (fun k hk => hb.block k (h.row.lt k hk).2), fun s hs h0 => ?_⟩
  obtain ⟨g, cs, e, h1, h2, h3⟩ := h.each s hs h0
  exact ⟨g, cs, e, h1, (hb.block g (Array.getElem?_eq_some_iff.1 h2).1).trans h2, h3⟩
/-- a list's cell, and a partition's number in it -/
theorem SL.at {w : World} {B n c i : Nat} {A : Option Addr} {sl : List Sl} {s : Sl} (h : SL w B A n c sl) (hs : sl[i]? = some s) : ∃ g, A = some ⟨g, 0, none⟩ ∧ w.cell? ⟨g, i, none⟩ = some s.v := by
  have hi := (List.getElem?_eq_some_iff.1 hs).1
  rcases h.row.2 with ⟨_, q⟩ | ⟨g, cap, cur, q, h1, hh, _⟩
  · have := h.len; omega
  · injection q with q; subst q
    have c := h.row.cells (g := g) rfl i s.v (by rw [List.getElem?_map, hs]; rfl)
    rw [Addr.add_lit, Nat.zero_add] at c
    exact ⟨g, rfl, c⟩
theorem SP.cell {w : World} {B k : Nat} {s : Sl} (h : SP w B s) (hk : k < s.x.length) : ∃ g, s.A = some ⟨g, 0, none⟩ ∧ B ≤ g ∧ w.frozen? ⟨g, k * 2 + 1, none⟩ = false ∧ ∃ x, w.cell? ⟨g, k * 2 + 1, none⟩ = some x := by
  obtain ⟨g, cs, e, h1, h2, h3⟩ := h (by omega)
  exact ⟨g, e, h1, frozen_of_row _ _ _ _ _ h2, _, (cell_of_row _ _ _ _ _ _ h2).trans (Array.getElem?_eq_getElem (by omega))⟩
theorem SL.set {w : World} {B n c g' j : Nat} {A : Option Addr} {sl : List Sl} {s : Sl} {v : Value} (h : SL w B A n c sl) (hs : s ∈ sl) (h0 : 0 < s.x.length) (hA : s.A = some ⟨g', 0, none⟩) : SL (w.setCell ⟨g', j, none⟩ v) B A n c sl := by
  obtain ⟨g, cs, e, h1, h2, h3⟩ := h.each s hs h0
  rw [hA] at e; injection e with e; injection e with e; subst e
  refine ⟨h.len, own_at h.row (fun k hk => Below.heap_setCell _ _ _ _ (fun e => ?_)), fun s' hs' h0' => ?_⟩
  · obtain ⟨cs', _, _, q⟩ := own_bk' h.row hk
    have e' : k = g' := e
    rw [e', h2] at q; injection q with q; injection q with _ q; exact absurd q (by decide)
  · obtain ⟨g2, cs2, e2, k1, k2, k3⟩ := h.each s' hs' h0'
    by_cases hg : g2 = g'
    · subst hg
      exact ⟨g2, _, e2, k1, heap_setCell_same _ _ _ _ _ _ k2, by rw [Array.size_setIfInBounds]; exact k3⟩
    · exact ⟨g2, cs2, e2, k1, (Below.heap_setCell _ _ _ _ hg).trans k2, k3⟩

/-! ### each answer, in every case -/
def rangeX (l : List Pt) (ms : List Mb) (x : Int) : List (List Pt) := if x = 0 then rangeL l ms else []
def robinX (l : List Pt) (ms : List Mb) (x : Int) : List (List Pt) := if x = 0 then robinL l ms else []
theorem rangeX_64 {l : List Pt} {ms : List Mb} {x : Int} (h : chkE l ms x) : ∀ y ∈ rangeX l ms x, y.length ≤ 1000000 := fun y hy => by
  unfold rangeX at hy
  split at hy
  · rename_i e; subst e
    have := range_64 h hy; omega
  · cases hy
theorem robinX_64 {l : List Pt} {ms : List Mb} {x : Int} (h : chkE l ms x) : ∀ y ∈ robinX l ms x, y.length ≤ 1000000 := fun y hy => by
  unfold robinX at hy
  split at hy
  · rename_i e; subst e
    have := robin_64 h hy; omega
  · cases hy
/-- how many lists there are -/
def numX (nm : Nat) (x : Int) : Nat := if x = 0 then nm else 0
theorem rangeX_len (l : List Pt) (ms : List Mb) (x : Int) : (rangeX l ms x).length = numX ms.length x := by
  unfold rangeX numX
  split
  · exact listsL_len _ _
  · rfl
theorem robinX_len (l : List Pt) (ms : List Mb) (x : Int) : (robinX l ms x).length = numX ms.length x := by
  unfold robinX numX
  split
  · exact listsL_len _ _
  · rfl
section
variable (w : World) (A Am : Option Addr) (n c nm cm q : Nat) (l : List Pt) (ms : List Mb) (x : Int) (L : List (List Pt))
set_option maxRecDepth 100000 in
set_option maxHeartbeats 1000000 in
theorem range_any (hL : Hid (IsL w w.heap.size A n c l)) (hM : Hid (IsM w w.heap.size Am nm cm ms)) (HX : Hid (chkE l ms x)) (HR : Hid (rangeX l ms x = L)) (HQ : Hid (L.length = q)) :
    Calls Try.prog 5 #[.slice A n c, .slice Am nm cm] w fun e w' => ∃ A' c' sl, e = .returned (.tuple #[.slice A' q c', .int .i64 x]) ∧ SL w' w.heap.size A' q c' sl ∧ sl.map (·.x) = L ∧ ReadsL w' w.heap.size w'.heap.size A' L ∧ Below w.heap.size w w' := by
  by_cases h0 : x = 0
  · subst h0
    have HML := Lib.hid hM.out.len
    have hr := HR.out
    unfold rangeX at hr
    rw [if_pos rfl] at hr
    have hq : nm = q := by rw [← HQ.out, ← hr, ← HML.out]; exact (listsL_len _ _).symm
    have HRR := Lib.hid hr
    clear hr
    subst hq
    go_enter Try.func5, Try.ntmps5
    go_wp2_with (go_at_call 17; refine (share_range w w.heap.size A Am n c nm cm l ms hL hM (Nat.le_refl _) HX _ (Lib.hid rfl)).mono ?_; rintro e w1 ⟨g, rfl, hS⟩; have HS := Lib.hid hS; clear hS)
    go_ret2
    obtain ⟨sl, h1, h2, h3⟩ := HS.out
    have hs2 : sl.map (·.x) = L := by rw [h2, ← HRR.out]; unfold rangeL; rw [HML.out]
    exact ⟨_, _, sl, rfl, SL.of h1 (by have := congrArg List.length h2; simpa [listsL] using this), hs2, h1.reads hs2, h3.nil⟩
  · have hr : L = [] := by rw [← HR.out]; unfold rangeX; rw [if_neg h0]
    have hq : q = 0 := by rw [← HQ.out, hr]; rfl
    subst hr; subst hq
    exact (range_no w A Am n c nm cm l ms x h0 hL hM HX).mono fun e w' ⟨he, hb⟩ => ⟨none, 0, [], he, ⟨rfl, World.ownsRow_nil _ _ _ _, fun s hs => by cases hs⟩, rfl, (fun h => absurd h (by simp)), hb⟩
set_option maxRecDepth 100000 in
set_option maxHeartbeats 1000000 in
theorem rrange_any (hL : Hid (IsL w w.heap.size A n c l)) (hM : Hid (IsM w w.heap.size Am nm cm ms)) (HX : Hid (chkE l ms x)) (HR : Hid (rangeX l ms x = L)) (HQ : Hid (L.length = q)) :
    Calls Try.prog 6 #[.slice A n c, .slice Am nm cm] w fun e w' => ∃ A' c', e = .returned (.tuple #[.slice A' q c', .int .i64 x]) ∧ ReadsL w' w.heap.size w'.heap.size A' L ∧ Below w.heap.size w w' := by
  by_cases h0 : x = 0
  · subst h0
    have hr := HR.out
    unfold rangeX at hr
    rw [if_pos rfl] at hr
    have hq : nm = q := by rw [← HQ.out, ← hr, ← hM.out.len]; exact (listsL_len _ _).symm
    subst hq
    exact (rrange_ok w A Am n c nm cm l ms hL hM HX).mono fun e w' ⟨A', c', he, h1, h2⟩ => ⟨A', c', he, by rw [← hr]; exact h1, h2⟩
  · have hr : L = [] := by rw [← HR.out]; unfold rangeX; rw [if_neg h0]
    have hq : q = 0 := by rw [← HQ.out, hr]; rfl
    subst hr; subst hq
    exact (rrange_no w A Am n c nm cm l ms x h0 hL hM HX).mono fun e w' ⟨he, hb⟩ => ⟨none, 0, he, (fun h => absurd h (by simp)), hb⟩
theorem robin_any (hL : Hid (IsL w w.heap.size A n c l)) (hM : Hid (IsM w w.heap.size Am nm cm ms)) (HX : Hid (chkE l ms x)) (HR : Hid (robinX l ms x = L)) (HQ : Hid (L.length = q)) :
    Calls Try.prog 7 #[.slice A n c, .slice Am nm cm] w fun e w' => ∃ A' c', e = .returned (.tuple #[.slice A' q c', .int .i64 x]) ∧ ReadsL w' w.heap.size w'.heap.size A' L ∧ Below w.heap.size w w' := by
  by_cases h0 : x = 0
  · subst h0
    have hr := HR.out
    unfold robinX at hr
    rw [if_pos rfl] at hr
    have hq : nm = q := by rw [← HQ.out, ← hr, ← hM.out.len]; exact (listsL_len _ _).symm
    subst hq
    exact robin_ok w A Am n c nm cm l ms L hL hM HX (Lib.hid hr)
  · have hr : L = [] := by rw [← HR.out]; unfold robinX; rw [if_neg h0]
    have hq : q = 0 := by rw [← HQ.out, hr]; rfl
    subst hr; subst hq
    exact (robin_no w A Am n c nm cm l ms x h0 hL hM HX).mono fun e w' ⟨he, hb⟩ => ⟨none, 0, he, (fun h => absurd h (by simp)), hb⟩
theorem rrobin_any (hL : Hid (IsL w w.heap.size A n c l)) (hM : Hid (IsM w w.heap.size Am nm cm ms)) (HX : Hid (chkE l ms x)) (HR : Hid (robinX l ms x = L)) (HQ : Hid (L.length = q)) :
    Calls Try.prog 8 #[.slice A n c, .slice Am nm cm] w fun e w' => ∃ A' c', e = .returned (.tuple #[.slice A' q c', .int .i64 x]) ∧ ReadsL w' w.heap.size w'.heap.size A' L ∧ Below w.heap.size w w' := by
  by_cases h0 : x = 0
  · subst h0
    have hr := HR.out
    unfold robinX at hr
    rw [if_pos rfl] at hr
    have hq : nm = q := by rw [← HQ.out, ← hr, ← hM.out.len]; exact (listsL_len _ _).symm
    subst hq
    exact (rrobin_ok w A Am n c nm cm l ms hL hM HX).mono fun e w' ⟨A', c', he, h1, h2⟩ => ⟨A', c', he, by rw [← hr]; exact h1, h2⟩
  · have hr : L = [] := by rw [← HR.out]; unfold robinX; rw [if_neg h0]
    have hq : q = 0 := by rw [← HQ.out, hr]; rfl
    subst hr; subst hq
    exact (rrobin_no w A Am n c nm cm l ms x h0 hL hM HX).mono fun e w' ⟨he, hb⟩ => ⟨none, 0, he, (fun h => absurd h (by simp)), hb⟩
end
end Go.Proofs.Ythongbobopampaa.L10
