/-
  What a joiner has while a text's chunks are taken, told by which of them were: plain.
-/
import Derived.Test.YtlemcijgjebekaaChMath
import Derived.Test.YtlemcijgjebekaaMChFix
namespace Go.Proofs.Ytlemcijgjebekaa.L7
open L3

theorem bodies_all {s : ByteArray} {k : Nat} (hk : 1 ≤ k) : join ((List.range (nCh s k)).map (bodyC s k)) = s := by
  have h := join_split (s := s) hk
  have e : (splitL s k).map (·.b) = (List.range (nCh s k)).map (bodyC s k) := by unfold splitL; rw [List.map_map]; rfl
  rwa [e] at h
theorem nCh_le1 (s : ByteArray) (k : Nat) (hk : 1 ≤ k) (hs : s.size ≤ 1000) : nCh s k ≤ 1000 := by
  by_cases h : s.size = 0
  · rw [nCh_none hk h]; omega
  · have h1 := (nCh_some hk h).1
    have h2 : nCh s k - 1 ≤ (nCh s k - 1) * k := Nat.le_mul_of_pos_right _ hk
    omega
/-- how many were not taken -/
def leftN (h : List Bool) : Nat := h.countP (!·)
def fillM (f : Nat → ByteArray) (h : List Bool) : Js := h.mapIdx fun i b => if b then some (f i) else none
def hadM (f : Nat → ByteArray) (h : List Bool) : Js := if h.all (!·) then [] else fillM f h
theorem fillM_at (f : Nat → ByteArray) (h : List Bool) (i : Nat) : (fillM f h)[i]? = (h[i]?).map fun b => if b then some (f i) else none := by
  unfold fillM; rw [List.getElem?_mapIdx]
theorem fillM_len (f : Nat → ByteArray) (h : List Bool) : (fillM f h).length = h.length := by unfold fillM; rw [List.length_mapIdx]
theorem fillM_cnt : ∀ (f : Nat → ByteArray) (h : List Bool), cntM (fillM f h) + leftN h = h.length
  | _, [] => rfl
  | f, b :: h => by
    have e : fillM f (b :: h) = (if b then some (f 0) else none) :: fillM (fun i => f (i + 1)) h := by unfold fillM; rw [List.mapIdx_cons]
    have := fillM_cnt (fun i => f (i + 1)) h
    unfold cntM leftN at *
    rw [e, List.countP_cons, List.countP_cons, List.length_cons]
    cases b <;> simp <;> omega
theorem left_all (h : List Bool) : (h.all (!·) = true) ↔ leftN h = h.length := by
  unfold leftN; rw [List.countP_eq_length, List.all_eq_true]
theorem left_le (h : List Bool) : leftN h ≤ h.length := List.countP_le_length
theorem left_none {h : List Bool} (hz : leftN h = 0) {i : Nat} (hi : i < h.length) : h[i]? = some true := by
  unfold leftN at hz
  rw [List.countP_eq_zero] at hz
  have := hz h[i] (List.getElem_mem hi)
  rw [List.getElem?_eq_getElem hi]
  simpa using this
theorem left_take {h : List Bool} {i : Nat} {b : Bool} (hb : h[i]? = some b) : leftN (h.take (i + 1)) = leftN (h.take i) + if b then 0 else 1 := by
  unfold leftN
  rw [List.take_add_one, hb]
  cases b <;> simp
theorem left_start (n : Nat) : leftN (List.replicate n false) = n := by unfold leftN; rw [List.countP_replicate]; rfl
theorem left_pos {h : List Bool} {i : Nat} (hi : h[i]? = some false) : leftN h ≠ 0 := fun e => by
  rw [left_none e (List.getElem?_eq_some_iff.1 hi).1] at hi; cases hi
theorem hadM_len {f : Nat → ByteArray} {h : List Bool} (ha : hadM f h ≠ []) : (hadM f h).length = h.length := by
  unfold hadM at *
  split
  · rename_i q; rw [if_pos q] at ha; exact absurd rfl ha
  · exact fillM_len f h
theorem hadM_at {f : Nat → ByteArray} {h : List Bool} {i : Nat} : valM (hadM f h) (i : Int) = if h[i]? = some true then some (f i) else none := by
  rw [valM_nat]
  unfold hadM
  split
  · rename_i q
    rw [if_neg]
    · rfl
    · intro e
      rw [List.all_eq_true] at q
      have := q true (List.mem_of_getElem? e)
      cases this
  · rw [fillM_at]
    cases h[i]? with
    | none => rfl
    | some b => cases b <;> rfl
theorem fill_set (f : Nat → ByteArray) (h : List Bool) (i : Nat) : (fillM f h).set i (some (f i)) = fillM f (h.set i true) := by
  apply List.ext_getElem?
  intro j
  rw [fillM_at, List.getElem?_set, List.getElem?_set, fillM_len, fillM_at]
  by_cases e : i = j
  · subst e
    rw [if_pos rfl, if_pos rfl]
    split <;> rfl
  · rw [if_neg e, if_neg e]
theorem fill_none (f : Nat → ByteArray) (h : List Bool) (ha : h.all (!·) = true) : fillM f h = List.replicate h.length none := by
  apply List.ext_getElem?
  intro j
  rw [fillM_at, List.getElem?_replicate]
  by_cases hj : j < h.length
  · rw [if_pos hj]
    rw [List.all_eq_true] at ha
    have := ha h[j] (List.getElem_mem hj)
    rw [List.getElem?_eq_getElem hj]
    cases hb : h[j] <;> simp_all
  · rw [if_neg hj, List.getElem?_eq_none (by omega)]; rfl
theorem had_base (f : Nat → ByteArray) (h : List Bool) (h0 : h ≠ []) : baseM (hadM f h) h.length = fillM f h := by
  unfold baseM hadM
  by_cases q : h.all (!·) = true
  · rw [if_pos q, if_pos rfl, fill_none f h q]; simp
  · rw [if_neg q, if_neg]
    intro e
    have := congrArg List.length e
    rw [fillM_len] at this
    exact h0 (List.length_eq_zero_iff.1 (by simpa using this))
theorem had_set {f : Nat → ByteArray} {h : List Bool} {i : Nat} (hi : i < h.length) : hadM f (h.set i true) = fillM f (h.set i true) := by
  unfold hadM
  rw [if_neg]
  intro q
  rw [List.all_eq_true] at q
  have := q true (List.mem_of_getElem? (i := i) (by rw [List.getElem?_set_self hi]))
  cases this
/-- a further chunk is taken -/
theorem had_take {f : Nat → ByteArray} {h : List Bool} {i : Nat} (hi : i < h.length) : (baseM (hadM f h) h.length).set i (some (f i)) = hadM f (h.set i true) := by
  rw [had_base f h (by intro e; subst e; simp at hi), fill_set, had_set hi]
theorem had_form (f : Nat → ByteArray) (h : List Bool) : hadM f h = [] ∨ (h.length : Int) = (hadM f h).length := by
  by_cases q : hadM f h = []
  · exact .inl q
  · exact .inr (by rw [hadM_len q])
theorem had_there {f : Nat → ByteArray} {h : List Bool} {i : Nat} (hi : h[i]? = some true) : hadM f h ≠ [] ∧ h.set i true = h := by
  constructor
  · unfold hadM
    rw [if_neg]
    · intro e
      have := congrArg List.length e
      rw [fillM_len] at this
      have h2 := (List.getElem?_eq_some_iff.1 hi).1
      have h3 : h.length = 0 := this
      omega
    · intro q
      rw [List.all_eq_true] at q
      have := q true (List.mem_of_getElem? hi)
      cases this
  · apply List.ext_getElem?
    intro j
    rw [List.getElem?_set]
    split
    · rename_i e; subst e; rw [if_pos (List.getElem?_eq_some_iff.1 hi).1, hi]
    · rfl
/-- how many are missing -/
def missN (h : List Bool) : Nat := if h.all (!·) then 0 else leftN h
theorem had_miss (f : Nat → ByteArray) (h : List Bool) : (missing (hadM f h)).length = missN h := by
  unfold missN hadM
  split
  · rfl
  · have h1 := missing_len (fillM f h)
    have h2 := fillM_cnt f h
    rw [fillM_len] at h1
    omega
theorem miss_le (h : List Bool) : missN h ≤ h.length := by
  unfold missN; split
  · omega
  · exact left_le h
/-- all were taken -/
theorem had_all {f : Nat → ByteArray} {h : List Bool} (hz : leftN h = 0) (h0 : h.length ≠ 0) : hadM f h ≠ [] ∧ ¬ cntM (hadM f h) < (hadM f h).length ∧ bodies (hadM f h) = (List.range h.length).map f := by
  have hn : ¬ (h.all (!·) = true) := fun q => by rw [left_all] at q; omega
  have e : hadM f h = fillM f h := by unfold hadM; rw [if_neg hn]
  rw [e]
  refine ⟨fun q => ?_, ?_, ?_⟩
  · have := congrArg List.length q
    rw [fillM_len] at this
    exact h0 this
  · have := fillM_cnt f h
    rw [fillM_len]; omega
  · apply List.ext_getElem?
    intro j
    unfold bodies
    rw [List.getElem?_map, fillM_at, List.getElem?_map]
    by_cases hj : j < h.length
    · rw [left_none hz hj, List.getElem?_range hj]; rfl
    · rw [List.getElem?_eq_none (by omega), List.getElem?_eq_none (by simp; omega)]; rfl
theorem had_some {f : Nat → ByteArray} {h : List Bool} (hz : leftN h ≠ 0) : hadM f h = [] ∨ cntM (hadM f h) < (hadM f h).length := by
  by_cases q : hadM f h = []
  · exact .inl q
  · right
    have e : hadM f h = fillM f h := by
      unfold hadM at *; split
      · rename_i p; rw [if_pos p] at q; exact absurd rfl q
      · rfl
    have := fillM_cnt f h
    rw [hadM_len q, e]; omega
theorem missN_zero {h : List Bool} {i : Nat} (hz : leftN h ≠ 0) (hm : missN h = 0) (hi : i < h.length) : h[i]? = some false := by
  unfold missN at hm
  by_cases q : h.all (!·) = true
  · rw [List.all_eq_true] at q
    have := q h[i] (List.getElem_mem hi)
    rw [List.getElem?_eq_getElem hi]
    cases hb : h[i] <;> simp_all
  · rw [if_neg q] at hm; omega
theorem missN_any {h : List Bool} {i : Nat} (hi : h[i]? = some true) : missN h = leftN h := by
  unfold missN
  rw [if_neg]
  intro q
  rw [List.all_eq_true] at q
  have := q true (List.mem_of_getElem? hi)
  cases this
theorem missN_full {h : List Bool} (hz : leftN h = 0) : missN h = 0 := by unfold missN; split <;> omega
end Go.Proofs.Ytlemcijgjebekaa.L7
/-
  The calls on a joiner while a text's chunks are taken.
-/
namespace Go.Proofs.Ytlemcijgjebekaa.L7
open Go.RowKit
open L3 L4 L5

def rowT (h : List Bool) : List Value := h.map Value.bool
theorem rowT_len (h : List Bool) : (rowT h).length = h.length := by simp [rowT]
theorem boolInfo : (Try.prog.info? 4).map (fun i => (i.zero, i.size, i.bytes)) = some (some (.bool false), 1, 1) := by kernel_rfl
/-- what lies in memory: a row of chunks, a joiner that has some of them, a row of marks -/
structure WX (w W : World) (gl g bm gh D : Nat) (cur : Array Value) (f : Nat → ByteArray) (h hr : List Bool) : Prop where
  fx : FX w W gl g bm D cur none 0 [] (hadM f h)
  r : W.heap[gh]? = some (.cells (rowT hr).toArray 4 (0, 0))
  h1 : gh ≠ g
  h2 : gh ≠ bm
  h3 : gh ≠ gl
  h0 : w.heap.size ≤ gh
section
variable {w W W' : World} {gl g bm gh D : Nat} {cur : Array Value} {f : Nat → ByteArray} {h h' hr : List Bool}
theorem WX.below (H : WX w W gl g bm gh D cur f h hr) (b : Below W.heap.size W W') : WX w W' gl g bm gh D cur f h hr :=
  ⟨H.fx.below b, (b.block _ (Array.getElem?_eq_some_iff.1 H.r).1).trans H.r, H.h1, H.h2, H.h3, H.h0⟩
theorem WX.lets (H : WX w W gl g bm gh D cur f h hr) (j : Jn W' g bm D (hadM f h')) (k : Lets [g, bm] W W') : WX w W' gl g bm gh D cur f h' hr :=
  ⟨H.fx.lets j k, (k.block _ (Array.getElem?_eq_some_iff.1 H.r).1 (by simp [H.h1, H.h2])).trans H.r, H.h1, H.h2, H.h3, H.h0⟩
theorem WX.lt (H : WX w W gl g bm gh D cur f h hr) : gh < W.heap.size := (Array.getElem?_eq_some_iff.1 H.r).1
theorem WX.cell (H : WX w W gl g bm gh D cur f h hr) {i : Nat} {b : Bool} (hi : hr[i]? = some b) : W.cell? ⟨gh, i, none⟩ = some (.bool b) := by
  refine (cell_of_row _ _ i _ _ _ H.r).trans ?_
  rw [List.getElem?_toArray]; simp [rowT, hi]
theorem WX.froz (H : WX w W gl g bm gh D cur f h hr) (i : Nat) : W.frozen? ⟨gh, i, none⟩ = false := frozen_of_row _ _ _ _ _ H.r
theorem WX.store (H : WX w W gl g bm gh D cur f h hr) (i : Nat) (b : Bool) : WX w (W.setCell ⟨gh, i, none⟩ (.bool b)) gl g bm gh D cur f h (hr.set i b) := by
  have hq : ∀ j, j ≠ gh → (W.setCell ⟨gh, i, none⟩ (.bool b)).heap[j]? = W.heap[j]? := fun j hj => Below.heap_setCell _ _ _ _ (fun e => hj e)
  refine ⟨⟨(hq _ H.h3.symm).trans H.fx.l, ⟨(hq _ H.h1.symm).trans H.fx.j.row, H.fx.j.has.at (hq _ H.h2.symm)⟩, H.fx.b.setCell (p := ⟨gh, i, none⟩) H.h0 _, H.fx.h0, H.fx.hg, H.fx.hb, H.fx.g0, H.fx.b0, 0, World.ownsRow_nil _ _ _ _⟩, ?_, H.h1, H.h2, H.h3, H.h0⟩
  rw [heap_setCell_same W gh i _ _ (.bool b) H.r]
  simp [rowT, List.map_set]
theorem wx_whole (n : Nat) (s t : ByteArray) (q : Bool) (H : Hid (WX w W gl g bm gh D cur f h hr)) (hn : h.length = n) (n0 : 1 ≤ n) (hl : n ≤ 4096) (hs : Hid (join ((List.range n).map f) = s)) (hz : s.size ≤ 1000000) (hD : Hid (digest s = D)) (hq : Hid (decide (leftN h = 0) = q)) (ht : Hid ((if q then s else ⟨#[]⟩) = t)) :
    Calls Try.prog 54 #[.pointer (some ⟨g, 0, none⟩)] W fun e w' => e = .returned (.tuple #[.string t, .bool q]) ∧ WX w w' gl g bm gh D cur f h hr := by
  subst hn
  cases q with
  | false =>
    have hz := hq.out
    obtain rfl : ⟨#[]⟩ = t := ht.out
    refine (whole_no (Lib.hid H.out.fx.j) (had_some (by simpa using hz))).mono ?_
    rintro e w' ⟨rfl, hb⟩
    exact ⟨rfl, H.out.below hb⟩
  | true =>
    have hz' := hq.out
    obtain rfl : s = t := ht.out
    obtain ⟨x1, x2, x3⟩ := had_all (f := f) (h := h) (by simpa using hz') (by omega)
    refine (whole_all h.length D s (Lib.hid H.out.fx.j) x1 (hadM_len x1) hl x2 (Lib.hid (by rw [x3]; exact hs.out)) hz hD).mono ?_
    rintro e w' (⟨_, rfl, hb⟩ | ⟨hne, _⟩)
    · exact ⟨rfl, H.out.below hb⟩
    · exact absurd rfl hne
theorem wx_miss (n q : Nat) (H : Hid (WX w W gl g bm gh D cur f h hr)) (hn : h.length = n) (hl : n ≤ 4096) (hq : Hid (missN h = q)) :
    Calls Try.prog 55 #[.pointer (some ⟨g, 0, none⟩)] W fun e w' => ∃ A c, e = .returned (.slice A q c) ∧ WX w w' gl g bm gh D cur f h hr := by
  have hle : (hadM f h).length ≤ 4096 := by
    by_cases e : hadM f h = []
    · rw [e]; simp
    · rw [hadM_len e]; omega
  have hm := had_miss f h
  rw [hq.out] at hm
  refine (missing_any _ (Lib.hid H.out.fx.j) rfl hle).mono ?_
  rw [hm]
  rintro e w' ⟨A, c, rfl, _, hb⟩
  exact ⟨A, c, rfl, H.out.below hb⟩
theorem wx_take (n i : Nat) (b : ByteArray) (H : Hid (WX w W gl g bm gh D cur f h hr)) (hn : h.length = n) (hi : i < n) (hb : Hid (f i = b)) (hr' : Hid (right ⟨i, n, D, b⟩ = true)) :
    Calls Try.prog 51 #[.pointer (some ⟨g, 0, none⟩), .agg #[.int .i64 i, .int .i64 n, .int .u64 D, .string b]] W fun e w' => e = .returned (.int .i64 0) ∧ WX w w' gl g bm gh D cur f (h.set i true) hr := by
  subst hn
  have hv := hadM_at (f := f) (h := h) (i := i)
  obtain ⟨x, hx⟩ : ∃ x, h[i]? = some x := ⟨_, List.getElem?_eq_getElem hi⟩
  cases x with
  | true =>
    obtain ⟨x1, x2⟩ := had_there (f := f) hx
    rw [if_pos hx, hb.out] at hv
    refine (take_there i h.length D b (Lib.hid H.out.fx.j) hr' b hv (by rw [hadM_len x1]; simpa using (by omega : h.length ≠ 0)) (by rw [hadM_len x1]; simp) 0 (Lib.hid (by simp))).mono ?_
    rintro e w' ⟨rfl, hbel⟩
    rw [x2]
    exact ⟨rfl, H.out.below hbel⟩
  | false =>
    rw [if_neg (by rw [hx]; simp)] at hv
    refine (take_new i h.length D b (Lib.hid H.out.fx.j) hr' hv (had_form f h)).mono ?_
    have e := had_take (f := f) hi
    rw [hb.out] at e
    rw [Int.toNat_natCast, e]
    rintro e w' ⟨rfl, hj, hk⟩
    exact ⟨rfl, H.out.lets hj hk⟩
end
theorem split_row {w w1 : World} {n c : Nat} {L : List Ck} (ho : w1.ownsRow w.heap.size 71 4 (.slice (some ⟨w.heap.size, 0, none⟩) n c) n (rowC L)) : ∃ cur, w1.heap[w.heap.size]? = some (.cells cur 71 (0, 0)) ∧ cur.toList.take (n * 4) = rowC L ∧ n ≤ c := by
  rcases ho.2 with ⟨q, _⟩ | ⟨g, cap, cur, q, _, hh, h1, _, _, h2⟩
  · cases q
  · injection q with q1 _ q3; injection q1 with q1; injection q1 with q1; subst q1; subst q3
    exact ⟨cur, hh, h2, h1⟩
theorem rowC_at : ∀ (l : List Ck) (j : Nat) (c : Ck), l[j]? = some c → (rowC l)[j * 4]? = some (.int .i64 c.i) ∧ (rowC l)[j * 4 + 1]? = some (.int .i64 c.n) ∧ (rowC l)[j * 4 + 2]? = some (.int .u64 c.d) ∧ (rowC l)[j * 4 + 3]? = some (.string c.b)
  | [], j, c, h => by simp at h
  | a :: l, 0, c, h => by simp at h; subst h; exact ⟨rfl, rfl, rfl, rfl⟩
  | a :: l, j + 1, c, h => by
    have := rowC_at l j c (by simpa using h)
    have e : (j + 1) * 4 = j * 4 + 4 := by omega
    rw [e]
    exact this
theorem wx_four {w W : World} {gl g bm gh D n j i0 m0 d0 : Nat} {b0 : ByteArray} {cur : Array Value} {f : Nat → ByteArray} {h hr : List Bool} {L : List Ck} (H : WX w W gl g bm gh D cur f h hr) (HT : Hid (cur.toList.take n = rowC L)) (hat : L[j]? = some ⟨i0, m0, d0, b0⟩) :
    W.cell? ⟨gl, j * 4, none⟩ = some (.int .i64 i0) ∧ W.cell? ⟨gl, j * 4 + 1, none⟩ = some (.int .i64 m0) ∧ W.cell? ⟨gl, j * 4 + 2, none⟩ = some (.int .u64 d0) ∧ W.cell? ⟨gl, j * 4 + 3, none⟩ = some (.string b0) := by
  obtain ⟨e0, e1, e2, e3⟩ := rowC_at _ _ _ hat
  exact ⟨H.fx.cells n HT.out _ _ e0, H.fx.cells n HT.out _ _ e1, H.fx.cells n HT.out _ _ e2, H.fx.cells n HT.out _ _ e3⟩
theorem wx_start {w w3 w4 : World} {g bm n D : Nat} {cur : Array Value} {f : Nat → ByteArray} (ho : w4.ownsRow w3.heap.size 4 1 (.slice (some ⟨w3.heap.size, 0, none⟩) n n) n (madeCells (Value.bool false).cells (n * 1)).toList) (hg : w3.grownBy w4 none) (F : FX w w3 w.heap.size g bm D cur none 0 [] []) :
    WX w w4 w.heap.size g bm w3.heap.size D cur f (List.replicate n false) (List.replicate n false) := by
  have hB : Below w3.heap.size w3 w4 := (Below.refl _ _).grown hg (Nat.le_refl _) (fun j e => by cases e)
  have e : hadM f (List.replicate n false) = [] := by
    unfold hadM
    rw [if_pos (by rw [List.all_eq_true]; intro x hx; rw [(List.mem_replicate.1 hx).2]; rfl)]
  obtain ⟨cur', hc, hz⟩ : ∃ cur', w4.heap[w3.heap.size]? = some (.cells cur' 4 (0, 0)) ∧ cur'.size = n ∧ cur'.toList.take n = (madeCells (Value.bool false).cells (n * 1)).toList := by
    rcases ho.2 with ⟨q, _⟩ | ⟨k, cap, cur', q, _, hh, h1, _, h3, h2⟩
    · cases q
    · injection q with q1 _ q3; injection q1 with q1; injection q1 with q1; subst q1; subst q3
      exact ⟨cur', hh, by omega, by simpa using h2⟩
  have hr : cur' = (rowT (List.replicate n false)).toArray := by
    apply Array.ext'
    have h1 : cur'.toList.take n = cur'.toList := List.take_of_length_le (by simp [hz.1])
    rw [← h1, hz.2]
    have hm : ∀ x, x ∈ (madeCells (Value.bool false).cells (n * 1)).toList → x = .bool false := fun x hx => by
      simp only [madeCells, Value.cells, Nat.mul_one] at hx
      simp only [Array.mem_toList_iff, Array.mem_map, Array.mem_range] at hx
      obtain ⟨a, _, rfl⟩ := hx
      have e0 : a % (#[Value.bool false] : Array Value).size = 0 := Nat.mod_one a
      rw [e0]; rfl
    have hl : (madeCells (Value.bool false).cells (n * 1)).toList.length = n := by simp [madeCells]
    rw [List.eq_replicate_of_mem hm, hl]
    simp [rowT]
  subst hr
  have l1 := (Array.getElem?_eq_some_iff.1 F.l).1
  have l2 := F.j.lt
  have l3 := F.j.has.lt
  exact ⟨by rw [e]; exact F.below hB, hc, by omega, by omega, by omega, F.b.size⟩
theorem get_k (i n d : Nat) (b t : ByteArray) (w : World) (hd : d < 18446744073709551616) (hr : Hid (right ⟨i, n, d, b⟩ = true)) (hu : Hid (putC ⟨i, n, d, b⟩ = t)) :
    Calls Try.prog 47 #[.string t] w fun e w' => e = .returned (.tuple #[.agg #[.int .i64 i, .int .i64 n, .int .u64 d, .string b], .int .i64 0]) ∧ Below w.heap.size w w' := by
  have hz := putC_size hr.out hd
  rw [hu.out] at hz
  refine (cget_is t w (by omega) ⟨i, n, d, b⟩ 0 (Lib.hid ?_)).mono ?_
  · rw [← hu.out]; exact GetU.put hr.out hd
  · rintro e w' ⟨rfl, hb⟩
    exact ⟨rfl, hb⟩
end Go.Proofs.Ytlemcijgjebekaa.L7
