/-
  Contract: a record of a segment's text.
-/
import Derived.Test.YtlemcijgjebekaaChGet
import Derived.Test.YtlemcijgjebekaaChText
import Derived.Test.YtlemcijgjebekaaRecGet
import Derived.Maps.AppendAt
namespace Go.Proofs.Ytlemcijgjebekaa.L7
open Go.RowKit
open L3 L4 L5

theorem row5_facts {w : World} {k : Nat} {T : TypeId} {x y z u v : Value} (h : w.heap[k]? = some (.cells #[x, y, z, u, v] T (0, 0))) :
    w.cell? ⟨k, 0, none⟩ = some x ∧ w.cell? ⟨k, 1, none⟩ = some y ∧ w.cell? ⟨k, 2, none⟩ = some z ∧ w.cell? ⟨k, 3, none⟩ = some u ∧ w.cell? ⟨k, 4, none⟩ = some v ∧ w.frozen? ⟨k, 0, none⟩ = false ∧ w.frozen? ⟨k, 1, none⟩ = false ∧ w.frozen? ⟨k, 2, none⟩ = false ∧ w.frozen? ⟨k, 3, none⟩ = false ∧ w.frozen? ⟨k, 4, none⟩ = false := by
  simp [World.cell?, World.frozen?, h]
set_option maxRecDepth 100000 in
set_option maxHeartbeats 2000000 in
theorem found_e1 (s : ByteArray) (at_ a : Int) (w : World) (hs : s.size ≤ 1000000) (g : Nat) (t0 x : Int) (HG : Hid (V.get s at_ = (g, t0, x))) (hx : (x != 0) = true) :
    Calls Try.prog 93 #[.string s, .int .i64 at_, .int .i64 a] w fun r w' => r = .returned (.tuple #[.agg #[.int .i64 0, .bool false, .string ⟨#[]⟩, .bool false, .string ⟨#[]⟩], .int .i64 0, .bool false]) ∧ Below w.heap.size w w' := by
  go_enter Try.func93, Try.ntmps93
  go_wp2_with (first
    | (go_at_call 128; refine (get_is s at_ _ (by unfold maxLen; omega) g t0 x HG).mono ?_; rintro _ w0 ⟨rfl, rfl⟩))
  exact bodyPost_ret (v := .tuple #[.agg #[.int .i64 0, .bool false, .string ⟨#[]⟩, .bool false, .string ⟨#[]⟩], .int .i64 0, .bool false]) (by simp [results, Try.results93, go_sem]) rfl ⟨rfl, one_box _⟩
set_option maxRecDepth 100000 in
set_option maxHeartbeats 2000000 in
theorem found_e2 (s : ByteArray) (at_ a : Int) (w : World) (hs : s.size ≤ 1000000) (g : Nat) (t0 to x : Int) (r : R) (HG : Hid (V.get s at_ = (g, t0, 0))) (HR : Hid (getR s t0 = (r, to, x))) (hx : (x != 0) = true) :
    Calls Try.prog 93 #[.string s, .int .i64 at_, .int .i64 a] w fun r w' => r = .returned (.tuple #[.agg #[.int .i64 0, .bool false, .string ⟨#[]⟩, .bool false, .string ⟨#[]⟩], .int .i64 0, .bool false]) ∧ Below w.heap.size w w' := by
  go_enter Try.func93, Try.ntmps93
  go_wp2_with (first
    | (go_at_call 129; refine (L3.getrec_is s t0 r to x _ (by omega) HR).mono ?_; rintro e w1 ⟨rfl, hb1⟩; have hz1 : w.heap.size < w1.heap.size := (by have hq := hb1.size; simp at hq; omega); have HB1 : Hid (Below w.heap.size w w1) := Lib.hid ((one_box _).trans (hb1.mono (by simp))); have HR1 : Hid (w1.heap[w.heap.size]? = some (.cells #[.int .i64 0, .bool false, .string ⟨#[]⟩, .bool false, .string ⟨#[]⟩] 43 (0, 0))) := Lib.hid ((hb1.block _ (by simp)).trans (heap_alloc_new _ _)); obtain ⟨c0, c1, c2, c3, c4, f0, f1, f2, f3, f4⟩ := row5_facts HR1.out)
    | (go_at_call 128; refine (get_is s at_ _ (by unfold maxLen; omega) g t0 0 HG).mono ?_; rintro _ w0 ⟨rfl, rfl⟩))
  refine bodyPost_ret (v := .tuple #[.agg #[.int .i64 0, .bool false, .string ⟨#[]⟩, .bool false, .string ⟨#[]⟩], .int .i64 0, .bool false]) (L3.results_row3 (p := 6) (t1 := 7) (t2 := 8) (ty := 43) Try.results93 _ _ w.heap.size 43 #[(.int .i64 0), (.bool false), (.string ⟨#[]⟩), (.bool false), (.string ⟨#[]⟩)] (0, 0) _ rfl ?row Try.underlying43 rfl (by kernel_rfl)) rfl ⟨rfl, ?_⟩
  case row =>
    refine (Below.heap_alloc _ _ _ (by simp <;> omega)).trans ?_
    exact heap_setCell_same _ w.heap.size 4 _ _ (.string ⟨#[]⟩) (heap_setCell_same _ w.heap.size 3 _ _ (.bool false) (heap_setCell_same _ w.heap.size 2 _ _ (.string ⟨#[]⟩) (heap_setCell_same _ w.heap.size 1 _ _ (.bool false) (heap_setCell_same _ w.heap.size 0 _ _ (.int .i64 0) HR1.out))))
  repeat (first | with_reducible exact HB1.out | refine Below.setCell ?_ (by simp <;> omega) _ | refine Below.alloc ?_ (by simp <;> omega) _)
set_option maxRecDepth 100000 in
set_option maxHeartbeats 2000000 in
theorem found_ok (s : ByteArray) (at_ a : Int) (w : World) (hs : s.size ≤ 1000000) (g : Nat) (t0 to : Int) (hk : Bool) (key : ByteArray) (tb : Bool) (val : ByteArray) (HG : Hid (V.get s at_ = (g, t0, 0))) (HR : Hid (getR s t0 = (⟨hk, key, tb, val⟩, to, 0))) :
    Calls Try.prog 93 #[.string s, .int .i64 at_, .int .i64 a] w fun r w' => r = .returned (.tuple #[.agg #[.int .i64 (wrap64 (a + wrap64 (g : Int))), .bool hk, .string key, .bool tb, .string val], .int .i64 to, .bool true]) ∧ Below w.heap.size w w' := by
  go_enter Try.func93, Try.ntmps93
  go_wp2_with (first
    | (go_at_call 129; refine (L3.getrec_is s t0 ⟨hk, key, tb, val⟩ to 0 _ (by omega) HR).mono ?_; rintro e w1 ⟨rfl, hb1⟩; have hz1 : w.heap.size < w1.heap.size := (by have hq := hb1.size; simp at hq; omega); have HB1 : Hid (Below w.heap.size w w1) := Lib.hid ((one_box _).trans (hb1.mono (by simp))); have HR1 : Hid (w1.heap[w.heap.size]? = some (.cells #[.int .i64 0, .bool false, .string ⟨#[]⟩, .bool false, .string ⟨#[]⟩] 43 (0, 0))) := Lib.hid ((hb1.block _ (by simp)).trans (heap_alloc_new _ _)); obtain ⟨c0, c1, c2, c3, c4, f0, f1, f2, f3, f4⟩ := row5_facts HR1.out)
    | (go_at_call 128; refine (get_is s at_ _ (by unfold maxLen; omega) g t0 0 HG).mono ?_; rintro _ w0 ⟨rfl, rfl⟩))
  refine bodyPost_ret (v := .tuple #[.agg #[.int .i64 (wrap64 (a + wrap64 (g : Int))), .bool hk, .string key, .bool tb, .string val], .int .i64 to, .bool true]) (L3.results_row3 (p := 6) (t1 := 7) (t2 := 8) (ty := 43) Try.results93 _ _ w.heap.size 43 #[(.int .i64 (wrap64 (a + wrap64 (g : Int)))), (.bool hk), (.string key), (.bool tb), (.string val)] (0, 0) _ rfl ?row Try.underlying43 rfl (by kernel_rfl)) rfl ⟨rfl, ?_⟩
  case row =>
    refine (Below.heap_alloc _ _ _ (by simp <;> omega)).trans ?_
    exact heap_setCell_same _ w.heap.size 4 _ _ (.string val) (heap_setCell_same _ w.heap.size 3 _ _ (.bool tb) (heap_setCell_same _ w.heap.size 2 _ _ (.string key) (heap_setCell_same _ w.heap.size 1 _ _ (.bool hk) (heap_setCell_same _ w.heap.size 0 _ _ (.int .i64 (wrap64 (a + wrap64 (g : Int)))) HR1.out))))
  repeat (first | with_reducible exact HB1.out | refine Below.setCell ?_ (by simp <;> omega) _ | refine Below.alloc ?_ (by simp <;> omega) _)
end Go.Proofs.Ytlemcijgjebekaa.L7
/-
  Contract: the segment of a text.
-/
namespace Go.Proofs.Ytlemcijgjebekaa.L7
open Go.RowKit
open L3 L4 L5

/-! ### plain -/
def oneF (s : ByteArray) (at_ a : Int) : Option (L4.Fd × Int) :=
  if (V.get s at_).2.2 ≠ 0 then none
  else if (getR s (V.get s at_).2.1).2.2 ≠ 0 then none
  else some (⟨wrap64 (a + wrap64 ((V.get s at_).1 : Int)), (getR s (V.get s at_).2.1).1⟩, (getR s (V.get s at_).2.1).2.1)
/-- so many records, what stands behind them, and the least offset of the next -/
def readF (s : ByteArray) (p b : Int) : Nat → Option (List L4.Fd × Int × Int)
  | 0 => some ([], p, b)
  | k + 1 => match readF s p b k with
    | none => none
    | some (L, at_, a) => match oneF s at_ a with
      | none => none
      | some (f, to) => some (L ++ [f], to, wrap64 (f.o + 1))
theorem readF_stop {s : ByteArray} {p b : Int} {k : Nat} (h : readF s p b k = none) : ∀ d, readF s p b (k + d) = none
  | 0 => h
  | d + 1 => by
    show (match readF s p b (k + d) with | none => none | some (L, at_, a) => _) = none
    rw [readF_stop h d]
theorem readF_next {s : ByteArray} {p b at_ a : Int} {k : Nat} {L : List L4.Fd} (h : readF s p b k = some (L, at_, a)) : readF s p b (k + 1) = (match oneF s at_ a with | none => none | some (f, to) => some (L ++ [f], to, wrap64 (f.o + 1))) := by
  show (match readF s p b k with | none => none | some (L, at_, a) => _) = _
  rw [h]
theorem oneF_ok {s : ByteArray} {at_ a : Int} {f : L4.Fd} {to : Int} (h : oneF s at_ a = some (f, to)) :
    ∃ g t0, V.get s at_ = (g, t0, 0) ∧ getR s t0 = (f.r, to, 0) ∧ f.o = wrap64 (a + wrap64 (g : Int)) := by
  unfold oneF at h
  split at h
  · cases h
  · rename_i h1
    split at h
    · cases h
    · rename_i h2
      simp only [Option.some.injEq, Prod.mk.injEq] at h
      obtain ⟨rfl, rfl⟩ := h
      refine ⟨(V.get s at_).1, (V.get s at_).2.1, Prod.ext rfl (Prod.ext rfl (by simpa using h1)), Prod.ext rfl (Prod.ext rfl (by simpa using h2)), rfl⟩
theorem oneF_no {s : ByteArray} {at_ a : Int} (h : oneF s at_ a = none) :
    (∃ g t0 x, V.get s at_ = (g, t0, x) ∧ (x != 0) = true) ∨ ∃ g t0 r to x, V.get s at_ = (g, t0, 0) ∧ getR s t0 = (r, to, x) ∧ (x != 0) = true := by
  obtain ⟨g, t0, x, hg⟩ : ∃ g t0 x, V.get s at_ = (g, t0, x) := ⟨_, _, _, rfl⟩
  obtain ⟨r, to, y, hr⟩ : ∃ r to y, getR s t0 = (r, to, y) := ⟨_, _, _, rfl⟩
  unfold oneF at h
  rw [hg] at h
  dsimp only at h
  rw [hr] at h
  dsimp only at h
  by_cases hx : x = 0
  · subst hx
    rw [if_neg (by simp)] at h
    by_cases hy : y = 0
    · rw [if_neg (by simpa using hy)] at h; cases h
    · exact .inr ⟨g, t0, r, to, y, hg, hr, by simpa using hy⟩
  · exact .inl ⟨g, t0, x, hg, by simpa using hx⟩

theorem foundInfo : (Try.prog.info? 43).map (fun i => (i.zero, i.size, i.bytes)) = some (some (.agg #[.int .i64 0, .bool false, .string ⟨#[]⟩, .bool false, .string ⟨#[]⟩]), 5, 56) := by kernel_rfl
theorem cells_new (w : World) (T : TypeId) (cs : Array Value) : ∀ j u, cs.toList[j]? = some u → (w.alloc (.cells cs T)).cell? ((⟨w.heap.size, 0, none⟩ : Addr).add j) = some u := fun j u h => by
  rw [addr_add]
  refine (cell_of_row _ _ j _ _ _ (heap_alloc_new w (.cells cs T))).trans ?_
  rw [← Array.getElem?_toList]; exact h

/-- what lies between two rounds -/
structure PMid (w W : World) (tb xb : Nat) (b n : Int) (tab : Array Value) (L : List L4.Fd) (v : Value) : Prop where
  res : W.heap[w.heap.size]? = some (.cells #[.int .i64 0, .int .i64 0, .slice none 0 0] 53 (0, 0))
  tab : W.heap[tb]? = some (.cells tab 139 (0, 0))
  seg : W.heap[xb]? = some (.cells #[.int .i64 b, .int .i64 n, v] 53 (0, 0))
  row : W.ownsRow w.heap.size 43 5 v L.length (rowF L)
  bel : Below w.heap.size w W
  ne : w.heap.size ≠ xb
  le : w.heap.size ≤ xb
section
variable {w W W' : World} {tb xb : Nat} {b n : Int} {tab : Array Value} {L : List L4.Fd} {v : Value}
theorem PMid.lt (h : PMid w W tb xb b n tab L v) : w.heap.size < W.heap.size ∧ tb < W.heap.size ∧ xb < W.heap.size := ⟨(Array.getElem?_eq_some_iff.1 h.res).1, (Array.getElem?_eq_some_iff.1 h.tab).1, (Array.getElem?_eq_some_iff.1 h.seg).1⟩
theorem PMid.kept (h : PMid w W tb xb b n tab L v) (B : Below w.heap.size W W') (hk : ∀ k, k < W.heap.size → W'.heap[k]? = W.heap[k]?) : PMid w W' tb xb b n tab L v := by
  obtain ⟨l1, l2, l3⟩ := h.lt
  refine ⟨(hk _ l1).trans h.res, (hk _ l2).trans h.tab, (hk _ l3).trans h.seg, ⟨h.row.1, ?_⟩, h.bel.trans B, h.ne, h.le⟩
  rcases h.row.2 with e | ⟨g, c, cur, e, q1, hh, q2⟩
  · exact .inl e
  · exact .inr ⟨g, c, cur, e, q1, (hk _ (Array.getElem?_eq_some_iff.1 hh).1).trans hh, q2⟩
theorem PMid.below (h : PMid w W tb xb b n tab L v) (k : Below W.heap.size W W') : PMid w W' tb xb b n tab L v := h.kept (k.mono h.bel.size) (fun j hj => k.block j hj)
theorem PMid.set (h : PMid w W tb xb b n tab L v) {fb : Nat} (hf : fb ≠ w.heap.size ∧ fb ≠ tb ∧ fb ≠ xb ∧ w.heap.size ≤ fb ∧ some fb ≠ v.ownBlock) (i : Nat) (u : Value) : PMid w (W.setCell ⟨fb, i, none⟩ u) tb xb b n tab L v := by
  obtain ⟨f1, f2, f3, f4, f5⟩ := hf
  have hk : ∀ k, k ≠ fb → (W.setCell ⟨fb, i, none⟩ u).heap[k]? = W.heap[k]? := fun k hk => Below.heap_setCell _ _ _ _ (fun e => hk e)
  refine ⟨(hk _ (Ne.symm f1)).trans h.res, (hk _ (Ne.symm f2)).trans h.tab, (hk _ (Ne.symm f3)).trans h.seg, ⟨h.row.1, ?_⟩, h.bel.setCell (p := ⟨fb, i, none⟩) f4 _, h.ne, h.le⟩
  rcases h.row.2 with e | ⟨g, c, cur, e, q1, hh, q2⟩
  · exact .inl e
  · exact .inr ⟨g, c, cur, e, q1, (hk _ (fun q => f5 (by rw [e, ← q]; rfl))).trans hh, q2⟩
theorem PMid.off (h : PMid w W tb xb b n tab L v) : some w.heap.size ≠ v.ownBlock ∧ some tb ≠ v.ownBlock ∧ some xb ≠ v.ownBlock := by
  have key : ∀ k cs T, W.heap[k]? = some (.cells cs T (0, 0)) → T ≠ 43 → some k ≠ v.ownBlock := fun k cs T hk hT e => by
    rcases h.row.2 with ⟨q, _⟩ | ⟨g, c, cur, q, _, hh, _⟩
    · rw [q] at e; simp [Value.ownBlock] at e
    · rw [q] at e
      obtain rfl : k = g := by simpa [Value.ownBlock] using e
      rw [hk] at hh; injection hh with hh; injection hh with _ hh _
      exact hT hh
  exact ⟨key _ _ _ h.res (by decide), key _ _ _ h.tab (by decide), key _ _ _ h.seg (by decide)⟩
/-- behind an append and the store of the longer slice -/
theorem PMid.appended {w1 : World} {v' : Value} {L' : List L4.Fd} (h : PMid w W tb xb b n tab L v) (hown' : w1.ownsRow w.heap.size 43 5 v' L'.length (rowF L')) (hgrow : W.grownBy w1 v.ownBlock) :
    PMid w (w1.setCell ⟨xb, 2, none⟩ v') tb xb b n tab L' v' := by
  obtain ⟨l1, l2, l3⟩ := h.lt
  obtain ⟨o1, o2, o3⟩ := h.off
  have hseg := (hgrow.block xb l3 o3).trans h.seg
  have htx : tb ≠ xb := fun e => by
    have := h.tab.symm.trans (e ▸ h.seg)
    injection this with this; injection this with _ this _
    exact absurd this (by decide)
  have hk : ∀ k, k ≠ xb → (w1.setCell ⟨xb, 2, none⟩ v').heap[k]? = w1.heap[k]? := fun k hk => Below.heap_setCell _ _ _ _ (fun e => hk e)
  have hxo : some xb ≠ v'.ownBlock := fun e => by
    rcases hown'.2 with ⟨q, _⟩ | ⟨g, c, cur, q, _, hh, _⟩
    · rw [q] at e; simp [Value.ownBlock] at e
    · rw [q] at e
      obtain rfl : xb = g := by simpa [Value.ownBlock] using e
      rw [hseg] at hh; injection hh with hh; injection hh with _ hh _
      exact absurd hh (by decide)
  refine ⟨((hk _ h.ne).trans (hgrow.block _ l1 o1)).trans h.res, ((hk _ htx).trans (hgrow.block _ l2 o2)).trans h.tab, heap_setCell_same w1 xb 2 _ _ v' hseg, ⟨hown'.1, ?_⟩, (h.bel.grown hgrow h.bel.size (fun j e => (h.row.lt j e).1)).setCell (p := ⟨xb, 2, none⟩) h.le _, h.ne, h.le⟩
  rcases hown'.2 with e | ⟨g, c, cur, e, q1, hh, q2⟩
  · exact .inl e
  · exact .inr ⟨g, c, cur, e, q1, (hk _ (fun q => hxo (by rw [e, ← q]; rfl))).trans hh, q2⟩
end

/-- what Parse tells of a text that begins with three numbers -/
theorem chk_of_read {s : ByteArray} {p b : Int} : ∀ {k : Nat} {L : List L4.Fd} {at_ a : Int}, readF s p b k = some (L, at_, a) → L.length = k ∧ ∀ f ∈ L, f.r.chk = 0
  | 0, L, at_, a, h => by simp [readF] at h; obtain ⟨rfl, _⟩ := h; simp
  | k + 1, L, at_, a, h => by
    cases hk : readF s p b k with
    | none => rw [readF_stop hk 1] at h; cases h
    | some q =>
      obtain ⟨L0, at0, a0⟩ := q
      rw [readF_next hk] at h
      cases ho : oneF s at0 a0 with
      | none => rw [ho] at h; cases h
      | some q =>
        obtain ⟨f, to⟩ := q
        rw [ho] at h
        simp only [Option.some.injEq, Prod.mk.injEq] at h
        obtain ⟨rfl, _⟩ := h
        obtain ⟨g, t0, _, hr, _⟩ := oneF_ok ho
        obtain ⟨e1, e2⟩ := chk_of_read hk
        refine ⟨by simp [e1], fun f' hf' => ?_⟩
        rcases List.mem_append.1 hf' with h' | h'
        · exact e2 f' h'
        · rw [List.mem_singleton.1 h']; exact (getR_got hr).1

theorem row3_all {w : World} {k : Nat} {T : TypeId} {x y z : Value} (h : w.heap[k]? = some (.cells #[x, y, z] T (0, 0))) :
    w.cell? ⟨k, 0, none⟩ = some x ∧ w.cell? ⟨k, 1, none⟩ = some y ∧ w.cell? ⟨k, 2, none⟩ = some z ∧ w.frozen? ⟨k, 0, none⟩ = false ∧ w.frozen? ⟨k, 1, none⟩ = false ∧ w.frozen? ⟨k, 2, none⟩ = false := by
  simp [World.cell?, World.frozen?, h]
theorem cells_five (W : World) (T : TypeId) (x y z u v : Value) (k : Nat) (hk : k = W.heap.size) : ∀ j a, [x, y, z, u, v][j]? = some a → (W.alloc (.cells #[x, y, z, u, v] T)).cell? ((⟨k, 0, none⟩ : Addr).add j) = some a := by
  subst hk
  exact cells_new W T #[x, y, z, u, v]
theorem found_grow {W w5 : World} {o : Obj} {r : Option Nat} {n : Nat} (h : (W.alloc o).grownBy w5 r) (_ : n < n + 1) : W.grownBy w5 r :=
  ⟨h.os, h.tape, h.output, by have := h.size; simp at this; omega, fun k hk hn => (h.block k (by simp; omega) hn).trans (Below.heap_alloc _ _ _ hk)⟩
/-- behind the store of a record into its own block -/
theorem PMid.stored {w wr w2 : World} {tb xb : Nat} {b n : Int} {tab : Array Value} {L : List L4.Fd} {v : Value} {x0 x1 x2 x3 x4 : Value} {y0 y1 y2 y3 y4 : Value} (h : PMid w wr tb xb b n tab L v) (hb : Below (wr.alloc (.cells #[y0, y1, y2, y3, y4] 43)).heap.size (wr.alloc (.cells #[y0, y1, y2, y3, y4] 43)) w2) :
    PMid w (((((w2.setCell ⟨wr.heap.size, 0, none⟩ x0).setCell ⟨wr.heap.size, 1, none⟩ x1).setCell ⟨wr.heap.size, 2, none⟩ x2).setCell ⟨wr.heap.size, 3, none⟩ x3).setCell ⟨wr.heap.size, 4, none⟩ x4) tb xb b n tab L v ∧
      (((((w2.setCell ⟨wr.heap.size, 0, none⟩ x0).setCell ⟨wr.heap.size, 1, none⟩ x1).setCell ⟨wr.heap.size, 2, none⟩ x2).setCell ⟨wr.heap.size, 3, none⟩ x3).setCell ⟨wr.heap.size, 4, none⟩ x4).heap[wr.heap.size]? = some (.cells #[x0, x1, x2, x3, x4] 43 (0, 0)) ∧ some wr.heap.size ≠ v.ownBlock := by
  obtain ⟨l1, l2, l3⟩ := h.lt
  have hv : some wr.heap.size ≠ v.ownBlock := fun e => by have := (h.row.lt _ e.symm).2; omega
  have hf : wr.heap.size ≠ w.heap.size ∧ wr.heap.size ≠ tb ∧ wr.heap.size ≠ xb ∧ w.heap.size ≤ wr.heap.size ∧ some wr.heap.size ≠ v.ownBlock := ⟨by omega, by omega, by omega, by omega, hv⟩
  have h2 := (h.below (one_box _)).below hb
  have hrow := (hb.block wr.heap.size (by simp)).trans (heap_alloc_new wr _)
  exact ⟨((((h2.set hf 0 x0).set hf 1 x1).set hf 2 x2).set hf 3 x3).set hf 4 x4,
    heap_setCell_same _ wr.heap.size 4 _ _ x4 (heap_setCell_same _ wr.heap.size 3 _ _ x3 (heap_setCell_same _ wr.heap.size 2 _ _ x2 (heap_setCell_same _ wr.heap.size 1 _ _ x1 (heap_setCell_same _ wr.heap.size 0 _ _ x0 hrow)))), hv⟩

set_option maxRecDepth 100000 in
set_option maxHeartbeats 4000000 in
theorem parse_run (s : ByteArray) (w : World) (hs : s.size ≤ 1000000) (b n : Nat) (m : Nat) (p : Int) (H3 : Hid (get3 s = ((b, n, m), p, true))) (hm : m ≤ 64) (L : List L4.Fd) (to a : Int) (HR : Hid (readF s p (wrap64 (b : Int)) m = some (L, to, a))) (hto : to = s.size) (x : Int) (HX : Hid (loadE (wrap64 (b : Int)) (wrap64 (n : Int)) L = x)) :
    Calls Try.prog 38 #[.string s] w fun e w' => (x = 0 ∧ ∃ A c, e = .returned (.tuple #[.agg #[.int .i64 (wrap64 (b : Int)), .int .i64 (wrap64 (n : Int)), .slice A L.length c], .int .i64 0]) ∧ w'.ownsRow w.heap.size 43 5 (.slice A L.length c) L.length (rowF L) ∧ Below w.heap.size w w') ∨ (x ≠ 0 ∧ e = .returned (.tuple #[.agg #[.int .i64 0, .int .i64 0, .slice none 0 0], .int .i64 70]) ∧ Below w.heap.size w w') := by
  obtain ⟨i0, hi0, hz0, hz1, hz2⟩ := info_parts foundInfo
  have hm1 : decide ((64 : Int) < (m : Int)) = false := by simp; omega
  have hm2 : decide (64 < m) = false := by simp; omega
  go_enter Try.func38, Try.ntmps38
  go_wp2_with (go_at_call 92; refine (get3_is s _ hs b n m p true H3).mono ?_; rintro e w1 ⟨rfl, hb1⟩; have HLW : Hid (w.heap.size < w1.heap.size) := Lib.hid (by have hq := hb1.size; simp at hq; omega))
  have PM0 : PMid w ((w1.alloc (.cells #[.int .u64 b, .int .u64 n, .int .u64 m] 139)).alloc (.cells #[.int .i64 (wrap64 (b : Int)), .int .i64 (wrap64 (n : Int)), .slice none 0 0] 53)) w1.heap.size (w1.heap.size + 1) (wrap64 (b : Int)) (wrap64 (n : Int)) #[.int .u64 b, .int .u64 n, .int .u64 m] [] (.slice none 0 0) := by
    have hl := HLW.out
    refine ⟨?_, ?_, ?_, World.ownsRow_nil _ _ _ _, ?_, by omega, by omega⟩
    · exact (Below.heap_alloc _ _ _ (by simp; omega)).trans ((Below.heap_alloc _ _ _ hl).trans ((hb1.block _ (by simp)).trans (heap_alloc_new _ _)))
    · exact (Below.heap_alloc _ _ _ (by simp)).trans (heap_alloc_new _ _)
    · have := heap_alloc_new (w1.alloc (.cells #[.int .u64 b, .int .u64 n, .int .u64 m] 139)) (.cells #[.int .i64 (wrap64 (b : Int)), .int .i64 (wrap64 (n : Int)), .slice none 0 0] 53)
      simp only [World.size_alloc] at this
      exact this
    · exact (((one_box _).trans (hb1.mono (by simp))).trans ((two_box _ _).mono (by omega)))
  clear hb1
  go_loopw [5, 8, 37] (fun tv lv cv wr => ∃ (k : Nat) (L0 : List L4.Fd) (at0 a0 : Int) (v : Value), k ≤ m ∧ cv = .int .u64 k ∧ tv = .int .i64 at0 ∧ lv = .int .i64 a0 ∧ Hid (readF s p (wrap64 (b : Int)) k = some (L0, at0, a0)) ∧ Hid (PMid w wr w1.heap.size (w1.heap.size + 1) (wrap64 (b : Int)) (wrap64 (n : Int)) #[.int .u64 b, .int .u64 n, .int .u64 m] L0 v)) (fun _ _ cv _ => m - (intOf cv).toNat)
  case atStart => exact ⟨0, [], p, wrap64 (b : Int), _, by omega, rfl, rfl, rfl, Lib.hid rfl, Lib.hid PM0⟩
  case round =>
    obtain ⟨k, L0, at0, a0, v, hk, rfl, rfl, rfl, HR0, PM⟩ := hrel
    obtain ⟨l1, l2, l3⟩ := PM.out.lt
    have c2 : wr.cell? ⟨w1.heap.size + 1, 2, none⟩ = some v := (cell_of_row _ _ 2 _ _ _ PM.out.seg).trans rfl
    have t2 : wr.cell? ⟨w1.heap.size, 2, none⟩ = some (.int .u64 m) := (cell_of_row _ _ 2 _ _ _ PM.out.tab).trans rfl
    by_cases hlt : k < m
    · obtain ⟨q, hq⟩ : ∃ q, oneF s at0 a0 = some q := by
        cases ho : oneF s at0 a0 with
        | some q => exact ⟨q, rfl⟩
        | none =>
          exfalso
          have h1 := readF_next HR0.out
          rw [ho] at h1
          have h2 := readF_stop h1 (m - (k + 1))
          rw [show k + 1 + (m - (k + 1)) = m by omega, HR.out] at h2
          cases h2
      obtain ⟨⟨o, ⟨hk', key, tbb, val⟩⟩, to'⟩ := q
      have hnx := readF_next HR0.out
      rw [hq] at hnx
      obtain ⟨g, t0, hg, hr, ho⟩ := oneF_ok hq
      dsimp only at hnx hr ho
      have HNX := Lib.hid hnx
      have HG := Lib.hid hg
      have HRR := Lib.hid hr
      have k0 : (0 : Int) ≤ (k : Int) := by omega
      have k1 : (k : Int) < (m : Int) := by omega
      have hlen := (chk_of_read HR0.out).1
      have HLEN := Lib.hid hlen
      have HO := Lib.hid ho
      clear hnx hg hr hq hlen ho
      go_wp2_with (first
        | (go_at_call 93; refine (found_ok s at0 a0 _ hs g t0 to' hk' key tbb val HG HRR).mono ?_; rw [← HO.out]; rintro e w2 ⟨rfl, hb2⟩; obtain ⟨c0, c1, c22, c3, c4, f0, f1, f2, f3, f4⟩ := row5_facts ((hb2.block wr.heap.size (by simp)).trans (heap_alloc_new wr _)); obtain ⟨PM3, hf3, hv3⟩ := PM.out.stored (x0 := .int .i64 o) (x1 := .bool hk') (x2 := .string key) (x3 := .bool tbb) (x4 := .string val) hb2; have x2' : w2.cell? ⟨w1.heap.size + 1, 2, none⟩ = some v := (cell_of_row _ _ 2 _ _ _ ((PM.out.below (one_box _)).below hb2).seg).trans rfl; have HP3 := Lib.hid PM3; have HF3 := Lib.hid hf3; have HV3 := Lib.hid hv3; have hl2 : wr.heap.size < w2.heap.size := (by have hq := hb2.size; simp at hq; omega); clear PM3 hf3 hv3)
        | (at_builtin; refine wpList_append_own _ rfl _ _ 36 rfl w.heap.size 43 i0 _ 5 56 Try.underlying36 hi0 hz0 hz1 hz2 rfl (by decide) _ _ _ rfl (HP3.out.row.alloc _) ⟨w2.heap.size, 0, none⟩ 1 1 [.int .i64 o, .bool hk', .string key, .bool tbb, .string val] rfl rfl (cells_five _ _ _ _ _ _ _ _ (by simp)) (by simp [Value.oneCell']) (by have := HLEN.out; unfold maxLen; omega) (by have := HLEN.out; omega) (by have := HP3.out.bel.size; simp at this ⊢; omega) ?_; intro v' w5 hown' hgrow _; obtain ⟨g', cap', rfl⟩ := ownsRow_succ hown'; have hg5 := found_grow hgrow (Nat.lt_succ_self 0); have hseg5 := (hg5.block _ HP3.out.lt.2.2 HP3.out.off.2.2).trans HP3.out.seg; have c52 : w5.cell? ⟨w1.heap.size + 1, 2, none⟩ = some v := (cell_of_row _ _ 2 _ _ _ hseg5).trans rfl; have f52 := frozen_of_row w5 (w1.heap.size + 1) 2 _ _ hseg5; have hfb5 := (hg5.block wr.heap.size (by simp; omega) HV3.out).trans HF3.out; have c50 : w5.cell? ⟨wr.heap.size, 0, none⟩ = some (.int .i64 o) := first_cell hfb5; clear hseg5 hfb5))
      go_roundw
      case rel =>
        refine ⟨k + 1, L0 ++ [⟨o, ⟨hk', key, tbb, val⟩⟩], to', wrap64 (o + 1), _, by omega, by go_num, rfl, rfl, Lib.hid HNX.out, Lib.hid (HP3.out.appended (L' := L0 ++ [⟨o, ⟨hk', key, tbb, val⟩⟩]) ?_ hg5)⟩
        rw [List.length_append, rowF_app]
        exact hown'
      case measure => simp [intOf]; omega
    · obtain rfl : k = m := by omega
      have he := HR0.out.symm.trans HR.out
      simp only [Option.some.injEq, Prod.mk.injEq] at he
      obtain ⟨rfl, rfl, rfl⟩ := he
      have hne : (at0 != (s.size : Int)) = false := by simpa using hto
      obtain ⟨hlen, hchk⟩ := chk_of_read HR0.out
      have hsml : Hid (∀ f ∈ L0, f.r.key.size ≤ maxLen ∧ f.r.val.size ≤ maxLen) := Lib.hid (fun f hf => by
        have hc : chk f.r.hk f.r.key f.r.tb f.r.val = 0 := hchk f hf
        have := chk_parts hc
        unfold maxLen; omega)
      have hrow := PM.out.row
      obtain ⟨A, c, rfl⟩ := own_form hrow
      have HRD : Hid (ReadsF wr wr.heap.size A L0) := Lib.hid (ReadsF.own hrow)
      have c0 : wr.cell? ⟨w1.heap.size + 1, 0, none⟩ = some (.int .i64 (wrap64 (b : Int))) := (cell_of_row _ _ 0 _ _ _ PM.out.seg).trans rfl
      have c1 : wr.cell? ⟨w1.heap.size + 1, 1, none⟩ = some (.int .i64 (wrap64 (n : Int))) := (cell_of_row _ _ 1 _ _ _ PM.out.seg).trans rfl
      have hll : L0.length ≤ maxLen := by rw [hlen]; unfold maxLen; omega
      clear hrow hto hlen hchk
      by_cases hx : x = 0
      · subst hx
        go_wp2_with (go_at_call 82; refine (load_fine (wrap64 (b : Int)) (wrap64 (n : Int)) A L0 L0.length c wr.heap.size _ HRD (Nat.le_refl _) rfl hll hsml HX).mono ?_; rintro e w6 ⟨gg, rfl, hb6⟩; have HP6 := Lib.hid (PM.out.below hb6); obtain ⟨r0, r1, r2, q0, q1, q2⟩ := row3_all HP6.out.res; obtain ⟨s0, s1, s2, _, _, _⟩ := row3_all HP6.out.seg)
        refine bodyPost_ret (v := .tuple #[.agg #[.int .i64 (wrap64 (b : Int)), .int .i64 (wrap64 (n : Int)), .slice A L0.length c], .int .i64 0]) (results_row2 (p := 2) (t1 := 3) (ty := 53) Try.results38 _ _ w.heap.size 53 #[(.int .i64 (wrap64 (b : Int))), (.int .i64 (wrap64 (n : Int))), (.slice A L0.length c)] (0, 0) _ rfl ?row Try.underlying53 rfl (by kernel_rfl)) rfl ⟨A, c, rfl, ?_, ?_⟩
        case row => exact heap_setCell_same _ w.heap.size 2 _ _ (.slice A L0.length c) (heap_setCell_same _ w.heap.size 1 _ _ (.int .i64 (wrap64 (n : Int))) (heap_setCell_same _ w.heap.size 0 _ _ (.int .i64 (wrap64 (b : Int))) HP6.out.res))
        · refine ⟨HP6.out.row.1, ?_⟩
          rcases HP6.out.row.2 with e | ⟨g, cc, cur, e, q1, hh, q2⟩
          · exact .inl e
          · have hgw : g ≠ w.heap.size := fun q => HP6.out.off.1 (by rw [e, ← q]; rfl)
            exact .inr ⟨g, cc, cur, e, q1, (Below.heap_setCell _ _ _ _ (fun q => hgw q)).trans ((Below.heap_setCell _ _ _ _ (fun q => hgw q)).trans ((Below.heap_setCell _ _ _ _ (fun q => hgw q)).trans hh)), q2⟩
        · exact ((HP6.out.bel.setCell (p := ⟨w.heap.size, 0, none⟩) (Nat.le_refl _) _).setCell (p := ⟨w.heap.size, 1, none⟩) (Nat.le_refl _) _).setCell (p := ⟨w.heap.size, 2, none⟩) (Nat.le_refl _) _
      · have hx' : (x != 0) = true := by simpa using hx
        go_wp2_with (go_at_call 82; refine (load_bad (wrap64 (b : Int)) (wrap64 (n : Int)) A L0 L0.length c wr.heap.size x _ HRD (Nat.le_refl _) rfl hll hsml HX hx).mono ?_; rintro e w6 ⟨rfl, hb6⟩; have HP6 := Lib.hid (PM.out.below hb6); obtain ⟨r0, r1, r2, q0, q1, q2⟩ := row3_all HP6.out.res)
        refine bodyPost_ret (v := .tuple #[.agg #[.int .i64 0, .int .i64 0, .slice none 0 0], .int .i64 70]) (results_row2 (p := 2) (t1 := 3) (ty := 53) Try.results38 _ _ w.heap.size 53 #[(.int .i64 0), (.int .i64 0), (.slice none 0 0)] (0, 0) _ rfl ?row Try.underlying53 rfl (by kernel_rfl)) rfl (.inr ⟨hx, rfl, ?_⟩)
        case row => exact heap_setCell_same _ w.heap.size 2 _ _ (.slice none 0 0) (heap_setCell_same _ w.heap.size 1 _ _ (.int .i64 0) (heap_setCell_same _ w.heap.size 0 _ _ (.int .i64 0) HP6.out.res))
        exact ((HP6.out.bel.setCell (p := ⟨w.heap.size, 0, none⟩) (Nat.le_refl _) _).setCell (p := ⟨w.heap.size, 1, none⟩) (Nat.le_refl _) _).setCell (p := ⟨w.heap.size, 2, none⟩) (Nat.le_refl _) _
end Go.Proofs.Ytlemcijgjebekaa.L7
