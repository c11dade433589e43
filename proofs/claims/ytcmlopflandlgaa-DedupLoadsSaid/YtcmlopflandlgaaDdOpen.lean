/-
  Contracts: a new producer; a further epoch of one, of which nothing is remembered then.
-/
import Derived.Test.YtcmlopflandlgaaDdKeep
namespace Go.Proofs.Ytcmlopflandlgaa.L8
open Go.RowKit
open Go.Maps
open L3 L4

section
variable {w w' : World} {g cap b N : Nat} {A : Option Addr} {es : List Int} {ms ms' : List Mk}
theorem Tab.ltA (h : Tab w g A cap b N es ms) : ∀ k ∈ bk A, k < w.heap.size := fun k hk => h.blk_lt k (by simp [blocks, hk])
theorem did_ne {k j : Nat} {cs : Array Value} {fr : Nat × Nat} (hk : w.heap[k]? = some (.cells cs 50 fr)) (S : List Nat) (h : NoDid w S) (hj : j ∈ S) : k ≠ j := fun e => h j hj cs fr (e ▸ hk)
/-- the epochs are a longer row, and the table's own row tells so -/
theorem Tab.grownA (h : Tab w g A cap b N es ms) {w1 : World} {k c' n' : Nat} {es' : List Int} (hw : Only (bk A) w w1) (hown : w1.ownsRow 0 3 1 (.slice (some ⟨k, 0, none⟩) n' c') n' (rowN es')) (hn : n' = es'.length) (hk : k ∈ bk A ∨ w.heap.size ≤ k) :
    Tab (w1.setCell ⟨g, 0, none⟩ (.slice (some ⟨k, 0, none⟩) n' c')) g (some ⟨k, 0, none⟩) c' b N es' ms ∧ Only (blocks g A b) w (w1.setCell ⟨g, 0, none⟩ (.slice (some ⟨k, 0, none⟩) n' c')) := by
  subst hn
  have hg : w1.heap[g]? = w.heap[g]? := hw.block g h.lt h.gA
  have hb : w1.heap[b]? = w.heap[b]? := hw.block b h.map.lt h.bA
  have kg : k ≠ g := fun e => by
    rcases hk with q | q
    · exact h.gA (e ▸ q)
    · have := h.lt; omega
  have ow : Only (blocks g A b) w w1 := hw.mono (fun j hj => .inl (by simp [blocks, hj]))
  refine ⟨⟨heap_setCell_same _ _ 0 _ _ _ (hg.trans h.row), own_at hown (fun j e => ?_), h.map.kept ?_ (fun j cs fr hj => ?_)⟩, ow.setCell (.inl (by simp [blocks])) _⟩
  · have e' : k = j := by simpa [Value.ownBlock] using e
    subst e'
    exact Below.heap_setCell _ _ _ _ kg
  · exact (Below.heap_setCell _ _ _ _ (fun e => h.gb e.symm)).trans hb
  · have j1 := did_ne hj _ h.noDid (j := g) (by simp [blocks])
    refine (Below.heap_setCell _ _ _ _ j1).trans (hw.block j (Array.getElem?_eq_some_iff.1 hj).1 (fun e => ?_))
    exact did_ne hj _ h.noDid (j := j) (by simp [blocks, e]) rfl
/-- one of the epochs is another one -/
theorem Tab.setE {k : Nat} (h : Tab w g (some ⟨k, 0, none⟩) cap b N es ms) (i : Nat) (x : Int) : Tab (w.setCell ⟨k, i, none⟩ (.int .i64 x)) g (some ⟨k, 0, none⟩) cap b N (es.set i x) ms ∧ Only (blocks g (some ⟨k, 0, none⟩) b) w (w.setCell ⟨k, i, none⟩ (.int .i64 x)) := by
  have kg : g ≠ k := fun e => h.gA (by simp [bk, e])
  have kb : b ≠ k := fun e => h.bA (by simp [bk, e])
  have hl : (es.set i x).length = es.length := by simp
  refine ⟨⟨by rw [hl]; exact (Below.heap_setCell _ _ _ _ kg).trans h.row, by rw [hl]; exact own_set h.own, h.map.kept (Below.heap_setCell _ _ _ _ kb) (fun j cs fr hj => ?_)⟩, (Only.refl _ _).setCell (.inl (by simp [blocks, bk])) _⟩
  exact Below.heap_setCell _ _ _ _ (did_ne hj _ h.noDid (j := k) (by simp [blocks, bk]))
/-- a table, behind a call that turned it -/
def Turned (w : World) (g : Nat) (A : Option Addr) (b N : Nat) (es : List Int) (ms : List Mk) (w' : World) : Prop :=
  ∃ A' cap', Tab w' g A' cap' b N es ms ∧ Only (blocks g A b) w w' ∧ ∀ k ∈ bk A', k ∈ bk A ∨ w.heap.size ≤ k
end

set_option maxRecDepth 100000 in
set_option maxHeartbeats 2000000 in
theorem add_is {w : World} {g cap b N : Nat} {A : Option Addr} {es : List Int} {ms : List Mk} (n : Nat) (h : Hid (Tab w g A cap b N es ms)) (hn : es.length = n) (hl : n < 32) :
    Calls Try.prog 26 #[.pointer (some ⟨g, 0, none⟩)] w fun e w' => e = .returned (.tuple #[.int .i64 ((n : Int) + 1), .int .i64 0, .int .i64 0]) ∧ Turned w g A b N (es ++ [0]) ms w' := by
  obtain ⟨i0, hi0, hz0, hz1, hz2⟩ := info_parts numInfo
  have c0 := h.out.c0
  have f0 := h.out.froz 0
  have HO := Lib.hid h.out.own
  rw [hn] at c0 HO
  have HN := Lib.hid hn
  have hl' : ¬ (n : Int) ≥ 32 := by omega
  have HG := Lib.hid h.out.gA
  have HLT := Lib.hid h.out.lt
  have HR := Lib.hid h.out.row
  clear hn
  go_enter Try.func26, Try.ntmps26
  go_wp2_with (at_builtin; refine wpList_append_lies _ rfl _ _ 26 (by rfl) 0 3 i0 _ 1 8 Try.underlying26 hi0 hz0 hz1 hz2 rfl (by omega) (.slice A n cap) n (rowN es) (by rfl) (HO.out.alloc _) ⟨w.heap.size, 0, none⟩ 1 1 [.int .i64 0] (by rfl) (by rfl) (cell_one_new _ _ _) (by simp [Value.oneCell']) (by omega) (by unfold maxLen; omega) (by omega) (by omega) _ rfl ?_; intro k c' w1 hown hgrow hor hlt; have hg1 : w1.heap[g]? = _ := ((hgrow.block g (by have := HLT.out; simp; omega) (fun e => HG.out (mem_bk.2 (by rw [blk_own] at e; exact e.symm)))).trans (Below.heap_alloc _ _ _ HLT.out)).trans HR.out; have d0 : w1.cell? ⟨g, 0, none⟩ = _ := cell_of_row _ _ 0 _ _ _ hg1; have e0 := frozen_of_row w1 g 0 _ _ hg1; have HG1 := Lib.hid hg1; clear hg1)
  go_ret3
  refine ⟨rfl, ?_⟩
  have hw : Only (bk A) w w1 := (Only.ofBelow (one_box' _)).grown hgrow (fun j e => .inl (mem_bk.2 (by rw [blk_own] at e; exact e)))
  have hown' : w1.ownsRow 0 3 1 (.slice (some ⟨k, 0, none⟩) (n + 1) c') (n + 1) (rowN (es ++ [0])) := by simpa [rowN] using hown
  have hk : k ∈ bk A ∨ w.heap.size ≤ k := by
    rcases hor with e | e
    · exact .inl (mem_bk.2 (by rw [blk_own] at e; exact e))
    · right; rw [e]; simp
  obtain ⟨q1, q2⟩ := h.out.grownA hw hown' (by simp [HN.out]) hk
  exact ⟨_, c', q1, q2, fun j hj => by simp [bk] at hj; subst hj; exact hk⟩
theorem add_no {w : World} {g cap b N : Nat} {A : Option Addr} {es : List Int} {ms : List Mk} (n : Nat) (h : Hid (Tab w g A cap b N es ms)) (hn : es.length = n) (hl : 32 ≤ n) :
    Calls Try.prog 26 #[.pointer (some ⟨g, 0, none⟩)] w fun e w' => e = .returned (.tuple #[.int .i64 0, .int .i64 0, .int .i64 2]) ∧ w = w' := by
  have c0 := h.out.c0
  rw [hn] at c0
  have hl' : (n : Int) ≥ 32 := by omega
  clear hn
  go_enter Try.func26, Try.ntmps26
  go_wp2_with fail
  go_ret3
  exact ⟨rfl, rfl⟩

/-! ### a map under way -/
/-- what a map reads as -/
def Rds (w : World) (D : DataW Value) (ms : List Mk) : Prop :=
  (∀ kl, Maps.has D kl = true ↔ ∃ m ∈ ms, m.k = kl) ∧ ∀ m ∈ ms, ∃ A c, (∀ z, D.atKey m.k z = .held (.slice A m.l.length c)) ∧ RowC w A c m.l
theorem Rds.kept {w w' : World} {D : DataW Value} {ms : List Mk} (h : Rds w D ms) (hk : ∀ (k : Nat) (cs : Array Value) (fr : Nat × Nat), w.heap[k]? = some (.cells cs 50 fr) → w'.heap[k]? = w.heap[k]?) : Rds w' D ms :=
  ⟨h.1, fun m hm => by obtain ⟨A, c, ha, hR⟩ := h.2 m hm; exact ⟨A, c, ha, hR.kept hk⟩⟩
theorem IsTab.rds {w : World} {b N : Nat} {ms : List Mk} (h : IsTab w b N ms) : ∃ D, w.ownsMap Try.prog 72 rd b N D ∧ Rds w D ms := by
  obtain ⟨D, h1, h2, h3⟩ := h
  exact ⟨D, h1, h2, h3⟩
theorem rds_tab {w : World} {b N : Nat} {ms : List Mk} {D : DataW Value} (h : w.ownsMap Try.prog 72 rd b N D) (r : Rds w D ms) : IsTab w b N ms := ⟨D, h, r.1, r.2⟩
/-- of a producer's those that are still to come, all of the others' -/
def stay (id : Int) (left : Lit → Bool) (ms : List Mk) : List Mk := ms.filter (fun m => decide (m.id ≠ id) || left m.k)
theorem stay_start {id : Int} {D : DataW Value} {w : World} {ms : List Mk} (h : Rds w D ms) : stay id (Maps.has D) ms = ms :=
  List.filter_eq_self.2 (fun m hm => by rw [(h.1 m.k).2 ⟨m, hm, rfl⟩, Bool.or_true])
theorem stay_end {id : Int} {left : Lit → Bool} {ms : List Mk} (h : ∀ kl, left kl = false) : stay id left ms = ms.filter (fun m => decide (m.id ≠ id)) :=
  List.filter_congr (fun m _ => by rw [h, Bool.or_false])
theorem same_self {m : Mk} {kl : Lit} (e : m.k = kl) : m.k.sameKey kl = true := by rw [e]; exact WideAt.sameKey_self (by rw [← e]; exact isKey_lit _ _ _)
theorem stay_keeps {id i p : Int} {t : ByteArray} {left : Lit → Bool} {ms : List Mk} (hK : Keys ms) (hi : (Lit.int .i64 i).wf = true) (ht : t.size ≤ maxLen) (hp : (Lit.int .i64 p).wf = true) (hne : i ≠ id) :
    stay id (fun z => left z && !z.sameKey (kLit i t p)) ms = stay id left ms := by
  refine List.filter_congr (fun m hm => ?_)
  by_cases e : m.k = kLit i t p
  · have := (kLit_inj (hK m hm).1 (hK m hm).2.1 (hK m hm).2.2 hi ht hp e).1
    rw [show decide (m.id ≠ id) = true by simp; omega]; rfl
  · dsimp only
    rw [Maps.sameKey_ne e]; simp
theorem rds_del {w : World} {D : DataW Value} {id p : Int} {t : ByteArray} {left : Lit → Bool} {ms : List Mk} (h : Rds w D (stay id left ms)) (hK : Keys ms) (hi : (Lit.int .i64 id).wf = true) (ht : t.size ≤ maxLen) (hp : (Lit.int .i64 p).wf = true) :
    Rds w (D.del (kLit id t p)) (stay id (fun z => left z && !z.sameKey (kLit id t p)) ms) := by
  have hmem : ∀ m, m ∈ stay id (fun z => left z && !z.sameKey (kLit id t p)) ms ↔ m ∈ stay id left ms ∧ m.k ≠ kLit id t p := fun m => by
    unfold stay
    rw [List.mem_filter, List.mem_filter]
    constructor
    · rintro ⟨hm, hq⟩
      by_cases e : m.k = kLit id t p
      · have := (kLit_inj (hK m hm).1 (hK m hm).2.1 (hK m hm).2.2 hi ht hp e).1
        dsimp only at hq
        rw [e, WideAt.sameKey_self (isKey_lit _ _ _)] at hq
        simp [this] at hq
      · dsimp only at hq
        rw [Maps.sameKey_ne e] at hq
        exact ⟨⟨hm, by simpa using hq⟩, e⟩
    · rintro ⟨⟨hm, hq⟩, e⟩
      refine ⟨hm, ?_⟩
      dsimp only
      rw [Maps.sameKey_ne e]; simpa using hq
  refine ⟨fun kl => ?_, fun m hm => ?_⟩
  · by_cases e : kl = kLit id t p
    · subst e
      rw [has_del_same]
      constructor
      · intro q; cases q
      · rintro ⟨m, hm, q⟩; exact absurd q ((hmem m).1 hm).2
    · rw [has_del_other e, h.1]
      constructor
      · rintro ⟨m, hm, rfl⟩; exact ⟨m, (hmem m).2 ⟨hm, e⟩, rfl⟩
      · rintro ⟨m, hm, rfl⟩; exact ⟨m, ((hmem m).1 hm).1, rfl⟩
  · obtain ⟨h1, h2⟩ := (hmem m).1 hm
    obtain ⟨A, c, ha, hR⟩ := h.2 m h1
    exact ⟨A, c, fun z => by rw [atKey_del_other h2]; exact ha z, hR⟩
theorem ranges_below {w w' : World} {b r n : Nat} {D : DataW Value} {left : Lit → Bool} {cnt : Nat} (h : w.ranges Try.prog 72 rd b r n D left cnt) (hb : Below w.heap.size w w') : w'.ranges Try.prog 72 rd b r n D left cnt :=
  h.kept (row := none) ⟨hb.os, hb.tape, hb.output, hb.size, fun k hk _ => hb.block k hk⟩ (by simp) (by simp)
theorem drop_run {w : World} {b r n : Nat} {D : DataW Value} {left : Lit → Bool} {cnt : Nat} {id p : Int} {t : ByteArray} (h : w.ranges Try.prog 72 rd b r n D left cnt) (hi : (Lit.int .i64 id).wf = true) (ht : t.size ≤ maxLen) (hp : (Lit.int .i64 p).wf = true) :
    ∃ U : TypeId × World → World, ∀ ty W', Below w.heap.size w W' → (Builtin.delete_ #[63, 72] ty #[.map (some b), .agg #[.int .i64 id, .string t, .int .i64 p]]).run Try.prog W' = .ok (.tuple #[]) (U (ty, W')) ∧
      (∃ cnt', (U (ty, W')).ranges Try.prog 72 rd b r n (D.del (kLit id t p)) (fun x => left x && !x.sameKey (kLit id t p)) cnt' ∧ cnt' ≤ cnt) ∧ W'.mapTurned (U (ty, W')) b := by
  have key : ∀ x : TypeId × World, ∃ w', Below w.heap.size w x.2 → (Builtin.delete_ #[63, 72] x.1 #[.map (some b), .agg #[.int .i64 id, .string t, .int .i64 p]]).run Try.prog x.2 = .ok (.tuple #[]) w' ∧
      (∃ cnt', w'.ranges Try.prog 72 rd b r n (D.del (kLit id t p)) (fun x => left x && !x.sameKey (kLit id t p)) cnt' ∧ cnt' ≤ cnt) ∧ x.2.mapTurned w' b := fun x => by
    by_cases hB : Below w.heap.size w x.2
    · obtain ⟨w', cnt', h1, h2, h3, h4⟩ := (ranges_below h hB).drop lawSpot Try.underlying63 (keyOf_spot hi ht hp) x.1
      exact ⟨w', fun _ => ⟨h1, ⟨cnt', h2, h3⟩, h4⟩⟩
    · exact ⟨x.2, fun q => absurd q hB⟩
  obtain ⟨U, hU⟩ := Classical.axiomOfChoice key
  exact ⟨U, fun ty W' hb => hU (ty, W') hb⟩
end Go.Proofs.Ytcmlopflandlgaa.L8
