/-
  A log while it is compacted: what lies between two rounds.
-/
import Derived.Test.YtflcggpeflagiaaPlLast
namespace Go.Proofs.Ytflcggpeflagiaa.L6
open Go.RowKit Go.Shelf
open Go.Maps
open L3 L4 L5

/-- a log's blocks hold cells, of these types -/
theorem PLog.cells {W : World} {room g cap : Nat} {P : Option Addr} {ps : List Pl} (h : PLog W room g P cap ps) : ∀ k ∈ blocks g P ps, ∃ cs T, W.heap[k]? = some (.cells cs T (0, 0)) ∧ (T = 65 ∨ T = 67 ∨ T = 93 ∨ T = 43) := fun k hk => by
  rcases mem_blocks.1 hk with rfl | e | ⟨p, hp, rfl | e⟩
  · exact ⟨_, _, h.row, .inl rfl⟩
  · rcases h.own.2 with ⟨e', _⟩ | ⟨b, c, cur, e', _, hh, _⟩
    · injection e' with e1 _ _; rw [e1] at e; cases e
    · injection e' with e1 _ _; rw [e1] at e; injection e with e; subst e; exact ⟨_, _, hh, .inr (.inl rfl)⟩
  · exact ⟨_, _, (h.segs p hp).row, .inr (.inr (.inl rfl))⟩
  · rcases (h.segs p hp).own.2 with ⟨e', _⟩ | ⟨b, c, cur, e', _, hh, _⟩
    · injection e' with e1 _ _; rw [e1] at e; cases e
    · injection e' with e1 _ _; rw [e1] at e; injection e with e; subst e; exact ⟨_, _, hh, .inr (.inr (.inr rfl))⟩
theorem PLog.grown {W W' : World} {room g cap : Nat} {P : Option Addr} {ps : List Pl} {row : Option Nat} (h : PLog W room g P cap ps) (hg : W.grownBy W' row) (hr : ∀ r, row = some r → ∃ o : Obj, W.heap[r]? = some o ∧ o.isCells = false) : PLog W' room g P cap ps :=
  h.kept (fun k hk => hg.block k (h.lt k hk) (fun e => by
    obtain ⟨o, ho, hc⟩ := hr k e.symm
    obtain ⟨cs, T, hh, _⟩ := h.cells k hk
    rw [hh] at ho; cases ho; cases hc))
/-- what is no cells stays -/
theorem keepsFrom_only {S : List Nat} {B0 : Nat} {W W' : World} (o : Only S W W') (h : ∀ k ∈ S, k < B0 ∨ ∃ cs T, W.heap[k]? = some (.cells cs T (0, 0))) : KeepsFrom B0 W W' :=
  ⟨o.size, fun k ob hB hk hc => (o.block k (Array.getElem?_eq_some_iff.1 hk).1 (fun e => by
    rcases h k e with q | ⟨cs, T, q⟩
    · omega
    · rw [q] at hk; cases hk; cases hc)).trans hk⟩

structure CMid (w W : World) (room g cap N : Nat) (P : Option Addr) (ps ps' : List Pl) (n : Nat) (ks : List (List UInt8)) (gone : Nat) : Prop where
  b1 : Boxed W w.heap.size 23 (.pointer (some ⟨g, 0, none⟩))
  b2 : Boxed W (w.heap.size + 1) 3 (.int .i64 gone)
  b3 : Boxed W (w.heap.size + 3) 77 (.map (some (w.heap.size + 2)))
  b4 : Boxed W (w.heap.size + 4) 63 (.slice P N cap)
  keys : IsKeys W (w.heap.size + 2) n ks
  log : PLog W room g P cap ps'
  gs : ps'.map (·.g) = ps.map (·.g)
  only : Only (blocks g P ps) w W
  new : New (blocks g P ps) w (blocks g P ps')
theorem boxed_keep {W W' : World} {B : Nat} {t : TypeId} {v : Value} (h : Boxed W B t v) (hb : W'.heap[B]? = W.heap[B]?) : Boxed W' B t v := hb.trans h
section
variable {w W W' : World} {room g cap N : Nat} {P : Option Addr} {ps ps' : List Pl} {n : Nat} {ks : List (List UInt8)} {gone : Nat}
theorem CMid.below (h : CMid w W room g cap N P ps ps' n ks gone) (b : Below W.heap.size W W') : CMid w W' room g cap N P ps ps' n ks gone :=
  ⟨boxed_keep h.b1 (b.block _ h.b1.lt), boxed_keep h.b2 (b.block _ h.b2.lt), boxed_keep h.b3 (b.block _ h.b3.lt), boxed_keep h.b4 (b.block _ h.b4.lt), h.keys.at (b.block _ h.keys.lt), h.log.below b, h.gs, h.only.trans (S' := []) (Only.ofBelow b) (fun k hk => by cases hk), h.new⟩
theorem CMid.grown {row : Option Nat} (h : CMid w W room g cap N P ps ps' n ks gone) (hg : W.grownBy W' row) (hr : ∀ r, row = some r → w.heap.size + 5 ≤ r ∧ ∃ o : Obj, W.heap[r]? = some o ∧ o.isCells = false) : CMid w W' room g cap N P ps ps' n ks gone :=
  ⟨h.b1.kept hg (fun e => by have := (hr _ e.symm).1; omega), h.b2.kept hg (fun e => by have := (hr _ e.symm).1; omega), h.b3.kept hg (fun e => by have := (hr _ e.symm).1; omega), h.b4.kept hg (fun e => by have := (hr _ e.symm).1; omega),
    h.keys.kept hg (fun e => by have := (hr _ e.symm).1; omega), h.log.grown hg (fun r e => (hr r e).2), h.gs,
    ⟨hg.os.trans h.only.os, hg.tape.trans h.only.tape, hg.output.trans h.only.output, Nat.le_trans h.only.size hg.size, fun k hk hn => (hg.block k (by have := h.only.size; omega) (fun e => by have := (hr k e.symm).1; omega)).trans (h.only.block k hk hn)⟩, h.new⟩
theorem CMid.off (h : CMid w W room g cap N P ps ps' n ks gone) : ∀ k ∈ blocks g P ps', k ≠ w.heap.size ∧ k ≠ w.heap.size + 1 ∧ k ≠ w.heap.size + 2 ∧ k ≠ w.heap.size + 3 ∧ k ≠ w.heap.size + 4 := fun k hk => by
  obtain ⟨cs, T, hh, hT⟩ := h.log.cells k hk
  obtain ⟨es, c, hm⟩ := h.keys.map
  refine ⟨fun e => ?_, fun e => ?_, fun e => ?_, fun e => ?_, fun e => ?_⟩ <;> rw [e] at hh
  · rw [h.b1] at hh; cases hh; rcases hT with q | q | q | q <;> exact absurd q (by decide)
  · rw [h.b2] at hh; cases hh; rcases hT with q | q | q | q <;> exact absurd q (by decide)
  · rw [hm] at hh; cases hh
  · rw [h.b3] at hh; cases hh; rcases hT with q | q | q | q <;> exact absurd q (by decide)
  · rw [h.b4] at hh; cases hh; rcases hT with q | q | q | q <;> exact absurd q (by decide)
/-- the set was turned -/
theorem CMid.keyed {n' : Nat} {ks' : List (List UInt8)} (h : CMid w W room g cap N P ps ps' n ks gone) (o : Only [w.heap.size + 2] W W') (hk : IsKeys W' (w.heap.size + 2) n' ks') : CMid w W' room g cap N P ps ps' n' ks' gone :=
  ⟨boxed_keep h.b1 (o.block _ h.b1.lt (by simp)), boxed_keep h.b2 (o.block _ h.b2.lt (by simp)), boxed_keep h.b3 (o.block _ h.b3.lt (by simp)), boxed_keep h.b4 (o.block _ h.b4.lt (by simp)), hk,
    h.log.only o (fun k hk hm => (h.off k hk).2.2.1 (by simpa using hm)), h.gs, h.only.trans o (fun k hk => .inr (by rw [List.mem_singleton.1 hk]; omega)), h.new⟩
/-- a segment was turned -/
theorem CMid.turned {a c : List Pl} {p : Pl} {n' : Int} {L' : List L4.Fd} (h : CMid w W room g cap N P ps (a ++ p :: c) n ks gone) (hs : Step 93 W p.g p.A p.s.b n' L' W') :
    ∃ A' c', CMid w W' room g cap N P ps (a ++ ⟨p.g, A', c', ⟨p.s.b, n', L'⟩⟩ :: c) n ks gone ∧ Only p.bs W W' := by
  obtain ⟨A', c', q1, q2, q3⟩ := h.log.turned hs
  have hsub : ∀ k ∈ p.bs, k ∈ blocks g P (a ++ p :: c) := bs_sub (by simp)
  have hoff := fun k hk => h.off k (hsub k hk)
  refine ⟨A', c', ⟨boxed_keep h.b1 (q2.block _ h.b1.lt (fun e => (hoff _ e).1 rfl)), boxed_keep h.b2 (q2.block _ h.b2.lt (fun e => (hoff _ e).2.1 rfl)), boxed_keep h.b3 (q2.block _ h.b3.lt (fun e => (hoff _ e).2.2.2.1 rfl)), boxed_keep h.b4 (q2.block _ h.b4.lt (fun e => (hoff _ e).2.2.2.2 rfl)), h.keys.at (q2.block _ h.keys.lt (fun e => (hoff _ e).2.2.1 rfl)), q1, ?_, h.only.trans q2 (fun k hk => h.new k (hsub k hk)), fun k hk => ?_⟩, q2⟩
  · have := h.gs; simpa using this
  · rcases turned_new (s' := ⟨p.s.b, n', L'⟩) (c' := c') q3 k hk with e | e
    · exact h.new k e
    · exact .inr (Nat.le_trans h.only.size e)
/-- the count was turned -/
theorem CMid.counted (h : CMid w W room g cap N P ps ps' n ks gone) (y : Nat) : CMid w (W.setCell ⟨w.heap.size + 1, 0, none⟩ (.int .i64 y)) room g cap N P ps ps' n ks y := by
  have hb : ∀ k, k ≠ w.heap.size + 1 → (W.setCell ⟨w.heap.size + 1, 0, none⟩ (.int .i64 y)).heap[k]? = W.heap[k]? := fun k hk => Below.heap_setCell _ _ _ _ (fun e => hk e)
  exact ⟨boxed_keep h.b1 (hb _ (by omega)), h.b2.set _, boxed_keep h.b3 (hb _ (by omega)), boxed_keep h.b4 (hb _ (by omega)), h.keys.at (hb _ (by omega)), h.log.kept (fun k hk => hb k (h.off k hk).2.1), h.gs, h.only.setCell (p := ⟨w.heap.size + 1, 0, none⟩) (.inr (by simp)) _, h.new⟩
theorem CMid.cellsOf {a c : List Pl} {p : Pl} (h : CMid w W room g cap N P ps (a ++ p :: c) n ks gone) : ∀ k ∈ p.bs, ∃ cs T, W.heap[k]? = some (.cells cs T (0, 0)) := fun k hk => by
  obtain ⟨cs, T, hh, _⟩ := h.log.cells k (bs_sub (by simp) k hk)
  exact ⟨cs, T, hh⟩
theorem CMid.lenEq (h : CMid w W room g cap N P ps ps' n ks gone) : ps'.length = ps.length := by
  have := congrArg List.length h.gs
  simpa using this
end

/-! ### plain -/
def stepC (N : Nat) (d : List Sg × List (List UInt8) × Nat) (i : Nat) : List Sg × List (List UInt8) × Nat :=
  match d.1[i]? with
  | none => d
  | some s => if i + 1 < N then (d.1.set i ⟨s.b, s.n, keepL s.L (lastL s.L d.2.1).2⟩, (lastL s.L d.2.1).1, d.2.2 + (s.L.length - (keepL s.L (lastL s.L d.2.1).2).length)) else (d.1, (lastL s.L d.2.1).1, d.2.2)
def foldC {α : Type} (L : List α) (l : List Sg) (pre : List (Fin L.length)) : List Sg × List (List UInt8) × Nat := pre.foldl (fun d x => stepC L.length d x.1) (l, [], 0)
theorem foldC_snoc {α : Type} (L : List α) (l : List Sg) (pre : List (Fin L.length)) (x : Fin L.length) : foldC L l (pre ++ [x]) = stepC L.length (foldC L l pre) x.1 := by simp [foldC]
/-- what Compact leaves, and how many went -/
def comp (l : List Sg) : List Sg × List (List UInt8) × Nat := (List.range l.length).reverse.foldl (stepC l.length) (l, [], 0)
theorem foldC_all {α : Type} (L : List α) (l : List Sg) (h : l.length = L.length) : foldC L l (downF L) = comp l := by
  unfold foldC comp
  rw [h]
  have e : (downF L).map (fun x => x.1) = (List.range L.length).reverse := by
    unfold downF
    rw [List.map_reverse]
    congr 1
    apply List.ext_getElem
    · simp
    · intro i h1 h2; simp
  rw [← e, List.foldl_map]
end Go.Proofs.Ytflcggpeflagiaa.L6
