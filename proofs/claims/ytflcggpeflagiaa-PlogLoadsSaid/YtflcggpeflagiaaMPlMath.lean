/-
  A log as plain data: segments one behind the other.
-/
import Derived.Test.YtflcggpeflagiaaMSegPair
namespace Go.Proofs.Ytflcggpeflagiaa.L6
open Go.RowKit
open L3 L4 L5

/-- a segment -/
structure Sg where
  b : Int
  n : Int
  L : List L4.Fd
/-- each begins where the one ahead of it ends -/
def chained : Option Int → List Sg → Prop
  | _, [] => True
  | q, s :: t => (∀ x, q = some x → s.b = x) ∧ chained (some s.n) t
structure GoodL (room : Nat) (l : List Sg) : Prop where
  r1 : 1 ≤ room
  r64 : room ≤ 64
  ne : 0 < l.length
  good : ∀ s ∈ l, L5.Good s.b s.n s.L
  few : ∀ s ∈ l, s.L.length ≤ room
  chain : chained none l
def startL : List Sg → Int
  | [] => 0
  | s :: _ => s.b
def endL : List Sg → Int
  | [] => 0
  | [s] => s.n
  | _ :: t :: r => endL (t :: r)
theorem end_snoc : ∀ (i : List Sg) (s : Sg), endL (i ++ [s]) = s.n
  | [], _ => rfl
  | [_], _ => rfl
  | _ :: b :: r, s => end_snoc (b :: r) s
theorem start_snoc (i : List Sg) (s t : Sg) : startL (i ++ [s] ++ [t]) = startL (i ++ [s]) := by cases i <;> rfl
theorem last_split {l : List Sg} (h : 0 < l.length) : ∃ i s, l = i ++ [s] :=
  ⟨l.dropLast, l.getLast (by intro e; subst e; simp at h), (List.dropLast_concat_getLast _).symm⟩
theorem chained_app : ∀ {q : Option Int} {a b : List Sg}, chained q (a ++ b) → chained q a
  | _, [], _, _ => trivial
  | _, _ :: _, _, h => ⟨h.1, chained_app h.2⟩
theorem chained_drop : ∀ {q : Option Int} {l : List Sg} (k : Nat), chained q l → ∃ q', chained q' (l.drop k)
  | q, l, 0, h => ⟨q, by simpa using h⟩
  | q, [], k + 1, h => ⟨q, by simp [chained]⟩
  | q, s :: t, k + 1, h => by
    obtain ⟨q', h'⟩ := chained_drop k h.2
    exact ⟨q', by simpa using h'⟩
theorem chained_none {q : Option Int} {l : List Sg} (h : chained q l) : chained none l := by
  cases l with
  | nil => trivial
  | cons s t => exact ⟨fun _ e => (by cases e), h.2⟩
/-- behind the last one -/
theorem chained_snoc : ∀ {q : Option Int} {i : List Sg} {s t : Sg}, chained q (i ++ [s]) → t.b = s.n → chained q (i ++ [s] ++ [t])
  | _, [], _, _, h, e => ⟨h.1, fun x hx => by cases hx; exact e, trivial⟩
  | _, _ :: i, _, _, h, e => ⟨h.1, chained_snoc (i := i) h.2 e⟩
/-- another last one that begins at the same place -/
theorem chained_last : ∀ {q : Option Int} {i : List Sg} {s t : Sg}, chained q (i ++ [s]) → t.b = s.b → chained q (i ++ [t])
  | _, [], _, _, h, e => ⟨fun x hx => e.trans (h.1 x hx), trivial⟩
  | _, _ :: i, _, _, h, e => ⟨h.1, chained_last (i := i) h.2 e⟩
/-- ends rise -/
theorem chained_rise : ∀ {q : Option Int} {l : List Sg}, chained q l → (∀ s ∈ l, L5.Good s.b s.n s.L) → ∀ (i j : Nat) (s t : Sg), i ≤ j → l[i]? = some s → l[j]? = some t → s.n ≤ t.n
  | _, [], _, _, i, j, s, t, _, hi, _ => by simp at hi
  | q, a :: l, h, hg, i, j, s, t, hij, hi, hj => by
    cases j with
    | zero =>
      have : i = 0 := by omega
      subst this
      rw [hi] at hj; cases hj; exact Int.le_refl _
    | succ j =>
      cases i with
      | succ i => exact chained_rise h.2 (fun s hs => hg s (List.mem_cons_of_mem _ hs)) i j s t (by omega) (by simpa using hi) (by simpa using hj)
      | zero =>
        have ea : a = s := by simpa using hi
        subst ea
        cases l with
        | nil => simp at hj
        | cons c l =>
          have h1 : c.b = a.n := h.2.1 _ rfl
          have h2 := (hg c (by simp)).bn
          have h3 := chained_rise h.2 (fun s hs => hg s (List.mem_cons_of_mem _ hs)) 0 j c t (by omega) rfl (by simpa using hj)
          omega
theorem good_le {room : Nat} {l : List Sg} (g : GoodL room l) {i j : Nat} {s t : Sg} (h : i ≤ j) (hi : l[i]? = some s) (hj : l[j]? = some t) : s.n ≤ t.n :=
  chained_rise g.chain g.good i j s t h hi hj
theorem end_is {l : List Sg} {s : Sg} (h : l[l.length - 1]? = some s) : endL l = s.n := by
  by_cases h0 : 0 < l.length
  · obtain ⟨i, t, rfl⟩ := last_split h0
    rw [end_snoc]
    rw [List.length_append, List.length_singleton, Nat.add_sub_cancel, List.getElem?_append_right (Nat.le_refl _), Nat.sub_self] at h
    have : t = s := by simpa using h
    rw [this]
  · have : l = [] := List.eq_nil_of_length_eq_zero (by omega)
    subst this; simp at h
theorem start_is {l : List Sg} {s : Sg} (h : l[0]? = some s) : startL l = s.b := by
  cases l with
  | nil => simp at h
  | cons a t => have : a = s := by simpa using h
                subst this; rfl
theorem good_end {room : Nat} {l : List Sg} (g : GoodL room l) : 0 ≤ endL l ∧ endL l ≤ 1099511627776 := by
  obtain ⟨i, s, rfl⟩ := last_split g.ne
  have h := g.good s (by simp)
  rw [end_snoc]
  exact ⟨Int.le_trans h.b0 h.bn, h.n1⟩

/-! ### Append -/
/-- Append's error -/
def appE (room : Nat) (l : List Sg) (rs : List R) : Int :=
  if chkL rs ≠ 0 then chkL rs else if room < rs.length then 2 else if 1099511627776 < endL l + rs.length then 50 else 0
/-- what it leaves -/
def appL (room : Nat) (rs : List R) : List Sg → List Sg
  | [] => []
  | [s] => if room < s.L.length + rs.length then [s, ⟨s.n, s.n + rs.length, numbered s.n rs⟩] else [⟨s.b, s.n + rs.length, s.L ++ numbered s.n rs⟩]
  | s :: t :: r => s :: appL room rs (t :: r)
theorem app_snoc (room : Nat) (rs : List R) : ∀ (i : List Sg) (s : Sg), appL room rs (i ++ [s]) = if room < s.L.length + rs.length then i ++ [s] ++ [⟨s.n, s.n + rs.length, numbered s.n rs⟩] else i ++ [⟨s.b, s.n + rs.length, s.L ++ numbered s.n rs⟩]
  | [], s => by simp [appL]
  | [a], s => by
    show a :: appL room rs [s] = _
    rw [show appL room rs [s] = _ from rfl]
    unfold appL
    split <;> rfl
  | a :: b :: r, s => by
    show a :: appL room rs (b :: r ++ [s]) = _
    rw [app_snoc room rs (b :: r) s]
    split <;> rfl
theorem app_len (room : Nat) (rs : List R) : ∀ (l : List Sg), (appL room rs l).length ≤ l.length + 1
  | [] => by simp [appL]
  | [s] => by unfold appL; split <;> simp
  | s :: t :: r => by
    show (s :: appL room rs (t :: r)).length ≤ _
    have := app_len room rs (t :: r)
    simp only [List.length_cons] at this ⊢
    omega
theorem appE_zero {room : Nat} {l : List Sg} {rs : List R} (h : appE room l rs = 0) : chkL rs = 0 ∧ rs.length ≤ room ∧ endL l + rs.length ≤ 1099511627776 := by
  unfold appE at h
  split at h
  · rename_i hc; exact absurd h hc
  · rename_i hc
    split at h
    · simp at h
    · split at h
      · simp at h
      · exact ⟨by simpa using hc, by omega, by omega⟩
theorem app_good {room : Nat} {l : List Sg} {rs : List R} (g : GoodL room l) (h : appE room l rs = 0) : GoodL room (appL room rs l) := by
  obtain ⟨h1, h2, h3⟩ := appE_zero h
  obtain ⟨i, s, rfl⟩ := last_split g.ne
  rw [end_snoc] at h3
  have gs := g.good s (by simp)
  have hr64 := g.r64
  have hb0 := gs.b0
  have hbn := gs.bn
  rw [app_snoc]
  split
  · have gn : L5.Good s.n (s.n + rs.length) (numbered s.n rs) := by
      have e := L5.app_good (L := []) (rs := rs) ⟨by omega, Int.le_refl _, gs.n1, by simp, rfl, fun f hf => by simp at hf⟩ (by
        unfold L5.appE
        rw [if_neg (by rw [h1]; simp), if_neg (by simp; omega)])
      simpa using e
    exact ⟨g.r1, g.r64, by simp, fun t ht => by
      rcases List.mem_append.1 ht with ht | ht
      · exact g.good t ht
      · rw [List.mem_singleton.1 ht]; exact gn, fun t ht => by
      rcases List.mem_append.1 ht with ht | ht
      · exact g.few t ht
      · rw [List.mem_singleton.1 ht]; show (numbered s.n rs).length ≤ room; rw [numbered_len]; exact h2, chained_snoc g.chain rfl⟩
  · rename_i hf
    have gn : L5.Good s.b (s.n + rs.length) (s.L ++ numbered s.n rs) := L5.app_good gs (by
        unfold L5.appE
        rw [if_neg (by rw [h1]; simp), if_neg (by omega)])
    exact ⟨g.r1, g.r64, by simp, fun t ht => by
      rcases List.mem_append.1 ht with ht | ht
      · exact g.good t (List.mem_append_left _ ht)
      · rw [List.mem_singleton.1 ht]; exact gn, fun t ht => by
      rcases List.mem_append.1 ht with ht | ht
      · exact g.few t (List.mem_append_left _ ht)
      · rw [List.mem_singleton.1 ht]; show (s.L ++ numbered s.n rs).length ≤ room; rw [List.length_append, numbered_len]; omega, chained_last g.chain rfl⟩

/-! ### Read -/
def allL (l : List Sg) : List L4.Fd := l.flatMap (·.L)
theorem all_app (a b : List Sg) : allL (a ++ b) = allL a ++ allL b := by simp [allL]
/-- how many end at an offset, or ahead of it -/
def ended : List Sg → Int → Nat
  | [], _ => 0
  | s :: t, a => if s.n ≤ a then ended t a + 1 else 0
theorem ended_le : ∀ (l : List Sg) (a : Int), ended l a ≤ l.length
  | [], _ => Nat.le_refl _
  | s :: t, a => by
    have := ended_le t a
    unfold ended; split <;> simp only [List.length_cons] <;> omega
theorem ended_lt : ∀ {l : List Sg} {a : Int} {i : Nat} {s : Sg}, l[i]? = some s → i < ended l a → s.n ≤ a
  | [], a, i, s, h, _ => by simp at h
  | c :: t, a, i, s, h, hi => by
    unfold ended at hi
    split at hi
    · rename_i hc
      cases i with
      | zero => have : c = s := by simpa using h
                subst this; exact hc
      | succ i => exact ended_lt (l := t) (by simpa using h) (by omega)
    · omega
theorem ended_at : ∀ {l : List Sg} {a : Int} {s : Sg}, l[ended l a]? = some s → a < s.n
  | [], a, s, h => by simp [ended] at h
  | c :: t, a, s, h => by
    unfold ended at h
    split at h
    · exact ended_at (l := t) (by simpa using h)
    · have : c = s := by simpa using h
      subst this; omega
/-- the first place from which on ends are above -/
theorem ended_is {l : List Sg} {a : Int} {m : Nat} (hm : m ≤ l.length) (h1 : ∀ i s, i < m → l[i]? = some s → s.n ≤ a) (h2 : ∀ s, l[m]? = some s → a < s.n) : ended l a = m := by
  rcases Nat.lt_trichotomy (ended l a) m with h | h | h
  · obtain ⟨s, hs⟩ : ∃ s, l[ended l a]? = some s := ⟨_, List.getElem?_eq_getElem (by omega)⟩
    have := ended_at hs
    have := h1 _ s h hs
    omega
  · exact h
  · have := ended_le l a
    obtain ⟨s, hs⟩ : ∃ s, l[m]? = some s := ⟨_, List.getElem?_eq_getElem (by omega)⟩
    have := ended_lt hs h
    have := h2 s hs
    omega
theorem read_app {a b : List L4.Fd} {o n : Int} : readL (a ++ b) o n = readL a o n ++ readL b o (n - (readL a o n).length) := by
  unfold readL
  rw [List.filter_append, List.take_append, List.length_take]
  congr 2
  omega
theorem read_none {a : List L4.Fd} {o n : Int} (h : ∀ f ∈ a, f.o < o) : readL a o n = [] := by
  unfold readL
  rw [List.filter_eq_nil_iff.2 (fun f hf => by have := h f hf; simp; omega)]
  exact List.take_nil
theorem read_zero {a : List L4.Fd} {o n : Int} (h : n ≤ 0) : readL a o n = [] := by
  unfold readL
  rw [show n.toNat = 0 by omega, List.take_zero]
/-- what stands in segments that ended is not read -/
theorem read_ended {room : Nat} {l : List Sg} (g : GoodL room l) {o n : Int} : readL (allL l) o n = readL (allL (l.drop (ended l o))) o n := by
  conv => lhs; rw [← List.take_append_drop (ended l o) l, all_app]
  have h0 : readL (allL (l.take (ended l o))) o n = [] := read_none (fun f hf => by
    obtain ⟨s, hs, hfs⟩ := List.mem_flatMap.1 hf
    obtain ⟨i, hi, hs'⟩ := List.mem_iff_getElem.1 hs
    rw [List.length_take] at hi
    have hq : l[i]? = some s := by
      rw [List.getElem_take] at hs'
      rw [← hs']; exact List.getElem?_eq_getElem _
    have h1 := ended_lt hq (by omega : i < ended l o)
    have := rise_mem (g.good s (List.mem_of_getElem? hq)).rise f hfs
    omega)
  rw [read_app, h0]
  simp
end Go.Proofs.Ytflcggpeflagiaa.L6
/-
  Where a log lies in memory: its own row, a row of pointers, and a segment behind each of them.
-/
namespace Go.Proofs.Ytflcggpeflagiaa.L6
open Go.RowKit
open L3 L4 L5

/-- all that was stays, but some blocks -/
structure Only (S : List Nat) (w w' : World) : Prop where
  os : w'.os = w.os
  tape : w'.tape = w.tape
  output : w'.output = w.output
  size : w.heap.size ≤ w'.heap.size
  block : ∀ k, k < w.heap.size → k ∉ S → w'.heap[k]? = w.heap[k]?
theorem Only.refl (S : List Nat) (w : World) : Only S w w := ⟨rfl, rfl, rfl, Nat.le_refl _, fun _ _ _ => rfl⟩
theorem Only.ofBelow {S : List Nat} {w w' : World} (b : Below w.heap.size w w') : Only S w w' := ⟨b.os, b.tape, b.output, b.size, fun k hk _ => b.block k hk⟩
theorem Only.ofBut {S : List Nat} {g : Nat} {h : Option Nat} {w w' : World} (b : But g h w w') (hg : g ∈ S) (hh : ∀ k, h = some k → k ∈ S) : Only S w w' :=
  ⟨b.os, b.tape, b.output, b.size, fun k hk hn => b.block k hk (fun e => hn (e ▸ hg)) (fun e => hn (hh k e.symm))⟩
theorem Only.trans {S S' : List Nat} {w w1 w2 : World} (a : Only S w w1) (b : Only S' w1 w2) (h : ∀ k ∈ S', k ∈ S ∨ w.heap.size ≤ k) : Only S w w2 :=
  ⟨b.os.trans a.os, b.tape.trans a.tape, b.output.trans a.output, Nat.le_trans a.size b.size, fun k hk hn =>
    (b.block k (Nat.lt_of_lt_of_le hk a.size) (fun e => by rcases h k e with q | q; exact hn q; omega)).trans (a.block k hk hn)⟩
theorem Only.mono {S S' : List Nat} {w w' : World} (a : Only S w w') (h : ∀ k ∈ S, k ∈ S' ∨ w.heap.size ≤ k) : Only S' w w' :=
  ⟨a.os, a.tape, a.output, a.size, fun k hk hn => a.block k hk (fun e => by rcases h k e with q | q; exact hn q; omega)⟩
theorem Only.setCell {S : List Nat} {w w1 : World} (a : Only S w w1) {p : Addr} (hp : p.block ∈ S ∨ w.heap.size ≤ p.block) (u : Value) : Only S w (w1.setCell p u) :=
  ⟨a.os, a.tape, a.output, by simp [World.setCell]; exact a.size, fun k hk hn => (Below.heap_setCell _ _ _ _ (by
    intro e
    rcases hp with q | q
    · exact hn (e ▸ q)
    · omega)).trans (a.block k hk hn)⟩
theorem Only.below {S : List Nat} {w w' : World} {B : Nat} (a : Only S w w') (hB : B ≤ w.heap.size) (h : ∀ k ∈ S, B ≤ k) : Below B w w' :=
  ⟨a.os, a.tape, a.output, a.size, fun k hk => a.block k (by omega) (fun e => by have := h k e; omega)⟩
theorem Only.cell {S : List Nat} {w w' : World} (a : Only S w w') {p : Addr} {v : Value} (hc : w.cell? p = some v) (hn : p.block ∉ S) : w'.cell? p = some v :=
  (World.cell?_of_block (w := w) (a.block p.block (World.block_lt_of_cell? w p hc) hn)).trans hc
/-- a row of one's own stays -/
theorem own_at {w w' : World} {base n size : Nat} {E : TypeId} {v : Value} {xs : List Value} (h : w.ownsRow base E size v n xs) (hb : ∀ k, v.ownBlock = some k → w'.heap[k]? = w.heap[k]?) : w'.ownsRow base E size v n xs := by
  refine ⟨h.1, ?_⟩
  rcases h.2 with e | ⟨b, cap, cur, e, h1, hh, h2⟩
  · exact .inl e
  · exact .inr ⟨b, cap, cur, e, h1, (hb b (by rw [e]; rfl)).trans hh, h2⟩
theorem Only.own {S : List Nat} {w w' : World} {base n size : Nat} {E : TypeId} {v : Value} {xs : List Value} (a : Only S w w') (h : w.ownsRow base E size v n xs) (hb : ∀ k, v.ownBlock = some k → k ∉ S) : w'.ownsRow base E size v n xs :=
  own_at h (fun k e => a.block k (h.lt k e).2 (hb k e))
/-- what of a thing's blocks is new -/
def New (S : List Nat) (w : World) (S' : List Nat) : Prop := ∀ k ∈ S', k ∈ S ∨ w.heap.size ≤ k
theorem New.refl (S : List Nat) (w : World) : New S w S := fun _ h => .inl h

/-! ### a log -/
/-- where a segment lies, and what it is -/
structure Pl where
  g : Nat
  A : Option Addr
  c : Nat
  s : Sg
def Pl.bs (p : Pl) : List Nat := p.g :: (blk p.A).toList
def ptrs (ps : List Pl) : List Value := ps.map fun p => .pointer (some ⟨p.g, 0, none⟩)
def blocks (g : Nat) (P : Option Addr) (ps : List Pl) : List Nat := g :: ((blk P).toList ++ ps.flatMap Pl.bs)
structure PLog (W : World) (room : Nat) (g : Nat) (P : Option Addr) (cap : Nat) (ps : List Pl) : Prop where
  row : W.heap[g]? = some (.cells #[.int .i64 room, .slice P ps.length cap] 65 (0, 0))
  own : W.ownsRow 0 67 1 (.slice P ps.length cap) ps.length (ptrs ps)
  segs : ∀ p ∈ ps, Seg 93 W p.g p.A p.c p.s.b p.s.n p.s.L
  nodup : (blocks g P ps).Nodup
theorem mem_blocks {g : Nat} {P : Option Addr} {ps : List Pl} {k : Nat} : k ∈ blocks g P ps ↔ k = g ∨ blk P = some k ∨ ∃ p ∈ ps, k = p.g ∨ blk p.A = some k := by
  simp [blocks, Pl.bs, Option.mem_toList]
theorem ptrs_len (ps : List Pl) : (ptrs ps).length = ps.length := by simp [ptrs]
theorem ptrs_at {ps : List Pl} {i : Nat} {p : Pl} (h : ps[i]? = some p) : (ptrs ps)[i]? = some (.pointer (some ⟨p.g, 0, none⟩)) := by simp [ptrs, h]
section
variable {W W' : World} {room g cap : Nat} {P : Option Addr} {ps : List Pl}
theorem PLog.lt (h : PLog W room g P cap ps) : ∀ k ∈ blocks g P ps, k < W.heap.size := fun k hk => by
  rcases mem_blocks.1 hk with rfl | e | ⟨p, hp, rfl | e⟩
  · exact (Array.getElem?_eq_some_iff.1 h.row).1
  · exact (h.own.lt k (by rw [ownBlock_blk]; exact e)).2
  · exact (h.segs p hp).lt
  · exact (h.segs p hp).blkLt k e
theorem PLog.c0 (h : PLog W room g P cap ps) : W.cell? ⟨g, 0, none⟩ = some (.int .i64 room) := (cell_of_row _ _ 0 _ _ _ h.row).trans rfl
theorem PLog.c1 (h : PLog W room g P cap ps) : W.cell? ⟨g, 1, none⟩ = some (.slice P ps.length cap) := (cell_of_row _ _ 1 _ _ _ h.row).trans rfl
theorem PLog.froz (h : PLog W room g P cap ps) (i : Nat) : W.frozen? ⟨g, i, none⟩ = false := frozen_of_row _ _ _ _ _ h.row
/-- where the pointers lie -/
theorem PLog.form (h : PLog W room g P cap ps) (h0 : 0 < ps.length) : ∃ b, P = some ⟨b, 0, none⟩ ∧ b < W.heap.size ∧ ps.length ≤ cap ∧ ∀ i p, ps[i]? = some p → W.cell? ⟨b, i, none⟩ = some (.pointer (some ⟨p.g, 0, none⟩)) := by
  obtain ⟨b, c, hv, _, hb⟩ := h.own.form h0
  injection hv with e1 e2 e3
  subst e1
  refine ⟨b, rfl, hb, own_cap h.own, fun i p hp => ?_⟩
  have := h.own.cells (g := b) rfl i _ (ptrs_at hp)
  rwa [addr_add] at this
theorem PLog.kept (h : PLog W room g P cap ps) (hb : ∀ k ∈ blocks g P ps, W'.heap[k]? = W.heap[k]?) : PLog W' room g P cap ps :=
  ⟨(hb g (mem_blocks.2 (.inl rfl))).trans h.row, own_at h.own (fun k e => hb k (mem_blocks.2 (.inr (.inl (by rw [ownBlock_blk] at e; exact e))))),
    fun p hp => (h.segs p hp).kept (hb p.g (mem_blocks.2 (.inr (.inr ⟨p, hp, .inl rfl⟩)))) (fun k e => hb k (mem_blocks.2 (.inr (.inr ⟨p, hp, .inr e⟩)))), h.nodup⟩
theorem PLog.below (h : PLog W room g P cap ps) (b : Below W.heap.size W W') : PLog W' room g P cap ps :=
  h.kept (fun k hk => b.block k (h.lt k hk))
theorem PLog.only {S : List Nat} (h : PLog W room g P cap ps) (o : Only S W W') (hd : ∀ k ∈ blocks g P ps, k ∉ S) : PLog W' room g P cap ps :=
  h.kept (fun k hk => o.block k (h.lt k hk) (hd k hk))
theorem blocks_split {a c : List Pl} {p : Pl} : (blocks g P (a ++ p :: c)).Perm (p.bs ++ blocks g P (a ++ c)) := by
  unfold blocks
  rw [List.flatMap_append, List.flatMap_append, List.flatMap_cons]
  refine List.perm_iff_count.2 (fun x => ?_)
  simp only [List.count_append, List.count_cons]
  omega
/-- the rest of a log is apart from one segment -/
theorem PLog.apart {a c : List Pl} {p : Pl} (h : PLog W room g P cap (a ++ p :: c)) : ∀ k ∈ p.bs, k ∉ blocks g P (a ++ c) := fun k hk hn => by
  have := (blocks_split (g := g) (P := P) (a := a) (c := c) (p := p)).nodup_iff.1 h.nodup
  exact (List.nodup_append.1 this).2.2 k hk k hn rfl
/-- one of its segments was turned -/
theorem PLog.turned {a c : List Pl} {p : Pl} {n' : Int} {L' : List L4.Fd} (h : PLog W room g P cap (a ++ p :: c)) (hs : Step 93 W p.g p.A p.s.b n' L' W') :
    ∃ A' c', PLog W' room g P cap (a ++ ⟨p.g, A', c', ⟨p.s.b, n', L'⟩⟩ :: c) ∧ Only p.bs W W' ∧ ∀ j, blk A' = some j → blk p.A = some j ∨ W.heap.size ≤ j := by
  obtain ⟨A', c', s1, s2, s3⟩ := hs
  have hon : Only p.bs W W' := Only.ofBut s2 (by simp [Pl.bs]) (fun k e => by simp [Pl.bs, e])
  have hap := h.apart
  have hlen : (a ++ (⟨p.g, A', c', ⟨p.s.b, n', L'⟩⟩ : Pl) :: c).length = (a ++ p :: c).length := by simp
  have hpt : ptrs (a ++ (⟨p.g, A', c', ⟨p.s.b, n', L'⟩⟩ : Pl) :: c) = ptrs (a ++ p :: c) := by simp [ptrs]
  have hlt := h.lt
  have hnd := (blocks_split (g := g) (P := P) (a := a) (c := c) (p := p)).nodup_iff.1 h.nodup
  have hmem : ∀ k ∈ blocks g P (a ++ c), k ∈ blocks g P (a ++ p :: c) := fun k hk => (blocks_split.mem_iff).2 (List.mem_append_right _ hk)
  have hk : ∀ k ∈ blocks g P (a ++ c), W'.heap[k]? = W.heap[k]? := fun k hk => hon.block k (hlt k (hmem k hk)) (fun e => hap k e hk)
  refine ⟨A', c', ⟨?_, ?_, fun q hq => ?_, ?_⟩, hon, s3⟩
  · rw [hlen]; exact (hk g (mem_blocks.2 (.inl rfl))).trans h.row
  · rw [hlen, hpt]
    exact own_at h.own (fun k e => hk k (mem_blocks.2 (.inr (.inl (by rw [ownBlock_blk] at e; exact e)))))
  · rcases List.mem_append.1 hq with hq | hq
    · have hq' : q ∈ a ++ c := List.mem_append_left _ hq
      exact (h.segs q (List.mem_append_left _ hq)).kept (hk q.g (mem_blocks.2 (.inr (.inr ⟨q, hq', .inl rfl⟩)))) (fun k e => hk k (mem_blocks.2 (.inr (.inr ⟨q, hq', .inr e⟩))))
    · rcases List.mem_cons.1 hq with rfl | hq
      · exact s1
      · have hq' : q ∈ a ++ c := List.mem_append_right _ hq
        exact (h.segs q (List.mem_append_right _ (List.mem_cons_of_mem _ hq))).kept (hk q.g (mem_blocks.2 (.inr (.inr ⟨q, hq', .inl rfl⟩)))) (fun k e => hk k (mem_blocks.2 (.inr (.inr ⟨q, hq', .inr e⟩))))
  · refine blocks_split.nodup_iff.2 (List.nodup_append.2 ⟨?_, (List.nodup_append.1 hnd).2.1, fun x hx y hy e => ?_⟩)
    · unfold Pl.bs
      cases hA : blk A' with
      | none => simp
      | some j =>
        have := s1.ne
        rw [hA] at this
        simp
        intro e; exact this (by rw [e])
    · subst e
      rcases List.mem_cons.1 hx with rfl | hx
      · exact hap _ (by simp [Pl.bs]) hy
      · have e : blk A' = some x := by simpa [Option.mem_toList] using hx
        rcases s3 x e with q | q
        · exact hap x (by simp [Pl.bs, q]) hy
        · have := hlt x (hmem x hy); omega
theorem turned_new {a c : List Pl} {p : Pl} {A' : Option Addr} {c' : Nat} {s' : Sg} (h : ∀ j, blk A' = some j → blk p.A = some j ∨ W.heap.size ≤ j) : New (blocks g P (a ++ p :: c)) W (blocks g P (a ++ ⟨p.g, A', c', s'⟩ :: c)) := fun k hk => by
  rcases mem_blocks.1 hk with rfl | e | ⟨q, hq, he⟩
  · exact .inl (mem_blocks.2 (.inl rfl))
  · exact .inl (mem_blocks.2 (.inr (.inl e)))
  · rcases List.mem_append.1 hq with hq | hq
    · exact .inl (mem_blocks.2 (.inr (.inr ⟨q, List.mem_append_left _ hq, he⟩)))
    · rcases List.mem_cons.1 hq with rfl | hq
      · rcases he with rfl | e
        · exact .inl (mem_blocks.2 (.inr (.inr ⟨p, by simp, .inl rfl⟩)))
        · rcases h k e with q | q
          · exact .inl (mem_blocks.2 (.inr (.inr ⟨p, by simp, .inr q⟩)))
          · exact .inr q
      · exact .inl (mem_blocks.2 (.inr (.inr ⟨q, List.mem_append_right _ (List.mem_cons_of_mem _ hq), he⟩)))
theorem bs_sub {p : Pl} (hp : p ∈ ps) : ∀ k ∈ p.bs, k ∈ blocks g P ps := fun k hk => by
  rcases List.mem_cons.1 hk with rfl | e
  · exact mem_blocks.2 (.inr (.inr ⟨p, hp, .inl rfl⟩))
  · exact mem_blocks.2 (.inr (.inr ⟨p, hp, .inr (by simpa [Option.mem_toList] using e)⟩))
end

/-- a log that was made since w -/
structure LogAt (w W : World) (room : Nat) (g : Nat) (l : List Sg) (S : List Nat) : Prop where
  old : Below w.heap.size w W
  since : ∀ k ∈ S, w.heap.size ≤ k
  good : GoodL room l
  log : ∃ P cap ps, S = blocks g P ps ∧ ps.map (·.s) = l ∧ PLog W room g P cap ps
section
variable {w W W' : World} {room g : Nat} {l : List Sg} {S : List Nat}
theorem LogAt.lt (h : LogAt w W room g l S) : ∀ k ∈ S, k < W.heap.size := by
  obtain ⟨P, cap, ps, rfl, _, hp⟩ := h.log
  exact hp.lt
theorem LogAt.below (h : LogAt w W room g l S) (b : Below W.heap.size W W') : LogAt w W' room g l S := by
  obtain ⟨P, cap, ps, rfl, e, hp⟩ := h.log
  exact ⟨acc h.old b, h.since, h.good, P, cap, ps, rfl, e, hp.below b⟩
theorem LogAt.only {S' : List Nat} (h : LogAt w W room g l S) (o : Only S' W W') (h' : ∀ k ∈ S', w.heap.size ≤ k) (hd : ∀ k ∈ S, k ∉ S') : LogAt w W' room g l S := by
  obtain ⟨P, cap, ps, rfl, e, hp⟩ := h.log
  exact ⟨h.old.trans (o.below h.old.size h'), h.since, h.good, P, cap, ps, rfl, e, hp.only o hd⟩
/-- what a call that turns a log leaves -/
def Turned (w W : World) (room g : Nat) (S : List Nat) (l' : List Sg) (W' : World) : Prop := ∃ S', LogAt w W' room g l' S' ∧ Only S W W' ∧ New S W S'
theorem Turned.same (h : LogAt w W room g l S) (b : Below W.heap.size W W') : Turned w W room g S l W' := ⟨S, h.below b, .ofBelow b, .refl _ _⟩
theorem since_new {S' : List Nat} (h : ∀ k ∈ S, w.heap.size ≤ k) (hw : w.heap.size ≤ W.heap.size) (n : New S W S') : ∀ k ∈ S', w.heap.size ≤ k := fun k hk => by
  rcases n k hk with q | q
  · exact h k q
  · omega
end
end Go.Proofs.Ytflcggpeflagiaa.L6
/-
  Contracts: a log's small calls.
-/
namespace Go.Proofs.Ytflcggpeflagiaa.L6
open Go.RowKit
open L3 L4 L5

theorem next_is {T : TypeId} {w : World} {g : Nat} {A : Option Addr} {cap : Nat} {base next : Int} {L : List L4.Fd} (h : Hid (Seg T w g A cap base next L)) :
    Calls Try.prog 25 #[.pointer (some ⟨g, 0, none⟩)] w fun e w' => e = .returned (.int .i64 next) ∧ Below w.heap.size w w' := by
  go_enter Try.func25, Try.ntmps25
  go_wp2_with (go_at_call 52; refine (span_is h).mono ?_; rintro e w' ⟨rfl, hb⟩)
  go_ret
  exact ⟨rfl, hb⟩

set_option maxRecDepth 100000 in
set_option maxHeartbeats 1000000 in
theorem open_is {W : World} {room g cap : Nat} {P : Option Addr} {ps : List Pl} {p : Pl} (n k : Nat) (h : Hid (PLog W room g P cap ps)) (hn : ps.length = n) (hk : k + 1 = n) (h1 : n ≤ 1000) (hp : Hid (ps[k]? = some p)) :
    Calls Try.prog 26 #[.pointer (some ⟨g, 0, none⟩)] W fun e w' => e = .returned (.pointer (some ⟨p.g, 0, none⟩)) ∧ Below W.heap.size W w' := by
  obtain ⟨b, rfl, hb, hnc, hcells⟩ := h.out.form (by omega)
  have c1 := h.out.c1
  rw [hn] at c1 hnc
  have ck := hcells k p hp.out
  have e1 : wrap64 ((n : Int) - 1) = (k : Int) := by simp only [wrap64]; omega
  have e2 : (n : Int) - 1 = (k : Int) := by omega
  have k0 : (0 : Int) ≤ (k : Int) := by omega
  have k1 : (k : Int) < (n : Int) := by omega
  clear hcells hn hk
  go_enter Try.func26, Try.ntmps26
  go_wp2_with fail
  go_quiet (fail)
  go_wp2_with fail
  go_ret
  exact ⟨rfl, drewN_below (Below.refl _ _) _⟩

/-- the last one's end -/
theorem end_at {ps : List Pl} {k : Nat} {p : Pl} (hp : ps[k]? = some p) (hk : k + 1 = ps.length) : endL (ps.map (·.s)) = p.s.n := by
  have h : (ps.map (·.s))[(ps.map (·.s)).length - 1]? = some p.s := by
    rw [List.length_map, List.getElem?_map, show ps.length - 1 = k by omega, hp]; rfl
  exact end_is h

set_option maxRecDepth 100000 in
set_option maxHeartbeats 1000000 in
theorem logspan_is {W : World} {room g cap : Nat} {P : Option Addr} {ps : List Pl} (n : Nat) (h : Hid (PLog W room g P cap ps)) (hn : ps.length = n) (h0 : 0 < n) (h1 : n ≤ 1000) :
    Calls Try.prog 33 #[.pointer (some ⟨g, 0, none⟩)] W fun e w' => e = .returned (.tuple #[.int .i64 (startL (ps.map (·.s))), .int .i64 (endL (ps.map (·.s)))]) ∧ Below W.heap.size W w' := by
  obtain ⟨k, hk⟩ : ∃ k, k + 1 = n := ⟨n - 1, by omega⟩
  obtain ⟨p, hp⟩ : ∃ p, ps[k]? = some p := ⟨_, List.getElem?_eq_getElem (by omega)⟩
  obtain ⟨q, hq⟩ : ∃ q, ps[0]? = some q := ⟨_, List.getElem?_eq_getElem (by omega)⟩
  obtain ⟨b, rfl, hb, hnc, hcells⟩ := h.out.form (by omega)
  have c1 := h.out.c1
  rw [hn] at c1 hnc
  have ck := hcells 0 q hq
  obtain ⟨x, hx⟩ : ∃ x, startL (ps.map (·.s)) = x := ⟨_, rfl⟩
  obtain ⟨y, hy⟩ : ∃ y, endL (ps.map (·.s)) = y := ⟨_, rfl⟩
  rw [hx, hy]
  have hx' : q.s.b = x := by rw [← hx, start_is (s := q.s) (by simp [hq])]
  have hy' : p.s.n = y := by rw [← hy, end_at hp (by omega)]
  have SQ := Lib.hid (h.out.segs q (List.mem_of_getElem? hq))
  have SP := Lib.hid (h.out.segs p (List.mem_of_getElem? hp))
  have HP := Lib.hid hp
  have HN := Lib.hid hn
  have HX := Lib.hid hx'
  have HY := Lib.hid hy'
  have n0 : (0 : Int) < (n : Int) := by omega
  clear hcells hn hp hq hx hy hx' hy'
  go_enter Try.func33, Try.ntmps33
  go_wp2_with (first
    | (go_at_call 25; have _q := hb2; refine (next_is (Lib.hid ((SP.out.below hb1).below hb2))).mono ?_; rw [HY.out]; rintro e w3 ⟨rfl, hb3⟩)
    | (go_at_call 26; have _q := hb1; refine (open_is n k (Lib.hid (h.out.below hb1)) HN.out hk h1 HP).mono ?_; rintro e w2 ⟨rfl, hb2⟩)
    | (go_at_call 52; refine (span_is SQ).mono ?_; rw [HX.out]; rintro e w1 ⟨rfl, hb1⟩))
  go_ret2
  exact ⟨rfl, acc (acc hb1 hb2) hb3⟩
end Go.Proofs.Ytflcggpeflagiaa.L6
/-
  Contracts: how many of a log's segments end at an offset, or ahead of it.
-/
namespace Go.Proofs.Ytflcggpeflagiaa.L6
open Go.RowKit
open L3 L4 L5

set_option maxRecDepth 100000 in
set_option maxHeartbeats 2000000 in
/-- the library's search: the first place at which it holds -/
theorem search6_is (n : Nat) (cb : Array Value) (p : Nat → Bool) (w : World) (hn : n ≤ 1000) (hf : Hid (∀ (W : World) (i : Nat), Below w.heap.size w W → i < n → Calls Try.prog 55 (#[.int .i64 i] ++ cb) W fun e w' => e = .returned (.bool (p i)) ∧ Below w.heap.size w w'))
    (hmono : Hid (∀ a b, a ≤ b → b < n → p a = true → p b = true)) :
    Calls Try.prog 54 #[.int .i64 n, .func (.func 55) #[] cb] w fun e w' => ∃ m : Nat, e = .returned (.int .i64 m) ∧ m ≤ n ∧ (∀ i, i < m → p i = false) ∧ (∀ i, m ≤ i → i < n → p i = true) ∧ Below w.heap.size w w' := by
  go_enter Try.func54, Try.ntmps54
  go_wp2_with fail
  go_loopw [5, 6] (fun s5 s6 wr => ∃ lo hi : Nat, s5 = .int .i64 lo ∧ s6 = .int .i64 hi ∧ lo ≤ hi ∧ hi ≤ n ∧ Hid ((∀ t, t < lo → p t = false) ∧ (∀ t, hi ≤ t → t < n → p t = true)) ∧ Below w.heap.size w wr) (fun s5 s6 _ => (intOf s6).toNat - (intOf s5).toNat)
  case atStart => exact ⟨0, n, rfl, rfl, Nat.zero_le _, Nat.le_refl _, Lib.hid ⟨fun t ht => absurd ht (Nat.not_lt_zero _), fun t h1 h2 => by omega⟩, Below.refl _ _⟩
  case round =>
    obtain ⟨lo, hi, rfl, rfl, hlh, hin, hI, hbel⟩ := hrel
    by_cases hlt : lo < hi
    · obtain ⟨md, hmd⟩ : ∃ md, (lo + hi) / 2 = md := ⟨_, rfl⟩
      have hmd2 : ((lo : Int) + (hi : Int)) / 2 = (md : Int) := by omega
      have hc := hf.out wr md hbel (by omega)
      obtain ⟨b, hb⟩ : ∃ b, p md = b := ⟨_, rfl⟩
      rw [hb] at hc
      have m1 : lo ≤ md := by omega
      have m2 : md < hi := by omega
      have HB := Lib.hid hb
      clear hb hmd
      cases b
      · go_wp2_with (go_at_call 55; refine hc.mono ?_; rintro e w' ⟨rfl, hb'⟩)
        go_roundw
        case rel =>
          refine ⟨md + 1, hi, by go_num, rfl, by omega, hin, Lib.hid ⟨fun t ht => ?_, hI.out.2⟩, hb'⟩
          cases h : p t
          · rfl
          · exact absurd (hmono.out t md (by omega) (by omega) h) (by rw [HB.out]; simp)
        case measure => simp [intOf]; omega
      · go_wp2_with (go_at_call 55; refine hc.mono ?_; rintro e w' ⟨rfl, hb'⟩)
        go_roundw
        case rel => exact ⟨lo, md, rfl, rfl, by omega, by omega, Lib.hid ⟨hI.out.1, fun t ht htn => hmono.out md t ht htn HB.out⟩, hb'⟩
        case measure => simp [intOf]; omega
    · obtain rfl : hi = lo := by omega
      go_wp2_with fail
      go_ret
      exact ⟨hi, rfl, hin, hI.out.1, hI.out.2, hbel⟩


theorem keep_cell {w1 w2 : World} {p : Addr} {v : Value} (h : w1.cell? p = some v) (hb : Below w1.heap.size w1 w2) : w2.cell? p = some v :=
  (hb.cell (World.block_lt_of_cell? _ _ h)).trans h
theorem keep_four {w w1 w2 : World} {p1 p2 p3 p4 : Addr} {v1 v2 v3 v4 : Value} (h : (w1.cell? p1 = some v1 ∧ w1.cell? p2 = some v2 ∧ w1.cell? p3 = some v3 ∧ w1.cell? p4 = some v4) ∧ Below w.heap.size w w1) (hb : Below w1.heap.size w1 w2) : (w2.cell? p1 = some v1 ∧ w2.cell? p2 = some v2 ∧ w2.cell? p3 = some v3 ∧ w2.cell? p4 = some v4) ∧ Below w.heap.size w w2 :=
  ⟨⟨keep_cell h.1.1 hb, keep_cell h.1.2.1 hb, keep_cell h.1.2.2.1 hb, keep_cell h.1.2.2.2 hb⟩, acc h.2 hb⟩

set_option maxRecDepth 100000 in
set_option maxHeartbeats 2000000 in
theorem above_is {w : World} {room g cap : Nat} {P : Option Addr} {ps : List Pl} {p : Pl} (bs bf i n : Nat) (a : Int) (h : Hid (PLog w room g P cap ps)) (hs : w.cell? ⟨bs, 0, none⟩ = some (.pointer (some ⟨g, 0, none⟩))) (hf : w.cell? ⟨bf, 0, none⟩ = some (.int .i64 a)) (hn : ps.length = n) (h1 : n ≤ 1000) (hi : i < n) (hp : Hid (ps[i]? = some p)) (v : Bool) (hv : Hid (decide (a < p.s.n) = v)) :
    Calls Try.prog 55 (#[.int .i64 i] ++ #[.pointer (some ⟨bs, 0, none⟩), .pointer (some ⟨bf, 0, none⟩)]) w fun e w' => e = .returned (.bool v) ∧ Below w.heap.size w w' := by
  obtain ⟨b, rfl, hb, hnc, hcells⟩ := h.out.form (by omega)
  have c1 := h.out.c1
  rw [hn] at c1 hnc
  have ck := hcells i p hp.out
  have SP := Lib.hid (h.out.segs p (List.mem_of_getElem? hp.out))
  have hbf := World.block_lt_of_cell? _ _ hf
  dsimp only at hbf
  obtain ⟨o, ho⟩ : ∃ o, p.s.n = o := ⟨_, rfl⟩
  have HO := Lib.hid ho
  have HV : Hid (decide (a < o) = v) := Lib.hid (by rw [← ho]; exact hv.out)
  have k0 : (0 : Int) ≤ (i : Int) := by omega
  have k1 : (i : Int) < (n : Int) := by omega
  clear hcells hn ho hv
  show Calls _ _ #[.int .i64 i, .pointer (some ⟨bs, 0, none⟩), .pointer (some ⟨bf, 0, none⟩)] _ _
  go_enter Try.func55, Try.ntmps55
  go_wp2_with fail
  go_region_held3 (fun w' => (w'.cell? ⟨bs, 0, none⟩ = some (.pointer (some ⟨g, 0, none⟩)) ∧ w'.cell? ⟨g, 1, none⟩ = some (.slice (some ⟨b, 0, none⟩) n cap) ∧ w'.cell? ⟨b, i, none⟩ = some (.pointer (some ⟨p.g, 0, none⟩)) ∧ w'.cell? ⟨bf, 0, none⟩ = some (.int .i64 a)) ∧ Below w.heap.size w w')
    (first | assumption | exact ⟨⟨hs, c1, ck, hf⟩, (Below.refl _ _).drew⟩ | exact (Below.refl _ _).drew | exact keep_four (by assumption) (by assumption) | exact keep_four (by assumption) ((Below.refl _ _).drew) | exact keep_four (keep_four (by assumption) ((Below.refl _ _).drew)) (by assumption))
    ((go_at_call 25; refine (next_is (Lib.hid (SP.out.below (by first | assumption | (rename_i hh; exact hh.2) | exact (Below.refl _ _).drew)))).mono ?_; rw [HO.out]; rintro e w1 ⟨rfl, hb1⟩))
  all_goals
    go_wp2_with fail
    go_ret
    rename_i hh
    refine ⟨?_, hh.2⟩
    first | rfl | (rw [← HV.out]; rfl)

set_option maxRecDepth 100000 in
set_option maxHeartbeats 2000000 in
theorem ended_any {W : World} {room g cap : Nat} {P : Option Addr} {ps : List Pl} (a : Int) (n m : Nat) (h : Hid (PLog W room g P cap ps)) (G : Hid (GoodL room (ps.map (·.s)))) (hn : ps.length = n) (h1 : n ≤ 1000) (hm : Hid (ended (ps.map (·.s)) a = m)) :
    Calls Try.prog 34 #[.pointer (some ⟨g, 0, none⟩), .int .i64 a] W fun e w' => e = .returned (.int .i64 m) ∧ Below W.heap.size W w' := by
  have c1 := h.out.c1
  rw [hn] at c1
  have hg := h.out.lt g (mem_blocks.2 (.inl rfl))
  obtain ⟨W0, hW0⟩ : ∃ W0, W0 = (W.alloc (.cells #[.pointer (some ⟨g, 0, none⟩)] 23)).alloc (.cells #[.int .i64 a] 3) := ⟨_, rfl⟩
  have hb0 : Below W.heap.size W W0 := by rw [hW0]; exact two_box _ _
  have hs0 : W0.cell? ⟨W.heap.size, 0, none⟩ = some (.pointer (some ⟨g, 0, none⟩)) := by
    rw [hW0]; exact (World.cell?_alloc_lt _ _ _ (by simp)).trans ((cell_of_row _ _ 0 _ _ _ (heap_alloc_new _ _)).trans rfl)
  have hf0 : W0.cell? ⟨W.heap.size + 1, 0, none⟩ = some (.int .i64 a) := by
    rw [hW0]; have := heap_alloc_new (W.alloc (.cells #[.pointer (some ⟨g, 0, none⟩)] 23)) (.cells #[.int .i64 a] 3); rw [World.size_alloc] at this; exact (cell_of_row _ _ 0 _ _ _ this).trans rfl
  have hz0 : W.heap.size + 1 < W0.heap.size := by rw [hW0]; simp
  have HS0 := Lib.hid hs0
  have HF0 := Lib.hid hf0
  have HW0 := Lib.hid hW0
  have HN := Lib.hid hn
  have hp : ∃ p : Nat → Bool, ∀ i q, ps[i]? = some q → p i = decide (a < q.s.n) := ⟨fun i => decide (a < ((ps[i]?).map (·.s.n)).getD 0), fun i q hq => by dsimp only; rw [hq]; rfl⟩
  obtain ⟨p, hp⟩ := hp
  have HP := Lib.hid hp
  have hser : Hid (∀ (W1 : World) (i : Nat), Below W0.heap.size W0 W1 → i < n → Calls Try.prog 55 (#[.int .i64 i] ++ #[.pointer (some ⟨W.heap.size, 0, none⟩), .pointer (some ⟨W.heap.size + 1, 0, none⟩)]) W1 fun e w' => e = .returned (.bool (p i)) ∧ Below W0.heap.size W0 w') := Lib.hid (fun W1 i hb hi => by
    obtain ⟨q, hq⟩ : ∃ q, ps[i]? = some q := ⟨_, List.getElem?_eq_getElem (by rw [HN.out]; exact hi)⟩
    exact (above_is _ _ i n a (Lib.hid (h.out.below (acc hb0 hb))) ((hb.cell (p := ⟨W.heap.size, 0, none⟩) (by simp; omega)).trans HS0.out) ((hb.cell (p := ⟨W.heap.size + 1, 0, none⟩) hz0).trans HF0.out) HN.out h1 hi (Lib.hid hq) (p i) (Lib.hid (HP.out i q hq).symm)).mono (fun e w' ⟨he, hb'⟩ => ⟨he, acc hb hb'⟩))
  have hmono : Hid (∀ x y, x ≤ y → y < n → p x = true → p y = true) := Lib.hid (fun x y hxy hy hx => by
    obtain ⟨q, hq⟩ : ∃ q, ps[x]? = some q := ⟨_, List.getElem?_eq_getElem (by rw [HN.out]; omega)⟩
    obtain ⟨r, hr⟩ : ∃ q, ps[y]? = some q := ⟨_, List.getElem?_eq_getElem (by rw [HN.out]; exact hy)⟩
    rw [HP.out x q hq] at hx
    rw [HP.out y r hr]
    have := good_le G.out hxy (by simp [hq] : (ps.map (·.s))[x]? = some q.s) (by simp [hr] : (ps.map (·.s))[y]? = some r.s)
    have hx' : a < q.s.n := by simpa using hx
    exact decide_eq_true (by omega))
  have hfin : ∀ m', m' ≤ n → (∀ i, i < m' → p i = false) → (∀ i, m' ≤ i → i < n → p i = true) → m' = m := fun m' h1' h2' h3' => by
    rw [← hm.out]
    refine (ended_is (by rw [List.length_map, HN.out]; exact h1') (fun i s hi hs => ?_) (fun s hs => ?_)).symm
    · rw [List.getElem?_map] at hs
      obtain ⟨q, hq, rfl⟩ := Option.map_eq_some_iff.1 hs
      have := h2' i hi
      rw [HP.out i q hq] at this
      have : ¬ a < q.s.n := by simpa using this
      omega
    · rw [List.getElem?_map] at hs
      obtain ⟨q, hq, rfl⟩ := Option.map_eq_some_iff.1 hs
      have := h3' m' (Nat.le_refl _) (by have := (List.getElem?_eq_some_iff.1 hq).1; rw [HN.out] at this; exact this)
      rw [HP.out m' q hq] at this
      simpa using this
  have HFIN := Lib.hid hfin
  clear hn hp hfin hs0 hf0 hW0
  go_enter Try.func34, Try.ntmps34
  go_wp2_with (go_at_call 54; rw [← HW0.out]; refine (search6_is n #[.pointer (some ⟨W.heap.size, 0, none⟩), .pointer (some ⟨W.heap.size + 1, 0, none⟩)] p W0 h1 hser hmono).mono ?_; rintro e w1 ⟨m', rfl, q1, q2, q3, hb1⟩)
  go_ret
  obtain rfl := HFIN.out m' q1 q2 q3
  exact ⟨rfl, acc hb0 hb1⟩
end Go.Proofs.Ytflcggpeflagiaa.L6
