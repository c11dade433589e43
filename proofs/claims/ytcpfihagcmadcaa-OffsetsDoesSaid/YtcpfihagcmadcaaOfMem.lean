/-
  Where marks lie in memory: the program's own, a map behind a pointer; the document's, a row of marks behind one.
-/
import Derived.Test.YtcpfihagcmadcaaOfMath
import Derived.Maps.OwnSet
import Derived.Maps.OwnIn
import Derived.Maps.RangeWalk
import Derived.Maps.AppendAt
import Derived.OwnWalk
import Derived.DeepKeys4
namespace Go.Proofs.Ytcpfihagcmadcaa.L12
open Go.RowKit
open Go.Maps
open L3 L4

/-! ### frames -/
/-- all that was stays, but some blocks -/
structure Only (S : List Nat) (w w' : World) : Prop where
  os : w'.os = w.os
  tape : w'.tape = w.tape
  output : w'.output = w.output
  size : w.heap.size ≤ w'.heap.size
  block : ∀ k, k < w.heap.size → k ∉ S → w'.heap[k]? = w.heap[k]?
theorem Only.refl (S : List Nat) (w : World) : Only S w w := ⟨rfl, rfl, rfl, Nat.le_refl _, fun _ _ _ => rfl⟩
theorem Only.ofBelow {S : List Nat} {w w' : World} (b : Below w.heap.size w w') : Only S w w' := ⟨b.os, b.tape, b.output, b.size, fun k hk _ => b.block k hk⟩
theorem Only.trans {S S' : List Nat} {w w1 w2 : World} (a : Only S w w1) (b : Only S' w1 w2) (h : ∀ k ∈ S', k ∈ S ∨ w.heap.size ≤ k) : Only S w w2 :=
  ⟨b.os.trans a.os, b.tape.trans a.tape, b.output.trans a.output, Nat.le_trans a.size b.size, fun k hk hn =>
    (b.block k (Nat.lt_of_lt_of_le hk a.size) (fun e => by rcases h k e with q | q; exact hn q; omega)).trans (a.block k hk hn)⟩
theorem Only.mono {S S' : List Nat} {w w' : World} (a : Only S w w') (h : ∀ k ∈ S, k ∈ S' ∨ w.heap.size ≤ k) : Only S' w w' :=
  ⟨a.os, a.tape, a.output, a.size, fun k hk hn => a.block k hk (fun e => by rcases h k e with q | q; exact hn q; omega)⟩
theorem Only.setCell {S : List Nat} {w w1 : World} (a : Only S w w1) {p : Addr} (hp : p.block ∈ S ∨ w.heap.size ≤ p.block) (u : Value) : Only S w (w1.setCell p u) :=
  ⟨a.os, a.tape, a.output, by simp [World.setCell]; exact a.size, fun k hk hn => (Below.heap_setCell _ _ _ _ (by
    intro e
    rcases hp with q | q
    · exact hn (e ▸ q)
    · omega)).trans (a.block k hk hn)⟩
theorem Only.grown {S : List Nat} {w w1 w2 : World} {row : Option Nat} (a : Only S w w1) (g : w1.grownBy w2 row) (h : ∀ k, row = some k → k ∈ S ∨ w.heap.size ≤ k) : Only S w w2 :=
  ⟨g.os.trans a.os, g.tape.trans a.tape, g.output.trans a.output, Nat.le_trans a.size g.size, fun k hk hn =>
    (g.block k (Nat.lt_of_lt_of_le hk a.size) (fun e => by rcases h k e.symm with q | q; exact hn q; omega)).trans (a.block k hk hn)⟩
theorem Only.alloc {S : List Nat} {w w1 : World} (a : Only S w w1) (o : Obj) : Only S w (w1.alloc o) := a.grown (World.grownBy_alloc w1 o none) (fun k e => by cases e)
theorem Only.drew {S : List Nat} {w w1 : World} (a : Only S w w1) : Only S w w1.drew := ⟨a.os, a.tape, a.output, a.size, a.block⟩
theorem Only.below {S : List Nat} {w w' : World} {B : Nat} (a : Only S w w') (hB : B ≤ w.heap.size) (h : ∀ k ∈ S, B ≤ k) : Below B w w' :=
  ⟨a.os, a.tape, a.output, a.size, fun k hk => a.block k (by omega) (fun e => by have := h k e; omega)⟩
theorem Only.nil {w w' : World} (a : Only [] w w') : Below w.heap.size w w' := a.below (Nat.le_refl _) (fun k hk => by cases hk)
theorem Only.cell {S : List Nat} {w w' : World} (a : Only S w w') {p : Addr} {v : Value} (hc : w.cell? p = some v) (hn : p.block ∉ S) : w'.cell? p = some v :=
  (World.cell?_of_block (w := w) (a.block p.block (World.block_lt_of_cell? w p hc) hn)).trans hc
/-- a row of one's own stays -/
theorem own_at {w w' : World} {base n size : Nat} {E : TypeId} {v : Value} {xs : List Value} (h : w.ownsRow base E size v n xs) (hb : ∀ k, v.ownBlock = some k → w'.heap[k]? = w.heap[k]?) : w'.ownsRow base E size v n xs := by
  refine ⟨h.1, ?_⟩
  rcases h.2 with e | ⟨b, cap, cur, e, h1, hh, h2⟩
  · exact .inl e
  · exact .inr ⟨b, cap, cur, e, h1, (hb b (by rw [e]; rfl)).trans hh, h2⟩
theorem own_base {w : World} {base base' n size : Nat} {E : TypeId} {v : Value} {xs : List Value} (h : w.ownsRow base E size v n xs) (hb : base' ≤ base) : w.ownsRow base' E size v n xs := by
  refine ⟨h.1, ?_⟩
  rcases h.2 with e | ⟨b, cap, cur, e, h1, hh, h2⟩
  · exact .inl e
  · exact .inr ⟨b, cap, cur, e, by omega, hh, h2⟩
theorem blk_own {A : Option Addr} {n c : Nat} : (Value.slice A n c).ownBlock = A.map (·.block) := by cases A <;> rfl
theorem own_len {w : World} {base n size : Nat} {E : TypeId} {v : Value} {xs : List Value} (h : w.ownsRow base E size v n xs) : ∃ A c, v = .slice A n c := by
  rcases h.2 with ⟨e, e0⟩ | ⟨g, cap, cur, e, _⟩
  · exact ⟨none, 0, by rw [e, e0]⟩
  · exact ⟨_, _, e⟩
/-- a slice's block -/
def bk (A : Option Addr) : List Nat := (A.map (·.block)).toList
theorem mem_bk {A : Option Addr} {k : Nat} : k ∈ bk A ↔ A.map (·.block) = some k := by cases A <;> simp [bk, eq_comm]
theorem own_bk {w : World} {base n size c m : Nat} {E : TypeId} {A : Option Addr} {xs : List Value} (h : w.ownsRow base E size (.slice A n c) m xs) : ∀ k ∈ bk A, ∃ cs, base ≤ k ∧ w.heap[k]? = some (.cells cs E (0, 0)) := fun k hk => by
  rcases h.2 with ⟨e, _⟩ | ⟨b, cap, cur, e, h1, hh, _⟩
  · injection e with e1; subst e1; simp [bk] at hk
  · injection e with e1; subst e1
    simp [bk] at hk; subst hk
    exact ⟨cur, h1, hh⟩

theorem own_lt {w : World} {base m c n size : Nat} {T : TypeId} {A : Option Addr} {xs : List Value} (h : w.ownsRow base T size (.slice A n c) m xs) : ∀ k ∈ bk A, k < w.heap.size := fun k hk => by
  obtain ⟨cs, _, hb⟩ := own_bk h k hk
  exact (Array.getElem?_eq_some_iff.1 hb).1
/-- a slice whose cells are these -/
def Src (w : World) (A : Option Addr) (xs : List Value) : Prop := (A = none → xs = []) ∧ ∀ ad, A = some ad → ∀ (j : Nat) (u : Value), xs[j]? = some u → w.cell? (ad.add j) = some u
theorem Src.below {w w' : World} {A : Option Addr} {xs : List Value} (h : Src w A xs) (b : Below w.heap.size w w') : Src w' A xs :=
  ⟨h.1, fun ad e j u hu => by
    have q := h.2 ad e j u hu
    exact (b.cell (World.block_lt_of_cell? _ _ q)).trans q⟩

/-! ### marks in a row -/
def mkC (m : Mr) : List Value := [.string m.g, .string m.t, .int .i64 m.p, .int .i64 m.o]
def rowM (l : List Mr) : List Value := l.flatMap mkC
theorem rowM_len (l : List Mr) : (rowM l).length = l.length * 4 := by
  induction l with
  | nil => rfl
  | cons d t ih => rw [rowM, List.flatMap_cons, List.length_append, ← rowM, ih]; simp [mkC]; omega
theorem rowM_app (a b : List Mr) : rowM (a ++ b) = rowM a ++ rowM b := by simp [rowM]
theorem rowM_cons (m : Mr) (l : List Mr) : rowM (m :: l) = mkC m ++ rowM l := rfl
theorem mkC_one (m : Mr) : ∀ u ∈ mkC m, u.oneCell' = true := fun u hu => by
  simp [mkC] at hu
  rcases hu with rfl | rfl | rfl | rfl <;> rfl
theorem rowM_one (l : List Mr) : ∀ v ∈ rowM l, v.oneCell' = true := fun v hv => by
  simp only [rowM, List.mem_flatMap] at hv
  obtain ⟨d, _, hd⟩ := hv
  exact mkC_one d v hd
theorem rowM_at : ∀ {l : List Mr} {i : Nat} {d : Mr}, l[i]? = some d → ∀ j : Nat, ∀ u, (mkC d)[j]? = some u → (rowM l)[i * 4 + j]? = some u
  | [], i, d, h => by simp at h
  | a :: t, 0, d, h => fun j u hu => by
    simp at h; subst h
    rw [rowM, List.flatMap_cons, Nat.zero_mul, Nat.zero_add, List.getElem?_append_left (List.getElem?_eq_some_iff.1 hu).1]; exact hu
  | a :: t, i + 1, d, h => fun j u hu => by
    have ih := rowM_at (l := t) (i := i) (d := d) (by simpa using h) j u hu
    rw [rowM, List.flatMap_cons, List.getElem?_append_right (by simp [mkC]; omega), ← rowM]
    rw [show (i + 1) * 4 + j - (mkC a).length = i * 4 + j by simp [mkC]; omega]; exact ih
theorem rowM_get : ∀ (l : List Mr) (t : Nat) (u : Value), (rowM l)[t]? = some u → ∃ i j d, t = i * 4 + j ∧ l[i]? = some d ∧ (mkC d)[j]? = some u
  | [], t, u, h => by simp [rowM] at h
  | a :: l, t, u, h => by
    rw [rowM, List.flatMap_cons, ← rowM] at h
    by_cases ht : t < 4
    · rw [List.getElem?_append_left (by simpa [mkC] using ht)] at h
      exact ⟨0, t, a, by omega, rfl, h⟩
    · rw [List.getElem?_append_right (by simp [mkC]; omega)] at h
      obtain ⟨i, j, d, e, h1, h2⟩ := rowM_get l _ u h
      have e3 : (mkC a).length = 4 := rfl
      exact ⟨i + 1, j, d, by omega, by simpa using h1, h2⟩
theorem rowM_take (l : List Mr) (n : Nat) (h : n ≤ l.length) : rowM (l.take n) = (rowM l).take (n * 4) := by
  have e := rowM_app (l.take n) (l.drop n)
  rw [List.take_append_drop] at e
  rw [e]
  have hl : (rowM (l.take n)).length = n * 4 := by rw [rowM_len, List.length_take]; omega
  rw [← hl, List.take_left]
theorem rowM_drop (l : List Mr) (n : Nat) (h : n ≤ l.length) : rowM (l.drop n) = (rowM l).drop (n * 4) := by
  have e := rowM_app (l.take n) (l.drop n)
  rw [List.take_append_drop] at e
  rw [e]
  have hl : (rowM (l.take n)).length = n * 4 := by rw [rowM_len, List.length_take]; omega
  rw [← hl, List.drop_left]
/-- the cells of a mark at a place -/
structure MarkAt (w : World) (g o : Nat) (m : Mr) : Prop where
  c0 : w.cell? ⟨g, o, none⟩ = some (.string m.g)
  c1 : w.cell? ⟨g, o + 1, none⟩ = some (.string m.t)
  c2 : w.cell? ⟨g, o + 2, none⟩ = some (.int .i64 m.p)
  c3 : w.cell? ⟨g, o + 3, none⟩ = some (.int .i64 m.o)
theorem MarkAt.kept {w w' : World} {g o : Nat} {m : Mr} (h : MarkAt w g o m) (hb : w'.heap[g]? = w.heap[g]?) : MarkAt w' g o m := by
  have k := fun (a : Addr) (e : a.block = g) => World.cell?_of_block (w := w) (w' := w') (a := a) (by rw [e]; exact hb)
  exact ⟨(k _ rfl).trans h.c0, (k _ rfl).trans h.c1, (k _ rfl).trans h.c2, (k _ rfl).trans h.c3⟩
/-- a slice that reads as these marks, in blocks below B -/
def ReadsM (w : World) (B : Nat) (A : Option Addr) (l : List Mr) : Prop :=
  0 < l.length → ∃ g o, A = some ⟨g, o, none⟩ ∧ g < B ∧ ∀ i d, l[i]? = some d → MarkAt w g (o + i * 4) d
theorem readsM_nil (w : World) (B : Nat) (A : Option Addr) : ReadsM w B A [] := fun h => absurd h (by simp)
theorem ReadsM.at {w w' : World} {B : Nat} {A : Option Addr} {l : List Mr} (h : ReadsM w B A l) (hb : ∀ k ∈ bk A, w'.heap[k]? = w.heap[k]?) : ReadsM w' B A l := fun h0 => by
  obtain ⟨g, o, e, hg, hc⟩ := h h0
  subst e
  exact ⟨g, o, rfl, hg, fun i d hd => (hc i d hd).kept (hb g (by simp [bk]))⟩
theorem ReadsM.below {w w' : World} {B : Nat} {A : Option Addr} {l : List Mr} (h : ReadsM w B A l) (b : Below B w w') : ReadsM w' B A l := fun h0 => by
  obtain ⟨g, o, e, hg, hc⟩ := h h0
  exact ⟨g, o, e, hg, fun i d hd => (hc i d hd).kept (b.block g hg)⟩
theorem ReadsM.mono {w : World} {B B' : Nat} {A : Option Addr} {l : List Mr} (h : ReadsM w B A l) (hB : B ≤ B') : ReadsM w B' A l := fun h0 => by
  obtain ⟨g, o, e, hg, hc⟩ := h h0
  exact ⟨g, o, e, by omega, hc⟩
theorem own_reads {w : World} {base m c n B : Nat} {T : TypeId} {A : Option Addr} {l : List Mr} (h : w.ownsRow base T 4 (.slice A n c) m (rowM l)) (hm : l.length = m) (hB : ∀ k ∈ bk A, k < B) : ReadsM w B A l := fun h0 => by
  rcases h.2 with ⟨_, e⟩ | ⟨g, cap, cur, e, h1, hh, _⟩
  · omega
  · injection e with e1; subst e1
    refine ⟨g, 0, rfl, hB g (by simp [bk]), fun i d hd => ?_⟩
    have q := fun j u hu => h.cells (g := g) rfl (i * 4 + j) u (rowM_at hd j u hu)
    have q0 := q 0 _ rfl; have q1 := q 1 _ rfl; have q2 := q 2 _ rfl; have q3 := q 3 _ rfl
    rw [Addr.add_lit] at q0 q1 q2 q3
    exact ⟨q0, by rw [Nat.add_assoc]; exact q1, by rw [Nat.add_assoc]; exact q2, by rw [Nat.add_assoc]; exact q3⟩
theorem reads_src {w : World} {B : Nat} {A : Option Addr} {l : List Mr} (h : ReadsM w B A l) (hA : A = none → l = []) : Src w A (rowM l) := by
  refine ⟨fun e => by rw [hA e]; rfl, fun ad e t u hu => ?_⟩
  obtain ⟨i, j, d, rfl, h1, h2⟩ := rowM_get l t u hu
  obtain ⟨g, o, e', _, hc⟩ := h (by have := (List.getElem?_eq_some_iff.1 h1).1; omega)
  rw [e] at e'; injection e' with e'; subst e'
  obtain ⟨c0, c1, c2, c3⟩ := hc i d h1
  rw [Addr.add_lit]
  match j, h2 with
  | 0, h2 => simp [mkC] at h2; subst h2; simpa using c0
  | 1, h2 => simp [mkC] at h2; subst h2; rw [← Nat.add_assoc]; exact c1
  | 2, h2 => simp [mkC] at h2; subst h2; rw [← Nat.add_assoc]; exact c2
  | 3, h2 => simp [mkC] at h2; subst h2; rw [← Nat.add_assoc]; exact c3
  | j + 4, h2 => simp [mkC] at h2

/-! ### keys -/
theorem spotSize : 3 ≤ Try.prog.types.size := of_decide_eq_true (by kernel_rfl)
theorem spotRow : (59 : TypeId) < Try.prog.types.size := of_decide_eq_true (by kernel_rfl)
theorem spotCells : Try.prog.cellsOf 59 = 3 := by kernel_rfl
theorem partCells : Try.prog.cellsOf 30 = 2 := by kernel_rfl
theorem intCells : Try.prog.cellsOf 3 = 1 := by kernel_rfl
theorem strCells : Try.prog.cellsOf 9 = 1 := by kernel_rfl
theorem spotWide : (match Try.prog.underlying 59 with | some (.array _ _) | some (.struct _) => true | _ => false) = true := by kernel_rfl
theorem spotKey : Try.prog.keyType 59 = true := by kernel_rfl
theorem spotLaid : laidOutB Try.prog = true := by kernel_rfl
set_option maxRecDepth 100000 in
theorem lawSpot : Keyed Try.prog 59 := Keyed.of_law (deep_law_laid spotLaid (m := 4) (by omega) spotRow (by kernel_rfl) spotWide)
/-- a key, as it reads -/
def kLit (g t : ByteArray) (p : Int) : Lit := .string (keyBytes [.string g.data.toList, .string t.data.toList, .int .i64 p])
def kV (x : ByteArray × ByteArray × Int) : Value := .agg #[.string x.1, .string x.2.1, .int .i64 x.2.2]
set_option maxRecDepth 100000 in
theorem keyOf_spot {p : Int} {g t : ByteArray} (hg : g.size ≤ maxLen) (ht : t.size ≤ maxLen) (hp : (Lit.int .i64 p).wf = true) :
    keyOf Try.prog 59 (.agg #[.string g, .string t, .int .i64 p]) = some (kLit g t p) := by
  obtain ⟨m, hm⟩ : ∃ m, Try.prog.types.size + 1 = m + 3 := ⟨Try.prog.types.size - 2, by have := spotSize; omega⟩
  unfold keyOf
  rw [Try.underlying59, hm]
  have hf : (Value.agg #[.string g, .string t, .int .i64 p]).formed Try.prog 59 = true := by
    simp [Value.formed, Try.underlying59, spotCells]
  simp only [spotKey, hf, Bool.and_self, if_true]
  simp [Program.keyLits, Try.underlying59, Try.underlying30, Try.underlying3, Try.underlying9, spotCells, partCells, intCells, strCells, Value.cells, hg, ht, hp, kLit]
  rw [if_pos (by decide)]
  rfl
set_option maxRecDepth 100000 in
theorem lits_int {d : Nat} {a : Value} {L : List Lit} (h : Try.prog.keyLits (d + 1) 3 [a] = some L) : ∃ n, a = .int .i64 n ∧ (Lit.int .i64 n).wf = true ∧ L = [.int .i64 n] := by
  unfold Program.keyLits at h
  rw [Try.underlying3] at h
  cases a <;> simp at h
  obtain ⟨⟨rfl, hw⟩, rfl⟩ := h
  exact ⟨_, rfl, hw, rfl⟩
set_option maxRecDepth 100000 in
theorem lits_str {d : Nat} {a : Value} {L : List Lit} (h : Try.prog.keyLits (d + 1) 9 [a] = some L) : ∃ s, a = .string s ∧ s.size ≤ maxLen ∧ L = [.string s.data.toList] := by
  unfold Program.keyLits at h
  rw [Try.underlying9] at h
  cases a <;> simp at h
  obtain ⟨hw, rfl⟩ := h
  exact ⟨_, rfl, hw, rfl⟩
set_option maxRecDepth 100000 in
theorem lits_part {d e : Nat} {a b : Value} {L : List Lit} (hd : d = e + 1) (h : Try.prog.keyLits (d + 1) 30 [a, b] = some L) :
    ∃ s n, a = .string s ∧ b = .int .i64 n ∧ s.size ≤ maxLen ∧ (Lit.int .i64 n).wf = true ∧ L = [.string s.data.toList, .int .i64 n] := by
  unfold Program.keyLits at h
  rw [Try.underlying30] at h
  simp only [partCells] at h
  split at h
  · simp only [List.mapM_cons, List.mapM_nil, strCells, intCells] at h
    change (((Try.prog.keyLits d 9 [a]).bind fun x => ((Try.prog.keyLits d 3 [b]).bind fun y => some [y]).bind fun z => some (x :: z)).map List.flatten) = some L at h
    subst hd
    cases e1 : Try.prog.keyLits (e + 1) 9 [a] with
    | none => rw [e1] at h; cases h
    | some x =>
      cases e2 : Try.prog.keyLits (e + 1) 3 [b] with
      | none => rw [e1, e2] at h; cases h
      | some y =>
        rw [e1, e2] at h
        obtain ⟨s, rfl, hs, rfl⟩ := lits_str e1
        obtain ⟨n, rfl, hn, rfl⟩ := lits_int e2
        injection h with h
        exact ⟨s, n, rfl, rfl, hs, hn, h.symm⟩
  · cases h
set_option maxRecDepth 100000 in
theorem lits_spot {d e : Nat} {a b c : Value} {L : List Lit} (hd : d = e + 2) (h : Try.prog.keyLits (d + 1) 59 [a, b, c] = some L) :
    ∃ i s n, a = .string i ∧ b = .string s ∧ c = .int .i64 n ∧ i.size ≤ maxLen ∧ s.size ≤ maxLen ∧ (Lit.int .i64 n).wf = true ∧ L = [.string i.data.toList, .string s.data.toList, .int .i64 n] := by
  unfold Program.keyLits at h
  rw [Try.underlying59] at h
  simp only [spotCells] at h
  split at h
  · simp only [List.mapM_cons, List.mapM_nil, partCells, strCells] at h
    change (((Try.prog.keyLits d 9 [a]).bind fun x => ((Try.prog.keyLits d 30 [b, c]).bind fun y => some [y]).bind fun z => some (x :: z)).map List.flatten) = some L at h
    subst hd
    cases e1 : Try.prog.keyLits (e + 2) 9 [a] with
    | none => rw [e1] at h; cases h
    | some x =>
      cases e2 : Try.prog.keyLits (e + 2) 30 [b, c] with
      | none => rw [e1, e2] at h; cases h
      | some y =>
        rw [e1, e2] at h
        obtain ⟨i, rfl, hi, rfl⟩ := lits_str e1
        obtain ⟨s, n, rfl, rfl, hs, hn, rfl⟩ := lits_part rfl e2
        injection h with h
        exact ⟨i, s, n, rfl, rfl, rfl, hi, hs, hn, h.symm⟩
  · cases h
set_option maxRecDepth 100000 in
theorem key_inv {key : Value} {kl : Lit} (h : keyOf Try.prog 59 key = some kl) : ∃ x : ByteArray × ByteArray × Int, key = kV x ∧ (x.1.size ≤ maxLen ∧ x.2.1.size ≤ maxLen ∧ (Lit.int .i64 x.2.2).wf = true) ∧ kl = kLit x.1 x.2.1 x.2.2 := by
  obtain ⟨m, hm⟩ : ∃ m, Try.prog.types.size + 1 = m + 3 := ⟨Try.prog.types.size - 2, by have := spotSize; omega⟩
  obtain ⟨xs, L, rfl, hL, rfl⟩ := keyOf_top spotWide h
  rw [hm] at hL
  have hl : xs.toList.length = 3 := by
    have h' := hL
    unfold Program.keyLits at h'
    rw [Try.underlying59] at h'
    simp only [spotCells] at h'
    split at h'
    · rename_i hc; exact hc.1
    · cases h'
  obtain ⟨xs⟩ := xs
  match xs, hl with
  | [a, b, c], _ =>
    obtain ⟨i, s, n, rfl, rfl, rfl, hi, hs, hn, rfl⟩ := lits_spot (d := m + 2) rfl hL
    exact ⟨(i, s, n), rfl, ⟨hi, hs, hn⟩, rfl⟩
/-- keys that read alike are the same -/
theorem kLit_inj {g g' t t' : ByteArray} {p p' : Int} (hi : g.size ≤ maxLen) (ht : t.size ≤ maxLen) (hp : (Lit.int .i64 p).wf = true) (hi' : g'.size ≤ maxLen) (ht' : t'.size ≤ maxLen) (hp' : (Lit.int .i64 p').wf = true)
    (e : kLit g t p = kLit g' t' p') : g = g' ∧ t = t' ∧ p = p' := by
  have := lawSpot.inj (keyOf_spot hi ht hp) (e ▸ keyOf_spot hi' ht' hp')
  simp at this
  exact this
theorem isKey_lit (g t : ByteArray) (p : Int) : WideAt.IsKeyLit (kLit g t p) := trivial

/-! ### the map -/
def Mr.k (m : Mr) : Lit := kLit m.g m.t m.p
theorem SameR.k {a b : Mr} (h : SameR a b) : a.k = b.k := by unfold Mr.k; rw [h.1, h.2.1, h.2.2]
/-- what may be keys -/
def Fits (Q : List Mr) : Prop := ∀ m ∈ Q, m.g.size ≤ maxLen ∧ m.t.size ≤ maxLen ∧ (Lit.int .i64 m.p).wf = true
theorem fit_wf {m : Mr} (h : mayR m = true) : m.g.size ≤ maxLen ∧ m.t.size ≤ maxLen ∧ (Lit.int .i64 m.p).wf = true ∧ (Lit.int .i64 m.o).wf = true := by
  obtain ⟨h1, h2, h3, h4, h5, h6⟩ := may_fit h
  exact ⟨by unfold maxLen; omega, by unfold maxLen; omega, WalkArith.wf_i64 (by omega), WalkArith.wf_i64 (by omega)⟩
theorem Good.fits {Q : List Mr} (G : Good Q) : Fits Q := fun m hm => by
  obtain ⟨h1, h2, h3, _⟩ := fit_wf (G.may m hm)
  exact ⟨h1, h2, h3⟩
def MapD (D : DataW Unit) (Q : List Mr) : Prop := (∀ kl, Maps.has D kl = true ↔ ∃ q ∈ Q, q.k = kl) ∧ ∀ q ∈ Q, ∀ z, D.atKey q.k z = .lit (.int .i64 q.o)
/-- a block is the map of these marks -/
def IsMarks (w : World) (b N : Nat) (Q : List Mr) : Prop := ∃ D, w.ownsMap Try.prog 59 (plainElem (H := Unit) Try.prog 3) b N D ∧ MapD D Q
theorem MapD.has {D : DataW Unit} {Q : List Mr} (h : MapD D Q) (F : Fits Q) {g t : ByteArray} {p : Int} (hg : g.size ≤ maxLen) (ht : t.size ≤ maxLen) (hp : (Lit.int .i64 p).wf = true) : Maps.has D (kLit g t p) = isR Q g t p := by
  cases e : isR Q g t p
  · cases e' : Maps.has D (kLit g t p)
    · rfl
    · obtain ⟨q, hq, e2⟩ := (h.1 _).1 e'
      obtain ⟨f1, f2, f3⟩ := F q hq
      exact absurd (kLit_inj f1 f2 f3 hg ht hp e2) (is_not.1 e q hq)
  · obtain ⟨q, hq, rfl, rfl, rfl⟩ := is_mem.1 e
    exact (h.1 _).2 ⟨q, hq, rfl⟩
theorem MapD.at {D : DataW Unit} {Q : List Mr} (h : MapD D Q) (F : Fits Q) (S : SortR Q) {g t : ByteArray} {p : Int} (hg : g.size ≤ maxLen) (ht : t.size ≤ maxLen) (hp : (Lit.int .i64 p).wf = true) : D.atKey (kLit g t p) (.lit (.int .i64 0)) = .lit (.int .i64 (atR Q g t p)) := by
  cases e : isR Q g t p
  · rw [atKey_of_not_has ((h.has F hg ht hp).trans e), at_none e]
  · obtain ⟨q, hq, rfl, rfl, rfl⟩ := is_mem.1 e
    rw [at_mem S hq]
    exact h.2 q hq _
theorem MapD.put {D : DataW Unit} {Q Q' : List Mr} (h : MapD D Q) (hm : IsMap D) (F : Fits Q) (m : Mr) (hg : m.g.size ≤ maxLen) (ht : m.t.size ≤ maxLen) (hp : (Lit.int .i64 m.p).wf = true) (hm' : ∀ x, x ∈ Q' ↔ x = m ∨ (x ∈ Q ∧ ¬ SameR x m)) : MapD (D.put (kLit m.g m.t m.p) (.lit (.int .i64 m.o))) Q' := by
  refine ⟨fun kl => ?_, fun q hq z => ?_⟩
  · by_cases e : kl = m.k
    · subst e
      rw [show kLit m.g m.t m.p = m.k from rfl, has_put_same (k := m.k) hm (isKey_lit _ _ _)]
      exact ⟨fun _ => ⟨m, (hm' m).2 (.inl rfl), rfl⟩, fun _ => rfl⟩
    · rw [has_put_other (show kl ≠ kLit m.g m.t m.p from e), h.1]
      constructor
      · rintro ⟨x, hx, rfl⟩
        exact ⟨x, (hm' x).2 (.inr ⟨hx, fun q => e q.k⟩), rfl⟩
      · rintro ⟨x, hx, rfl⟩
        rcases (hm' x).1 hx with rfl | ⟨hx, _⟩
        · exact absurd rfl e
        · exact ⟨x, hx, rfl⟩
  · rcases (hm' q).1 hq with rfl | ⟨hq, hn⟩
    · exact atKey_put_same hm (isKey_lit _ _ _) _ z
    · obtain ⟨f1, f2, f3⟩ := F q hq
      have e : q.k ≠ kLit m.g m.t m.p := fun e => hn (kLit_inj f1 f2 f3 hg ht hp e)
      rw [atKey_put_other e]
      exact h.2 q hq z
theorem MapD.del {D : DataW Unit} {Q Q' : List Mr} (h : MapD D Q) (F : Fits Q) (m : Mr) (hg : m.g.size ≤ maxLen) (ht : m.t.size ≤ maxLen) (hp : (Lit.int .i64 m.p).wf = true) (hm' : ∀ x, x ∈ Q' ↔ (x ∈ Q ∧ ¬ SameR x m)) : MapD (D.del (kLit m.g m.t m.p)) Q' := by
  refine ⟨fun kl => ?_, fun q hq z => ?_⟩
  · by_cases e : kl = m.k
    · subst e
      rw [show kLit m.g m.t m.p = m.k from rfl, has_del_same]
      constructor
      · intro q; cases q
      · rintro ⟨q, hq, e⟩
        obtain ⟨hq, hn⟩ := (hm' q).1 hq
        obtain ⟨f1, f2, f3⟩ := F q hq
        exact absurd (kLit_inj f1 f2 f3 hg ht hp e) hn
    · rw [has_del_other (show kl ≠ kLit m.g m.t m.p from e), h.1]
      constructor
      · rintro ⟨q, hq, rfl⟩
        exact ⟨q, (hm' q).2 ⟨hq, fun n => e n.k⟩, rfl⟩
      · rintro ⟨q, hq, rfl⟩
        exact ⟨q, ((hm' q).1 hq).1, rfl⟩
  · obtain ⟨hq, hn⟩ := (hm' q).1 hq
    obtain ⟨f1, f2, f3⟩ := F q hq
    have e : q.k ≠ kLit m.g m.t m.p := fun e => hn (kLit_inj f1 f2 f3 hg ht hp e)
    rw [atKey_del_other e]
    exact h.2 q hq z
theorem mapD_new : MapD (.map []) [] := ⟨fun x => by simp [Maps.has], fun q hq => by cases hq⟩
theorem IsMarks.map {w : World} {b N : Nat} {Q : List Mr} (h : IsMarks w b N Q) : ∃ es c, w.heap[b]? = some (.map es c) := by
  obtain ⟨_, ⟨es, c, hb, _⟩, _⟩ := h
  exact ⟨es, c, hb⟩
theorem IsMarks.lt {w : World} {b N : Nat} {Q : List Mr} (h : IsMarks w b N Q) : b < w.heap.size := by
  obtain ⟨es, c, hb⟩ := h.map
  exact (Array.getElem?_eq_some_iff.1 hb).1
theorem IsMarks.at {w w' : World} {b N : Nat} {Q : List Mr} (h : IsMarks w b N Q) (hb : w'.heap[b]? = w.heap[b]?) : IsMarks w' b N Q := by
  obtain ⟨D, ⟨es, clock, h1, F, hs, hD⟩, hc⟩ := h
  exact ⟨D, ⟨es, clock, hb.trans h1, F, hs, hD⟩, hc⟩
theorem isMarks_made (w : World) : IsMarks (w.alloc (.map #[] 0)) w.heap.size 0 [] := ⟨_, World.ownsMap_made w _ _ _, mapD_new⟩
theorem Only.ofGrown {w w' : World} {b : Nat} (h : w.grownBy w' (some b)) : Only [b] w w' := ⟨h.os, h.tape, h.output, h.size, fun k _ hn => h.block k ‹_› (fun e => hn (by injection e with e; simp [e]))⟩
theorem mapInt : Try.prog.underlying 52 = some (.map 59 3) := Try.underlying52
/-- a store into the map -/
theorem IsMarks.store {w : World} {b N : Nat} {Q Q' : List Mr} (h : IsMarks w b N Q) (hN : N < maxLen) (F : Fits Q) (m : Mr) (hg : m.g.size ≤ maxLen) (ht : m.t.size ≤ maxLen) (hp : (Lit.int .i64 m.p).wf = true) (ho : (Lit.int .i64 m.o).wf = true) (hm' : ∀ x, x ∈ Q' ↔ x = m ∨ (x ∈ Q ∧ ¬ SameR x m)) :
    ∃ w', (Instr.mapUpdate 52 (.map (some b)) (.agg #[.string m.g, .string m.t, .int .i64 m.p]) (.int .i64 m.o)).run Try.prog w = .ok () w' ∧ IsMarks w' b (N + 1) Q' ∧ Only [b] w w' := by
  obtain ⟨D, hown, hd⟩ := h
  obtain ⟨w', hrun, ho', ht'⟩ := hown.store lawSpot mapInt hN (keyOf_spot hg ht hp) (plainElem_int (H := Unit) Try.underlying3 ho)
  exact ⟨w', hrun, ⟨_, ho', hd.put hown.isMap F m hg ht hp hm'⟩, Only.ofGrown ht'.grown⟩

/-! ### a table -/
/-- the program's own -/
structure Tab (w : World) (g b N : Nat) (Q : List Mr) : Prop where
  row : w.heap[g]? = some (.cells #[.map (some b)] 54 (0, 0))
  map : IsMarks w b N Q
section
variable {w w' : World} {g b N : Nat} {Q : List Mr}
theorem Tab.c0 (h : Tab w g b N Q) : w.cell? ⟨g, 0, none⟩ = some (.map (some b)) := (cell_of_row _ _ 0 _ _ _ h.row).trans rfl
theorem Tab.lt (h : Tab w g b N Q) : g < w.heap.size := (Array.getElem?_eq_some_iff.1 h.row).1
theorem Tab.at (h : Tab w g b N Q) (h1 : w'.heap[g]? = w.heap[g]?) (h2 : w'.heap[b]? = w.heap[b]?) : Tab w' g b N Q := ⟨h1.trans h.row, h.map.at h2⟩
theorem Tab.below (h : Tab w g b N Q) (hb : Below w.heap.size w w') : Tab w' g b N Q := h.at (hb.block g h.lt) (hb.block b h.map.lt)
theorem Tab.only {S : List Nat} (h : Tab w g b N Q) (o : Only S w w') (h1 : g ∉ S) (h2 : b ∉ S) : Tab w' g b N Q := h.at (o.block g h.lt h1) (o.block b h.map.lt h2)
theorem Tab.gb (h : Tab w g b N Q) : g ≠ b := fun e => by
  obtain ⟨es, c, hb⟩ := h.map.map
  have := h.row
  rw [e, hb] at this; injection this with e; cases e
/-- behind a turn of its map -/
theorem Tab.turned {N' : Nat} {Q' : List Mr} (h : Tab w g b N Q) (o : Only [b] w w') (hm : IsMarks w' b N' Q') : Tab w' g b N' Q' := ⟨(o.block g h.lt (by simpa using h.gb)).trans h.row, hm⟩
end
/-- a table whose blocks are new -/
def TabM (B : Nat) (w : World) (g N : Nat) (Q : List Mr) : Prop := ∃ b, Tab w g b N Q ∧ B ≤ g ∧ B ≤ b
/-- the document's -/
structure Doc (w : World) (B k : Nat) (A : Option Addr) (cap : Nat) (Q : List Mr) : Prop where
  row : w.heap[k]? = some (.cells #[.slice A Q.length cap] 28 (0, 0))
  own : w.ownsRow B 32 4 (.slice A Q.length cap) Q.length (rowM Q)
section
variable {w w' : World} {B k cap : Nat} {A : Option Addr} {Q : List Mr}
theorem Doc.c0 (h : Doc w B k A cap Q) : w.cell? ⟨k, 0, none⟩ = some (.slice A Q.length cap) := (cell_of_row _ _ 0 _ _ _ h.row).trans rfl
theorem Doc.froz (h : Doc w B k A cap Q) : w.frozen? ⟨k, 0, none⟩ = false := frozen_of_row _ _ _ _ _ h.row
theorem Doc.lt (h : Doc w B k A cap Q) : k < w.heap.size := (Array.getElem?_eq_some_iff.1 h.row).1
theorem Doc.kA (h : Doc w B k A cap Q) : k ∉ bk A := fun e => by
  obtain ⟨cs', _, hb⟩ := own_bk h.own k e
  rw [h.row] at hb; injection hb with e; injection e with _ e; exact absurd e (by decide)
theorem Doc.at (h : Doc w B k A cap Q) (h1 : w'.heap[k]? = w.heap[k]?) (h2 : ∀ j ∈ bk A, w'.heap[j]? = w.heap[j]?) : Doc w' B k A cap Q :=
  ⟨h1.trans h.row, own_at h.own (fun j e => h2 j (by rw [blk_own] at e; exact mem_bk.2 e))⟩
theorem Doc.below (h : Doc w B k A cap Q) (hb : Below w.heap.size w w') : Doc w' B k A cap Q := h.at (hb.block k h.lt) (fun j hj => hb.block j (own_lt h.own j hj))
theorem Doc.only {S : List Nat} (h : Doc w B k A cap Q) (o : Only S w w') (h1 : k ∉ S) (h2 : ∀ j ∈ bk A, j ∉ S) : Doc w' B k A cap Q := h.at (o.block k h.lt h1) (fun j hj => o.block j (own_lt h.own j hj) (h2 j hj))
theorem Doc.reads (h : Doc w B k A cap Q) : ReadsM w w.heap.size A Q := own_reads h.own rfl (own_lt h.own)
end
end Go.Proofs.Ytcpfihagcmadcaa.L12
