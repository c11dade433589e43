/-
  Where a table of producers lies in memory: its row, its epochs, its map, and the rows of batches that the map leads to.
-/
import Derived.Test.YtcmlopflandlgaaDdMath
import Derived.Test.YtcmlopflandlgaaReqTops
import Derived.Test.YtcmlopflandlgaaRecRall
import Derived.Test.YtcmlopflandlgaaRecBound
import Derived.Test.YtcmlopflandlgaaRecOpen
import Derived.Maps.OwnSet
import Derived.Maps.RangeWalk
import Derived.Maps.AppendAt
import Derived.DeepKeys4
namespace Go.Proofs.Ytcmlopflandlgaa.L8
open Go.RowKit
open Go.Maps
open L3 L4

theorem num8 (n : Int) : numB8 n = numB n := by simp [numB8, numB]
/-! ### frames -/
/-- all that was stays, but some blocks -/
structure Only (S : List Nat) (w w' : World) : Prop where
  os : w'.os = w.os
  tape : w'.tape = w.tape
  output : w'.output = w.output
  size : w.heap.size ≤ w'.heap.size
  block : ∀ k, k < w.heap.size → k ∉ S → w'.heap[k]? = w.heap[k]?
theorem Only.refl (S : List Nat) (w : World) : Only S w w := ⟨rfl, rfl, rfl, Nat.le_refl _, fun _ _ _ => rfl⟩
theorem Only.ofBelow {S : List Nat} {w w' : World} (b : Below w.heap.size w w') : Only S w w' := ⟨b.os, b.tape, b.output, b.size, fun k hk _ => b.block k hk⟩
theorem Only.trans {S S' : List Nat} {w w1 w2 : World} (a : Only S w w1) (b : Only S' w1 w2) (h : ∀ k ∈ S', k ∈ S ∨ w.heap.size ≤ k) : Only S w w2 :=
  ⟨b.os.trans a.os, b.tape.trans a.tape, b.output.trans a.output, Nat.le_trans a.size b.size, fun k hk hn =>
    (b.block k (Nat.lt_of_lt_of_le hk a.size) (fun e => by rcases h k e with q | q; exact hn q; omega)).trans (a.block k hk hn)⟩
theorem Only.mono {S S' : List Nat} {w w' : World} (a : Only S w w') (h : ∀ k ∈ S, k ∈ S' ∨ w.heap.size ≤ k) : Only S' w w' :=
  ⟨a.os, a.tape, a.output, a.size, fun k hk hn => a.block k hk (fun e => by rcases h k e with q | q; exact hn q; omega)⟩
theorem Only.setCell {S : List Nat} {w w1 : World} (a : Only S w w1) {p : Addr} (hp : p.block ∈ S ∨ w.heap.size ≤ p.block) (u : Value) : Only S w (w1.setCell p u) :=
  ⟨a.os, a.tape, a.output, by simp [World.setCell]; exact a.size, fun k hk hn => (Below.heap_setCell _ _ _ _ (by
    intro e
    rcases hp with q | q
    · exact hn (e ▸ q)
    · omega)).trans (a.block k hk hn)⟩
theorem Only.grown {S : List Nat} {w w1 w2 : World} {row : Option Nat} (a : Only S w w1) (g : w1.grownBy w2 row) (h : ∀ k, row = some k → k ∈ S ∨ w.heap.size ≤ k) : Only S w w2 :=
  ⟨g.os.trans a.os, g.tape.trans a.tape, g.output.trans a.output, Nat.le_trans a.size g.size, fun k hk hn =>
    (g.block k (Nat.lt_of_lt_of_le hk a.size) (fun e => by rcases h k e.symm with q | q; exact hn q; omega)).trans (a.block k hk hn)⟩
theorem Only.alloc {S : List Nat} {w w1 : World} (a : Only S w w1) (o : Obj) : Only S w (w1.alloc o) := a.grown (World.grownBy_alloc w1 o none) (fun k e => by cases e)
theorem Only.drew {S : List Nat} {w w1 : World} (a : Only S w w1) : Only S w w1.drew := ⟨a.os, a.tape, a.output, a.size, a.block⟩
theorem Only.below {S : List Nat} {w w' : World} {B : Nat} (a : Only S w w') (hB : B ≤ w.heap.size) (h : ∀ k ∈ S, B ≤ k) : Below B w w' :=
  ⟨a.os, a.tape, a.output, a.size, fun k hk => a.block k (by omega) (fun e => by have := h k e; omega)⟩
theorem Only.nil {w w' : World} (a : Only [] w w') : Below w.heap.size w w' := a.below (Nat.le_refl _) (fun k hk => by cases hk)
theorem Only.cell {S : List Nat} {w w' : World} (a : Only S w w') {p : Addr} {v : Value} (hc : w.cell? p = some v) (hn : p.block ∉ S) : w'.cell? p = some v :=
  (World.cell?_of_block (w := w) (a.block p.block (World.block_lt_of_cell? w p hc) hn)).trans hc
/-- a row of one's own stays -/
theorem own_at {w w' : World} {base n size : Nat} {E : TypeId} {v : Value} {xs : List Value} (h : w.ownsRow base E size v n xs) (hb : ∀ k, v.ownBlock = some k → w'.heap[k]? = w.heap[k]?) : w'.ownsRow base E size v n xs := by
  refine ⟨h.1, ?_⟩
  rcases h.2 with e | ⟨b, cap, cur, e, h1, hh, h2⟩
  · exact .inl e
  · exact .inr ⟨b, cap, cur, e, h1, (hb b (by rw [e]; rfl)).trans hh, h2⟩
theorem own_base {w : World} {base base' n size : Nat} {E : TypeId} {v : Value} {xs : List Value} (h : w.ownsRow base E size v n xs) (hb : base' ≤ base) : w.ownsRow base' E size v n xs := by
  refine ⟨h.1, ?_⟩
  rcases h.2 with e | ⟨b, cap, cur, e, h1, hh, h2⟩
  · exact .inl e
  · exact .inr ⟨b, cap, cur, e, by omega, hh, h2⟩
theorem blk_own {A : Option Addr} {n c : Nat} : (Value.slice A n c).ownBlock = A.map (·.block) := by cases A <;> rfl
/-- a slice's block -/
def bk (A : Option Addr) : List Nat := (A.map (·.block)).toList
theorem mem_bk {A : Option Addr} {k : Nat} : k ∈ bk A ↔ A.map (·.block) = some k := by cases A <;> simp [bk, eq_comm]
theorem own_bk {w : World} {base n size c m : Nat} {E : TypeId} {A : Option Addr} {xs : List Value} (h : w.ownsRow base E size (.slice A n c) m xs) : ∀ k ∈ bk A, ∃ cs, base ≤ k ∧ w.heap[k]? = some (.cells cs E (0, 0)) := fun k hk => by
  rcases h.2 with ⟨e, _⟩ | ⟨b, cap, cur, e, h1, hh, _⟩
  · injection e with e1; subst e1; simp [bk] at hk
  · injection e with e1; subst e1
    simp [bk] at hk; subst hk
    exact ⟨cur, h1, hh⟩

/-! ### batches that are remembered -/
def didC (d : Did) : List Value := [.int .i64 d.s, .int .i64 d.n, .int .i64 d.o]
def rowD (l : List Did) : List Value := l.flatMap didC
theorem rowD_len (l : List Did) : (rowD l).length = l.length * 3 := by
  induction l with
  | nil => rfl
  | cons d t ih => rw [rowD, List.flatMap_cons, List.length_append, ← rowD, ih]; simp [didC]; omega
theorem rowD_app (a b : List Did) : rowD (a ++ b) = rowD a ++ rowD b := by simp [rowD]
theorem rowD_one (l : List Did) : ∀ v ∈ rowD l, v.oneCell' = true := fun v hv => by
  simp only [rowD, List.mem_flatMap] at hv
  obtain ⟨d, _, hd⟩ := hv
  simp [didC] at hd
  rcases hd with rfl | rfl | rfl <;> rfl
theorem rowD_drop (l : List Did) (n : Nat) (h : n ≤ l.length) : rowD (l.drop n) = (rowD l).drop (n * 3) := by
  have e := rowD_app (l.take n) (l.drop n)
  rw [List.take_append_drop] at e
  rw [e]
  have hl : (rowD (l.take n)).length = n * 3 := by rw [rowD_len, List.length_take]; omega
  rw [← hl, List.drop_left]
theorem rowD_at : ∀ {l : List Did} {i : Nat} {d : Did}, l[i]? = some d → ∀ j : Nat, ∀ u, (didC d)[j]? = some u → (rowD l)[i * 3 + j]? = some u
  | [], i, d, h => by simp at h
  | a :: t, 0, d, h => fun j u hu => by
    simp at h; subst h
    rw [rowD, List.flatMap_cons, Nat.zero_mul, Nat.zero_add, List.getElem?_append_left (List.getElem?_eq_some_iff.1 hu).1]; exact hu
  | a :: t, i + 1, d, h => fun j u hu => by
    have ih := rowD_at (l := t) (i := i) (d := d) (by simpa using h) j u hu
    rw [rowD, List.flatMap_cons, List.getElem?_append_right (by simp [didC]; omega), ← rowD]
    rw [show (i + 1) * 3 + j - (didC a).length = i * 3 + j by simp [didC]; omega]; exact ih
/-- a slice that reads as these batches -/
def RowD (w : World) (A : Option Addr) (l : List Did) : Prop :=
  0 < l.length → ∃ g o cs fr, A = some ⟨g, o, none⟩ ∧ w.heap[g]? = some (.cells cs 50 fr) ∧ ∀ i d, l[i]? = some d → w.cell? ⟨g, o + i * 3, none⟩ = some (.int .i64 d.s) ∧ w.cell? ⟨g, o + i * 3 + 1, none⟩ = some (.int .i64 d.n) ∧ w.cell? ⟨g, o + i * 3 + 2, none⟩ = some (.int .i64 d.o)
theorem rowD_nil (w : World) (A : Option Addr) : RowD w A [] := fun h => absurd h (by simp)
theorem RowD.kept {w w' : World} {A : Option Addr} {l : List Did} (h : RowD w A l) (hk : ∀ (k : Nat) (cs : Array Value) (fr : Nat × Nat), w.heap[k]? = some (.cells cs 50 fr) → w'.heap[k]? = w.heap[k]?) : RowD w' A l := fun h0 => by
  obtain ⟨g, o, cs, fr, e, hg, hc⟩ := h h0
  have hb := hk g cs fr hg
  refine ⟨g, o, cs, fr, e, hb.trans hg, fun i d hd => ?_⟩
  obtain ⟨c0, c1, c2⟩ := hc i d hd
  exact ⟨(World.cell?_of_block (w := w) hb).trans c0, (World.cell?_of_block (w := w) hb).trans c1, (World.cell?_of_block (w := w) hb).trans c2⟩
theorem RowD.below {w w' : World} {A : Option Addr} {l : List Did} (h : RowD w A l) (b : Below w.heap.size w w') : RowD w' A l := h.kept (fun k _ _ hk => b.block k (Array.getElem?_eq_some_iff.1 hk).1)
/-- blocks that hold no batches -/
def NoDid (w : World) (S : List Nat) : Prop := ∀ k ∈ S, ∀ (cs : Array Value) (fr : Nat × Nat), w.heap[k]? ≠ some (.cells cs 50 fr)
theorem RowD.only {S : List Nat} {w w' : World} {A : Option Addr} {l : List Did} (h : RowD w A l) (o : Only S w w') (hS : NoDid w S) : RowD w' A l :=
  h.kept (fun k cs fr hk => o.block k (Array.getElem?_eq_some_iff.1 hk).1 (fun e => hS k e cs fr hk))
theorem RowD.own {w : World} {base n c : Nat} {A : Option Addr} {l : List Did} (h : w.ownsRow base 50 3 (.slice A n c) n (rowD l)) (hn : l.length = n) : RowD w A l := fun h0 => by
  rcases h.2 with ⟨_, e⟩ | ⟨g, cap, cur, e, h1, hh, _⟩
  · omega
  · injection e with e1; subst e1
    refine ⟨g, 0, cur, (0, 0), rfl, hh, fun i d hd => ?_⟩
    have q := fun j u hu => h.cells (g := g) rfl (i * 3 + j) u (rowD_at hd j u hu)
    have q0 := q 0 _ rfl; have q1 := q 1 _ rfl; have q2 := q 2 _ rfl
    rw [Addr.add_lit] at q0 q1 q2
    exact ⟨q0, by rw [Nat.add_assoc]; exact q1, by rw [Nat.add_assoc]; exact q2⟩
theorem RowD.drop {w : World} {g o : Nat} {l : List Did} (h : RowD w (some ⟨g, o, none⟩) l) (k : Nat) : RowD w (some ⟨g, o + k * 3, none⟩) (l.drop k) := fun h0 => by
  rw [List.length_drop] at h0
  obtain ⟨g', o', cs, fr, e, hg, hc⟩ := h (by omega)
  injection e with e; injection e with e1 e2; subst e1; subst e2
  refine ⟨g, o + k * 3, cs, fr, rfl, hg, fun i d hd => ?_⟩
  rw [List.getElem?_drop] at hd
  have := hc _ d hd
  rwa [show o + k * 3 + i * 3 = o + (k + i) * 3 by omega]

/-- .. and has room for them -/
def RowC (w : World) (A : Option Addr) (c : Nat) (l : List Did) : Prop := RowD w A l ∧ l.length ≤ c
theorem RowC.kept {w w' : World} {A : Option Addr} {c : Nat} {l : List Did} (h : RowC w A c l) (hk : ∀ (k : Nat) (cs : Array Value) (fr : Nat × Nat), w.heap[k]? = some (.cells cs 50 fr) → w'.heap[k]? = w.heap[k]?) : RowC w' A c l := ⟨h.1.kept hk, h.2⟩
theorem RowC.below {w w' : World} {A : Option Addr} {c : Nat} {l : List Did} (h : RowC w A c l) (b : Below w.heap.size w w') : RowC w' A c l := ⟨h.1.below b, h.2⟩
theorem RowC.own {w : World} {base n c : Nat} {A : Option Addr} {l : List Did} (h : w.ownsRow base 50 3 (.slice A n c) n (rowD l)) (hn : l.length = n) : RowC w A c l := by
  refine ⟨RowD.own h hn, ?_⟩
  rcases h.2 with ⟨_, e⟩ | ⟨g, cap, cur, e, _, _, hc, _⟩
  · omega
  · injection e with _ _ e3; omega

/-! ### keys -/
theorem spotSize : 3 ≤ Try.prog.types.size := of_decide_eq_true (by kernel_rfl)
theorem spotRow : (72 : TypeId) < Try.prog.types.size := of_decide_eq_true (by kernel_rfl)
theorem spotCells : Try.prog.cellsOf 72 = 3 := by kernel_rfl
theorem partCells : Try.prog.cellsOf 31 = 2 := by kernel_rfl
theorem intCells : Try.prog.cellsOf 3 = 1 := by kernel_rfl
theorem strCells : Try.prog.cellsOf 9 = 1 := by kernel_rfl
theorem spotWide : (match Try.prog.underlying 72 with | some (.array _ _) | some (.struct _) => true | _ => false) = true := by kernel_rfl
theorem spotKey : Try.prog.keyType 72 = true := by kernel_rfl
theorem spotLaid : laidOutB Try.prog = true := by kernel_rfl
set_option maxRecDepth 100000 in
theorem lawSpot : Keyed Try.prog 72 := Keyed.of_law (deep_law_laid spotLaid (m := 4) (by omega) spotRow (by kernel_rfl) spotWide)
/-- a key, as it reads -/
def kLit (id : Int) (t : ByteArray) (p : Int) : Lit := .string (keyBytes [.int .i64 id, .string t.data.toList, .int .i64 p])
def kV (x : Int × ByteArray × Int) : Value := .agg #[.int .i64 x.1, .string x.2.1, .int .i64 x.2.2]
set_option maxRecDepth 100000 in
theorem keyOf_spot {id p : Int} {t : ByteArray} (hi : (Lit.int .i64 id).wf = true) (ht : t.size ≤ maxLen) (hp : (Lit.int .i64 p).wf = true) :
    keyOf Try.prog 72 (.agg #[.int .i64 id, .string t, .int .i64 p]) = some (kLit id t p) := by
  obtain ⟨m, hm⟩ : ∃ m, Try.prog.types.size + 1 = m + 3 := ⟨Try.prog.types.size - 2, by have := spotSize; omega⟩
  unfold keyOf
  rw [Try.underlying72, hm]
  have hf : (Value.agg #[.int .i64 id, .string t, .int .i64 p]).formed Try.prog 72 = true := by
    simp [Value.formed, Try.underlying72, spotCells]
  simp only [spotKey, hf, Bool.and_self, if_true]
  simp [Program.keyLits, Try.underlying72, Try.underlying31, Try.underlying3, Try.underlying9, spotCells, partCells, intCells, strCells, Value.cells, hi, ht, hp, kLit]
  rw [if_pos (by decide)]
  rfl
set_option maxRecDepth 100000 in
theorem lits_int {d : Nat} {a : Value} {L : List Lit} (h : Try.prog.keyLits (d + 1) 3 [a] = some L) : ∃ n, a = .int .i64 n ∧ (Lit.int .i64 n).wf = true ∧ L = [.int .i64 n] := by
  unfold Program.keyLits at h
  rw [Try.underlying3] at h
  cases a <;> simp at h
  obtain ⟨⟨rfl, hw⟩, rfl⟩ := h
  exact ⟨_, rfl, hw, rfl⟩
set_option maxRecDepth 100000 in
theorem lits_str {d : Nat} {a : Value} {L : List Lit} (h : Try.prog.keyLits (d + 1) 9 [a] = some L) : ∃ s, a = .string s ∧ s.size ≤ maxLen ∧ L = [.string s.data.toList] := by
  unfold Program.keyLits at h
  rw [Try.underlying9] at h
  cases a <;> simp at h
  obtain ⟨hw, rfl⟩ := h
  exact ⟨_, rfl, hw, rfl⟩
set_option maxRecDepth 100000 in
theorem lits_part {d e : Nat} {a b : Value} {L : List Lit} (hd : d = e + 1) (h : Try.prog.keyLits (d + 1) 31 [a, b] = some L) :
    ∃ s n, a = .string s ∧ b = .int .i64 n ∧ s.size ≤ maxLen ∧ (Lit.int .i64 n).wf = true ∧ L = [.string s.data.toList, .int .i64 n] := by
  unfold Program.keyLits at h
  rw [Try.underlying31] at h
  simp only [partCells] at h
  split at h
  · simp only [List.mapM_cons, List.mapM_nil, strCells, intCells] at h
    change (((Try.prog.keyLits d 9 [a]).bind fun x => ((Try.prog.keyLits d 3 [b]).bind fun y => some [y]).bind fun z => some (x :: z)).map List.flatten) = some L at h
    subst hd
    cases e1 : Try.prog.keyLits (e + 1) 9 [a] with
    | none => rw [e1] at h; cases h
    | some x =>
      cases e2 : Try.prog.keyLits (e + 1) 3 [b] with
      | none => rw [e1, e2] at h; cases h
      | some y =>
        rw [e1, e2] at h
        obtain ⟨s, rfl, hs, rfl⟩ := lits_str e1
        obtain ⟨n, rfl, hn, rfl⟩ := lits_int e2
        injection h with h
        exact ⟨s, n, rfl, rfl, hs, hn, h.symm⟩
  · cases h
set_option maxRecDepth 100000 in
theorem lits_spot {d e : Nat} {a b c : Value} {L : List Lit} (hd : d = e + 2) (h : Try.prog.keyLits (d + 1) 72 [a, b, c] = some L) :
    ∃ i s n, a = .int .i64 i ∧ b = .string s ∧ c = .int .i64 n ∧ (Lit.int .i64 i).wf = true ∧ s.size ≤ maxLen ∧ (Lit.int .i64 n).wf = true ∧ L = [.int .i64 i, .string s.data.toList, .int .i64 n] := by
  unfold Program.keyLits at h
  rw [Try.underlying72] at h
  simp only [spotCells] at h
  split at h
  · simp only [List.mapM_cons, List.mapM_nil, partCells, intCells] at h
    change (((Try.prog.keyLits d 3 [a]).bind fun x => ((Try.prog.keyLits d 31 [b, c]).bind fun y => some [y]).bind fun z => some (x :: z)).map List.flatten) = some L at h
    subst hd
    cases e1 : Try.prog.keyLits (e + 2) 3 [a] with
    | none => rw [e1] at h; cases h
    | some x =>
      cases e2 : Try.prog.keyLits (e + 2) 31 [b, c] with
      | none => rw [e1, e2] at h; cases h
      | some y =>
        rw [e1, e2] at h
        obtain ⟨i, rfl, hi, rfl⟩ := lits_int e1
        obtain ⟨s, n, rfl, rfl, hs, hn, rfl⟩ := lits_part rfl e2
        injection h with h
        exact ⟨i, s, n, rfl, rfl, rfl, hi, hs, hn, h.symm⟩
  · cases h
set_option maxRecDepth 100000 in
theorem key_inv {key : Value} {kl : Lit} (h : keyOf Try.prog 72 key = some kl) : ∃ x : Int × ByteArray × Int, key = kV x ∧ ((Lit.int .i64 x.1).wf = true ∧ x.2.1.size ≤ maxLen ∧ (Lit.int .i64 x.2.2).wf = true) ∧ kl = kLit x.1 x.2.1 x.2.2 := by
  obtain ⟨m, hm⟩ : ∃ m, Try.prog.types.size + 1 = m + 3 := ⟨Try.prog.types.size - 2, by have := spotSize; omega⟩
  obtain ⟨xs, L, rfl, hL, rfl⟩ := keyOf_top spotWide h
  rw [hm] at hL
  have hl : xs.toList.length = 3 := by
    have h' := hL
    unfold Program.keyLits at h'
    rw [Try.underlying72] at h'
    simp only [spotCells] at h'
    split at h'
    · rename_i hc; exact hc.1
    · cases h'
  obtain ⟨xs⟩ := xs
  match xs, hl with
  | [a, b, c], _ =>
    obtain ⟨i, s, n, rfl, rfl, rfl, hi, hs, hn, rfl⟩ := lits_spot (d := m + 2) rfl hL
    exact ⟨(i, s, n), rfl, ⟨hi, hs, hn⟩, rfl⟩
/-- keys that read alike are the same -/
theorem kLit_inj {id id' p p' : Int} {t t' : ByteArray} (hi : (Lit.int .i64 id).wf = true) (ht : t.size ≤ maxLen) (hp : (Lit.int .i64 p).wf = true) (hi' : (Lit.int .i64 id').wf = true) (ht' : t'.size ≤ maxLen) (hp' : (Lit.int .i64 p').wf = true)
    (e : kLit id t p = kLit id' t' p') : id = id' ∧ t = t' ∧ p = p' := by
  have := lawSpot.inj (keyOf_spot hi ht hp) (e ▸ keyOf_spot hi' ht' hp')
  simp at this
  exact this

/-! ### the map -/
/-- how a map's element reads: as it is -/
def rd (v : Value) : Option (DataW Value × List MemPlace) := match v with | .slice a n c => some (.held (.slice a n c), []) | _ => none
theorem rd_inv {v : Value} {y : DataW Value × List MemPlace} (h : rd v = some y) : ∃ x : Option Addr × Nat × Nat, v = .slice x.1 x.2.1 x.2.2 ∧ y = (.held v, []) := by
  cases v <;> simp [rd] at h
  exact ⟨(_, _, _), rfl, h.symm⟩
def Mk.k (m : Mk) : Lit := kLit m.id m.t m.p
/-- a block is the map of these -/
def IsTab (w : World) (b N : Nat) (ms : List Mk) : Prop :=
  ∃ D, w.ownsMap Try.prog 72 rd b N D ∧ (∀ kl, Maps.has D kl = true ↔ ∃ m ∈ ms, m.k = kl) ∧ ∀ m ∈ ms, ∃ A c, (∀ z, D.atKey m.k z = .held (.slice A m.l.length c)) ∧ RowC w A c m.l
theorem IsTab.map {w : World} {b N : Nat} {ms : List Mk} (h : IsTab w b N ms) : ∃ es c, w.heap[b]? = some (.map es c) := by
  obtain ⟨_, ⟨es, c, hb, _⟩, _⟩ := h
  exact ⟨es, c, hb⟩
theorem IsTab.lt {w : World} {b N : Nat} {ms : List Mk} (h : IsTab w b N ms) : b < w.heap.size := by
  obtain ⟨es, c, hb⟩ := h.map
  exact (Array.getElem?_eq_some_iff.1 hb).1
theorem IsTab.kept {w w' : World} {b N : Nat} {ms : List Mk} (h : IsTab w b N ms) (hb : w'.heap[b]? = w.heap[b]?) (hk : ∀ (k : Nat) (cs : Array Value) (fr : Nat × Nat), w.heap[k]? = some (.cells cs 50 fr) → w'.heap[k]? = w.heap[k]?) : IsTab w' b N ms := by
  obtain ⟨D, ⟨es, c, h1, h2⟩, hh, hr⟩ := h
  refine ⟨D, ⟨es, c, hb.trans h1, h2⟩, hh, fun m hm => ?_⟩
  obtain ⟨A, c, ha, hR⟩ := hr m hm
  exact ⟨A, c, ha, hR.kept hk⟩
theorem IsTab.below {w w' : World} {b N : Nat} {ms : List Mk} (h : IsTab w b N ms) (hb : Below w.heap.size w w') : IsTab w' b N ms :=
  h.kept (hb.block b h.lt) (fun k _ _ hk => hb.block k (Array.getElem?_eq_some_iff.1 hk).1)
theorem isTab_made (w : World) : IsTab (w.alloc (.map #[] 0)) w.heap.size 0 [] :=
  ⟨_, World.ownsMap_made w _ _ _, fun kl => by simp [Maps.has], fun m hm => by simp at hm⟩
/-- what may be keys -/
def Keys (ms : List Mk) : Prop := ∀ m ∈ ms, (Lit.int .i64 m.id).wf = true ∧ m.t.size ≤ maxLen ∧ (Lit.int .i64 m.p).wf = true
theorem Good.keys {es : List Int} {ms : List Mk} (g : Good es ms) : Keys ms := fun m hm => by
  obtain ⟨⟨h1, h2, _⟩, _⟩ := g.fit m hm
  obtain ⟨h3, h4⟩ := g.txt m hm
  have := g.len
  exact ⟨WalkArith.wf_i64 (by omega), h3, h4⟩
theorem has_false {ms : List Mk} {D : DataW Value} {kl : Lit} (hh : ∀ kl, Maps.has D kl = true ↔ ∃ m ∈ ms, m.k = kl) (h : ∀ m ∈ ms, m.k ≠ kl) : Maps.has D kl = false := by
  cases e : Maps.has D kl
  · rfl
  · obtain ⟨m, hm, e'⟩ := (hh kl).1 e
    exact absurd e' (h m hm)
theorem isKey_lit (id : Int) (t : ByteArray) (p : Int) : WideAt.IsKeyLit (kLit id t p) := trivial
/-- behind a store -/
theorem IsTab.store {w : World} {b N : Nat} {ms ms' : List Mk} (h : IsTab w b N ms) (hN : N < maxLen) (hK : Keys ms) (m : Mk) (hi : (Lit.int .i64 m.id).wf = true) (ht : m.t.size ≤ maxLen) (hp : (Lit.int .i64 m.p).wf = true) (A : Option Addr) (n c : Nat) (hn : n = m.l.length) (hR : RowC w A c m.l)
    (hm' : ∀ x, x ∈ ms' ↔ x = m ∨ (x ∈ ms ∧ ¬ Same x m)) (T E : TypeId) (hT : Try.prog.underlying T = some (.map 72 E)) :
    ∃ w', (Instr.mapUpdate T (.map (some b)) (.agg #[.int .i64 m.id, .string m.t, .int .i64 m.p]) (.slice A n c)).run Try.prog w = .ok () w' ∧ IsTab w' b (N + 1) ms' ∧ w.mapTurned w' b := by
  subst hn
  obtain ⟨D, ho, hh, hr⟩ := h
  obtain ⟨w', hrun, ho', ht'⟩ := ho.store lawSpot hT hN (keyOf_spot hi ht hp) (show rd (.slice A m.l.length c) = some (.held (.slice A m.l.length c), []) from rfl)
  have hk : ∀ (k : Nat) (cs : Array Value) (fr : Nat × Nat), w.heap[k]? = some (.cells cs 50 fr) → w'.heap[k]? = w.heap[k]? := fun k cs fr hk =>
    ht'.grown.block k (Array.getElem?_eq_some_iff.1 hk).1 (fun e => by
      injection e with e; subst e
      obtain ⟨es, c, hb, _⟩ := ho
      rw [hb] at hk; cases hk)
  refine ⟨w', hrun, ⟨_, ho', fun kl => ?_, fun x hx => ?_⟩, ht'⟩
  · by_cases e : kl = m.k
    · subst e
      rw [show kLit m.id m.t m.p = m.k from rfl, has_put_same (k := m.k) ho.isMap (isKey_lit _ _ _)]
      exact ⟨fun _ => ⟨m, (hm' m).2 (.inl rfl), rfl⟩, fun _ => rfl⟩
    · rw [has_put_other (show kl ≠ kLit m.id m.t m.p from e), hh]
      constructor
      · rintro ⟨x, hx, rfl⟩
        exact ⟨x, (hm' x).2 (.inr ⟨hx, fun q => e (by unfold Mk.k; rw [q.1, q.2.1, q.2.2])⟩), rfl⟩
      · rintro ⟨x, hx, rfl⟩
        rcases (hm' x).1 hx with rfl | ⟨hx, _⟩
        · exact absurd rfl e
        · exact ⟨x, hx, rfl⟩
  · rcases (hm' x).1 hx with rfl | ⟨hx, hn⟩
    · exact ⟨A, c, fun z => atKey_put_same ho.isMap (isKey_lit _ _ _) _ z, hR.kept hk⟩
    · obtain ⟨A', c', ha, hR'⟩ := hr x hx
      have e : x.k ≠ kLit m.id m.t m.p := fun e => hn (kLit_inj (hK x hx).1 (hK x hx).2.1 (hK x hx).2.2 hi ht hp e)
      exact ⟨A', c', fun z => by rw [atKey_put_other e]; exact ha z, hR'.kept hk⟩

/-! ### a table -/
def rowN (l : List Int) : List Value := l.map (.int .i64)
theorem rowN_len (l : List Int) : (rowN l).length = l.length := by simp [rowN]
theorem rowN_one (l : List Int) : ∀ v ∈ rowN l, v.oneCell' = true := fun v hv => by
  simp [rowN] at hv; obtain ⟨a, _, rfl⟩ := hv; rfl
structure Tab (w : World) (g : Nat) (A : Option Addr) (cap b N : Nat) (es : List Int) (ms : List Mk) : Prop where
  row : w.heap[g]? = some (.cells #[.slice A es.length cap, .map (some b)] 65 (0, 0))
  own : w.ownsRow 0 3 1 (.slice A es.length cap) es.length (rowN es)
  map : IsTab w b N ms
def blocks (g : Nat) (A : Option Addr) (b : Nat) : List Nat := g :: b :: bk A
section
variable {w w' : World} {g cap b N : Nat} {A : Option Addr} {es : List Int} {ms : List Mk}
theorem Tab.c0 (h : Tab w g A cap b N es ms) : w.cell? ⟨g, 0, none⟩ = some (.slice A es.length cap) := (cell_of_row _ _ 0 _ _ _ h.row).trans rfl
theorem Tab.c1 (h : Tab w g A cap b N es ms) : w.cell? ⟨g, 1, none⟩ = some (.map (some b)) := (cell_of_row _ _ 1 _ _ _ h.row).trans rfl
theorem Tab.froz (h : Tab w g A cap b N es ms) (i : Nat) : w.frozen? ⟨g, i, none⟩ = false := frozen_of_row _ _ _ _ _ h.row
theorem Tab.lt (h : Tab w g A cap b N es ms) : g < w.heap.size := (Array.getElem?_eq_some_iff.1 h.row).1
theorem Tab.noDid (h : Tab w g A cap b N es ms) : NoDid w (blocks g A b) := fun k hk cs fr => by
  rcases List.mem_cons.1 hk with rfl | hk
  · rw [h.row]; intro e; injection e with e; injection e with _ e; exact absurd e (by decide)
  · rcases List.mem_cons.1 hk with rfl | hk
    · obtain ⟨es, c, hb⟩ := h.map.map
      rw [hb]; intro e; injection e with e; cases e
    · obtain ⟨cs', _, hb⟩ := own_bk h.own k hk
      rw [hb]; intro e; injection e with e; injection e with _ e; exact absurd e (by decide)
theorem Tab.blk_lt (h : Tab w g A cap b N es ms) : ∀ k ∈ blocks g A b, k < w.heap.size := fun k hk => by
  rcases List.mem_cons.1 hk with rfl | hk
  · exact h.lt
  · rcases List.mem_cons.1 hk with rfl | hk
    · exact h.map.lt
    · obtain ⟨cs', _, hb⟩ := own_bk h.own k hk
      exact (Array.getElem?_eq_some_iff.1 hb).1
theorem Tab.kept (h : Tab w g A cap b N es ms) (hb : ∀ k ∈ blocks g A b, w'.heap[k]? = w.heap[k]?) (hk : ∀ (k : Nat) (cs : Array Value) (fr : Nat × Nat), w.heap[k]? = some (.cells cs 50 fr) → w'.heap[k]? = w.heap[k]?) : Tab w' g A cap b N es ms :=
  ⟨(hb g (by simp [blocks])).trans h.row, own_at h.own (fun k e => hb k (by rw [blk_own] at e; simp [blocks, mem_bk, e])), h.map.kept (hb b (by simp [blocks])) hk⟩
theorem Tab.below (h : Tab w g A cap b N es ms) (hb : Below w.heap.size w w') : Tab w' g A cap b N es ms :=
  h.kept (fun k hk => hb.block k (h.blk_lt k hk)) (fun k _ _ hk => hb.block k (Array.getElem?_eq_some_iff.1 hk).1)
/-- its three blocks are apart -/
theorem Tab.gb (h : Tab w g A cap b N es ms) : g ≠ b := fun e => by
  obtain ⟨es, c, hb⟩ := h.map.map
  have := h.row
  rw [e, hb] at this; injection this with e; cases e
theorem Tab.gA (h : Tab w g A cap b N es ms) : g ∉ bk A := fun e => by
  obtain ⟨cs', _, hb⟩ := own_bk h.own g e
  rw [h.row] at hb; injection hb with e; injection e with _ e; exact absurd e (by decide)
theorem Tab.bA (h : Tab w g A cap b N es ms) : b ∉ bk A := fun e => by
  obtain ⟨cs', _, hb⟩ := own_bk h.own b e
  obtain ⟨es, c, hb'⟩ := h.map.map
  rw [hb'] at hb; injection hb with e; cases e
/-- an epoch -/
theorem own_num {base : Nat} (h : w.ownsRow base 3 1 (.slice A es.length cap) es.length (rowN es)) {i : Nat} {x : Int} (hi : es[i]? = some x) : ∃ k, A = some ⟨k, 0, none⟩ ∧ k < w.heap.size ∧ base ≤ k ∧ es.length ≤ cap ∧ w.cell? ⟨k, i, none⟩ = some (.int .i64 x) ∧ w.frozen? ⟨k, i, none⟩ = false := by
  rcases h.2 with ⟨_, e⟩ | ⟨k, cap', cur, e, h1, hh, hc, _⟩
  · have := (List.getElem?_eq_some_iff.1 hi).1; omega
  · injection e with e1 _ e3; subst e1; subst e3
    refine ⟨k, rfl, (Array.getElem?_eq_some_iff.1 hh).1, h1, hc, ?_, frozen_of_row _ _ _ _ _ hh⟩
    have := h.cells (g := k) rfl i (.int .i64 x) (by simp [rowN, hi])
    rwa [Addr.add_lit, Nat.zero_add] at this
/-- an epoch is another one -/
theorem own_set {base : Nat} {k i : Nat} {x : Int} (h : w.ownsRow base 3 1 (.slice (some ⟨k, 0, none⟩) es.length cap) es.length (rowN es)) : (w.setCell ⟨k, i, none⟩ (.int .i64 x)).ownsRow base 3 1 (.slice (some ⟨k, 0, none⟩) es.length cap) es.length (rowN (es.set i x)) := by
  refine ⟨by simp [rowN], ?_⟩
  rcases h.2 with ⟨e, _⟩ | ⟨k', cap', cur, e, h1, hh, hc, hm, hs, ht⟩
  · cases e
  · injection e with e1 _ e3; injection e1 with e1; injection e1 with e1 _; subst e1; subst e3
    refine .inr ⟨k, cap, cur.setIfInBounds i (.int .i64 x), rfl, h1, heap_setCell_same _ _ _ _ _ _ hh, hc, hm, by simpa using hs, ?_⟩
    rw [Array.toList_setIfInBounds, List.take_set, ht]
    simp [rowN, List.map_set]
end
end Go.Proofs.Ytcmlopflandlgaa.L8
