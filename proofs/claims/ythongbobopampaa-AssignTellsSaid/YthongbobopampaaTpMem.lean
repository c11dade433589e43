/-
  Where catalogs lie in memory: the program's own, a map behind a pointer; the document's, a row of topics behind one.
-/
import Derived.Test.YthongbobopampaaTpMath
import Derived.Maps.AppendAt
import Derived.OwnWalk
namespace Go.Proofs.Ythongbobopampaa.L9
open Go.RowKit
open Go.Maps
open L3 L4

/-! ### frames -/
/-- all that was stays, but some blocks -/
structure Only (S : List Nat) (w w' : World) : Prop where
  os : w'.os = w.os
  tape : w'.tape = w.tape
  output : w'.output = w.output
  size : w.heap.size ≤ w'.heap.size
  block : ∀ k, k < w.heap.size → k ∉ S → w'.heap[k]? = w.heap[k]?
theorem Only.refl (S : List Nat) (w : World) : Only S w w := ⟨rfl, rfl, rfl, Nat.le_refl _, fun _ _ _ => rfl⟩
theorem Only.ofBelow {S : List Nat} {w w' : World} (b : Below w.heap.size w w') : Only S w w' := ⟨b.os, b.tape, b.output, b.size, fun k hk _ => b.block k hk⟩
theorem Only.trans {S S' : List Nat} {w w1 w2 : World} (a : Only S w w1) (b : Only S' w1 w2) (h : ∀ k ∈ S', k ∈ S ∨ w.heap.size ≤ k) : Only S w w2 :=
  ⟨b.os.trans a.os, b.tape.trans a.tape, b.output.trans a.output, Nat.le_trans a.size b.size, fun k hk hn =>
    (b.block k (Nat.lt_of_lt_of_le hk a.size) (fun e => by rcases h k e with q | q; exact hn q; omega)).trans (a.block k hk hn)⟩
theorem Only.mono {S S' : List Nat} {w w' : World} (a : Only S w w') (h : ∀ k ∈ S, k ∈ S' ∨ w.heap.size ≤ k) : Only S' w w' :=
  ⟨a.os, a.tape, a.output, a.size, fun k hk hn => a.block k hk (fun e => by rcases h k e with q | q; exact hn q; omega)⟩
theorem Only.setCell {S : List Nat} {w w1 : World} (a : Only S w w1) {p : Addr} (hp : p.block ∈ S ∨ w.heap.size ≤ p.block) (u : Value) : Only S w (w1.setCell p u) :=
  ⟨a.os, a.tape, a.output, by simp [World.setCell]; exact a.size, fun k hk hn => (Below.heap_setCell _ _ _ _ (by
    intro e
    rcases hp with q | q
    · exact hn (e ▸ q)
    · omega)).trans (a.block k hk hn)⟩
theorem Only.grown {S : List Nat} {w w1 w2 : World} {row : Option Nat} (a : Only S w w1) (g : w1.grownBy w2 row) (h : ∀ k, row = some k → k ∈ S ∨ w.heap.size ≤ k) : Only S w w2 :=
  ⟨g.os.trans a.os, g.tape.trans a.tape, g.output.trans a.output, Nat.le_trans a.size g.size, fun k hk hn =>
    (g.block k (Nat.lt_of_lt_of_le hk a.size) (fun e => by rcases h k e.symm with q | q; exact hn q; omega)).trans (a.block k hk hn)⟩
theorem Only.alloc {S : List Nat} {w w1 : World} (a : Only S w w1) (o : Obj) : Only S w (w1.alloc o) := a.grown (World.grownBy_alloc w1 o none) (fun k e => by cases e)
theorem Only.drew {S : List Nat} {w w1 : World} (a : Only S w w1) : Only S w w1.drew := ⟨a.os, a.tape, a.output, a.size, a.block⟩
theorem Only.below {S : List Nat} {w w' : World} {B : Nat} (a : Only S w w') (hB : B ≤ w.heap.size) (h : ∀ k ∈ S, B ≤ k) : Below B w w' :=
  ⟨a.os, a.tape, a.output, a.size, fun k hk => a.block k (by omega) (fun e => by have := h k e; omega)⟩
theorem Only.nil {w w' : World} (a : Only [] w w') : Below w.heap.size w w' := a.below (Nat.le_refl _) (fun k hk => by cases hk)
theorem Only.cell {S : List Nat} {w w' : World} (a : Only S w w') {p : Addr} {v : Value} (hc : w.cell? p = some v) (hn : p.block ∉ S) : w'.cell? p = some v :=
  (World.cell?_of_block (w := w) (a.block p.block (World.block_lt_of_cell? w p hc) hn)).trans hc
/-- a row of one's own stays -/
theorem own_at {w w' : World} {base n size : Nat} {E : TypeId} {v : Value} {xs : List Value} (h : w.ownsRow base E size v n xs) (hb : ∀ k, v.ownBlock = some k → w'.heap[k]? = w.heap[k]?) : w'.ownsRow base E size v n xs := by
  refine ⟨h.1, ?_⟩
  rcases h.2 with e | ⟨b, cap, cur, e, h1, hh, h2⟩
  · exact .inl e
  · exact .inr ⟨b, cap, cur, e, h1, (hb b (by rw [e]; rfl)).trans hh, h2⟩
theorem own_base {w : World} {base base' n size : Nat} {E : TypeId} {v : Value} {xs : List Value} (h : w.ownsRow base E size v n xs) (hb : base' ≤ base) : w.ownsRow base' E size v n xs := by
  refine ⟨h.1, ?_⟩
  rcases h.2 with e | ⟨b, cap, cur, e, h1, hh, h2⟩
  · exact .inl e
  · exact .inr ⟨b, cap, cur, e, by omega, hh, h2⟩
theorem blk_own {A : Option Addr} {n c : Nat} : (Value.slice A n c).ownBlock = A.map (·.block) := by cases A <;> rfl
theorem own_len {w : World} {base n size : Nat} {E : TypeId} {v : Value} {xs : List Value} (h : w.ownsRow base E size v n xs) : ∃ A c, v = .slice A n c := by
  rcases h.2 with ⟨e, e0⟩ | ⟨g, cap, cur, e, _⟩
  · exact ⟨none, 0, by rw [e, e0]⟩
  · exact ⟨_, _, e⟩
/-- a slice's block -/
def bk (A : Option Addr) : List Nat := (A.map (·.block)).toList
theorem mem_bk {A : Option Addr} {k : Nat} : k ∈ bk A ↔ A.map (·.block) = some k := by cases A <;> simp [bk, eq_comm]
theorem own_bk {w : World} {base n size c m : Nat} {E : TypeId} {A : Option Addr} {xs : List Value} (h : w.ownsRow base E size (.slice A n c) m xs) : ∀ k ∈ bk A, ∃ cs, base ≤ k ∧ w.heap[k]? = some (.cells cs E (0, 0)) := fun k hk => by
  rcases h.2 with ⟨e, _⟩ | ⟨b, cap, cur, e, h1, hh, _⟩
  · injection e with e1; subst e1; simp [bk] at hk
  · injection e with e1; subst e1
    simp [bk] at hk; subst hk
    exact ⟨cur, h1, hh⟩

/-! ### topics, and partitions, in a row -/
def ptC (p : Pt) : List Value := [.string p.t, .int .i64 p.n]
def rowP (l : List Pt) : List Value := l.flatMap ptC
theorem rowP_len (l : List Pt) : (rowP l).length = l.length * 2 := by
  induction l with
  | nil => rfl
  | cons d t ih => rw [rowP, List.flatMap_cons, List.length_append, ← rowP, ih]; simp [ptC]; omega
theorem rowP_app (a b : List Pt) : rowP (a ++ b) = rowP a ++ rowP b := by simp [rowP]
theorem rowP_one (l : List Pt) : ∀ v ∈ rowP l, v.oneCell' = true := fun v hv => by
  simp only [rowP, List.mem_flatMap] at hv
  obtain ⟨d, _, hd⟩ := hv
  simp [ptC] at hd
  rcases hd with rfl | rfl <;> rfl
theorem rowP_at : ∀ {l : List Pt} {i : Nat} {d : Pt}, l[i]? = some d → ∀ j : Nat, ∀ u, (ptC d)[j]? = some u → (rowP l)[i * 2 + j]? = some u
  | [], i, d, h => by simp at h
  | a :: t, 0, d, h => fun j u hu => by
    simp at h; subst h
    rw [rowP, List.flatMap_cons, Nat.zero_mul, Nat.zero_add, List.getElem?_append_left (List.getElem?_eq_some_iff.1 hu).1]; exact hu
  | a :: t, i + 1, d, h => fun j u hu => by
    have ih := rowP_at (l := t) (i := i) (d := d) (by simpa using h) j u hu
    rw [rowP, List.flatMap_cons, List.getElem?_append_right (by simp [ptC]; omega), ← rowP]
    rw [show (i + 1) * 2 + j - (ptC a).length = i * 2 + j by simp [ptC]; omega]; exact ih
theorem rowP_get : ∀ (l : List Pt) (t : Nat) (u : Value), (rowP l)[t]? = some u → ∃ i j d, t = i * 2 + j ∧ l[i]? = some d ∧ (ptC d)[j]? = some u
  | [], t, u, h => by simp [rowP] at h
  | a :: l, t, u, h => by
    rw [rowP, List.flatMap_cons, ← rowP] at h
    by_cases ht : t < 2
    · rw [List.getElem?_append_left (by simpa [ptC] using ht)] at h
      exact ⟨0, t, a, by omega, rfl, h⟩
    · rw [List.getElem?_append_right (by simp [ptC]; omega)] at h
      obtain ⟨i, j, d, e, h1, h2⟩ := rowP_get l _ u h
      have e3 : (ptC a).length = 2 := rfl
      exact ⟨i + 1, j, d, by omega, by simpa using h1, h2⟩
/-- what a row of one's own reads -/
theorem own_reads {w : World} {base m c n B : Nat} {T : TypeId} {A : Option Addr} {l : List Pt} (h : w.ownsRow base T 2 (.slice A n c) m (rowP l)) (hm : l.length = m) (hB : ∀ k ∈ bk A, k < B) : ReadsP w B A l := fun h0 => by
  rcases h.2 with ⟨_, e⟩ | ⟨g, cap, cur, e, h1, hh, _⟩
  · omega
  · injection e with e1; subst e1
    refine ⟨g, rfl, hB g (by simp [bk]), fun i d hd => ?_⟩
    have q := fun j u hu => h.cells (g := g) rfl (i * 2 + j) u (rowP_at hd j u hu)
    have q0 := q 0 _ rfl; have q1 := q 1 _ rfl
    rw [Addr.add_lit] at q0 q1
    rw [Nat.zero_add, Nat.add_zero] at q0
    rw [Nat.zero_add] at q1
    exact ⟨q0, q1⟩
theorem own_lt {w : World} {base m c n size : Nat} {T : TypeId} {A : Option Addr} {xs : List Value} (h : w.ownsRow base T size (.slice A n c) m xs) : ∀ k ∈ bk A, k < w.heap.size := fun k hk => by
  obtain ⟨cs, _, hb⟩ := own_bk h k hk
  exact (Array.getElem?_eq_some_iff.1 hb).1
/-- a slice whose cells are these -/
def Src (w : World) (A : Option Addr) (xs : List Value) : Prop := (A = none → xs = []) ∧ ∀ ad, A = some ad → ∀ (j : Nat) (u : Value), xs[j]? = some u → w.cell? (ad.add j) = some u
theorem Src.below {w w' : World} {A : Option Addr} {xs : List Value} (h : Src w A xs) (b : Below w.heap.size w w') : Src w' A xs :=
  ⟨h.1, fun ad e j u hu => by
    have q := h.2 ad e j u hu
    exact (b.cell (World.block_lt_of_cell? _ _ q)).trans q⟩
theorem readsP_src {w : World} {B : Nat} {A : Option Addr} {l : List Pt} (h : ReadsP w B A l) (hA : A = none → l = []) : Src w A (rowP l) := by
  refine ⟨fun e => by rw [hA e]; rfl, fun ad e t u hu => ?_⟩
  obtain ⟨i, j, d, rfl, h1, h2⟩ := rowP_get l t u hu
  obtain ⟨g, e', _, hc⟩ := h (by have := (List.getElem?_eq_some_iff.1 h1).1; omega)
  rw [e] at e'; injection e' with e'; subst e'
  obtain ⟨c0, c1⟩ := hc i d h1
  rw [Addr.add_lit]
  match j, h2 with
  | 0, h2 => simp [ptC] at h2; subst h2; simpa using c0
  | 1, h2 => simp [ptC] at h2; subst h2; simpa using c1
  | j + 2, h2 => simp [ptC] at h2

/-! ### the map -/
theorem lawStr : Keyed Try.prog 9 := string_keyed Try.underlying9
def CatD (D : DataW Unit) (Q : List Pt) : Prop := (∀ x : List UInt8, Maps.has D (.string x) = true ↔ ∃ q ∈ Q, kb q.t = x) ∧ ∀ q ∈ Q, ∀ z, D.atKey (.string (kb q.t)) z = .lit (.int .i64 q.n)
/-- a block is the map of these topics -/
def IsCat (w : World) (b N : Nat) (Q : List Pt) : Prop := ∃ D, w.ownsMap Try.prog 9 (plainElem (H := Unit) Try.prog 3) b N D ∧ CatD D Q
theorem CatD.has {D : DataW Unit} {Q : List Pt} (h : CatD D Q) (s : ByteArray) : Maps.has D (.string s.data.toList) = hasB Q s := by
  cases e : hasB Q s
  · cases e' : Maps.has D (.string s.data.toList)
    · rfl
    · obtain ⟨q, hq, e2⟩ := (h.1 _).1 e'
      exact absurd (kb_inj e2) (has_not.1 e q hq)
  · obtain ⟨q, hq, rfl⟩ := has_mem.1 e
    exact (h.1 _).2 ⟨q, hq, rfl⟩
theorem CatD.num {D : DataW Unit} {Q : List Pt} (h : CatD D Q) (hR : Rise Q) (s : ByteArray) : D.atKey (.string s.data.toList) (.lit (.int .i64 0)) = .lit (.int .i64 (numOf Q s)) := by
  cases e : hasB Q s
  · rw [atKey_of_not_has ((h.has s).trans e), num_none e]
  · obtain ⟨q, hq, rfl⟩ := has_mem.1 e
    rw [h.2 q hq, num_mem hR.ne hq]
theorem isKey_str (s : List UInt8) : WideAt.IsKeyLit (.string s) := trivial
theorem CatD.put {D : DataW Unit} {Q Q' : List Pt} (h : CatD D Q) (hm : IsMap D) (s : ByteArray) (n : Int) (hm' : ∀ x, x ∈ Q' ↔ x = ⟨s, n⟩ ∨ (x ∈ Q ∧ x.t ≠ s)) : CatD (D.put (.string s.data.toList) (.lit (.int .i64 n))) Q' := by
  refine ⟨fun x => ?_, fun q hq z => ?_⟩
  · by_cases e : x = kb s
    · subst e
      rw [has_put_same hm (isKey_str _)]
      exact ⟨fun _ => ⟨_, (hm' _).2 (.inl rfl), rfl⟩, fun _ => rfl⟩
    · rw [has_put_other (fun q => e (by injection q)), h.1]
      constructor
      · rintro ⟨q, hq, rfl⟩
        exact ⟨q, (hm' q).2 (.inr ⟨hq, fun q' => e (by rw [q'])⟩), rfl⟩
      · rintro ⟨q, hq, rfl⟩
        rcases (hm' q).1 hq with rfl | ⟨hq, _⟩
        · exact absurd rfl e
        · exact ⟨q, hq, rfl⟩
  · rcases (hm' q).1 hq with rfl | ⟨hq, hn⟩
    · exact atKey_put_same hm (isKey_str _) _ z
    · rw [atKey_put_other (fun q' => hn (kb_inj (by injection q')))]
      exact h.2 q hq z
theorem CatD.del {D : DataW Unit} {Q Q' : List Pt} (h : CatD D Q) (s : ByteArray) (hm' : ∀ x, x ∈ Q' ↔ (x ∈ Q ∧ x.t ≠ s)) : CatD (D.del (.string s.data.toList)) Q' := by
  refine ⟨fun x => ?_, fun q hq z => ?_⟩
  · by_cases e : x = kb s
    · subst e
      rw [has_del_same]
      constructor
      · intro q; cases q
      · rintro ⟨q, hq, e⟩
        exact absurd (kb_inj e) ((hm' q).1 hq).2
    · rw [has_del_other (fun q => e (by injection q)), h.1]
      constructor
      · rintro ⟨q, hq, rfl⟩
        exact ⟨q, (hm' q).2 ⟨hq, fun q' => e (by rw [q'])⟩, rfl⟩
      · rintro ⟨q, hq, rfl⟩
        exact ⟨q, ((hm' q).1 hq).1, rfl⟩
  · obtain ⟨hq, hn⟩ := (hm' q).1 hq
    rw [atKey_del_other (fun q' => hn (kb_inj (by injection q')))]
    exact h.2 q hq z
theorem catD_new : CatD (.map []) [] := ⟨fun x => by simp [Maps.has], fun q hq => by cases hq⟩
theorem rise_nodup {Q : List Pt} (h : Rise Q) : (Q.map (fun q => kb q.t)).Nodup := List.pairwise_map.2 (h.ne.imp (fun hn e => hn (kb_inj e)))
/-- the map's keys are the names -/
theorem CatD.perm {D : DataW Unit} {Q : List Pt} {w : World} {b N : Nat} (h : CatD D Q) (hR : Rise Q) (ho : w.ownsMap Try.prog 9 (plainElem (H := Unit) Try.prog 3) b N D) : (Q.map (fun q => kb q.t)).Perm (strKeys D) := by
  obtain ⟨es, e, hp⟩ := ho.tidy lawStr
  obtain ⟨es', e', hk⟩ := ho.keysOf
  rw [e] at e'; injection e' with e'; subst e'
  have hh := h.1
  subst e
  refine perm_strKeys hp (fun p hp' => ?_) (rise_nodup hR) (fun x => ?_)
  · obtain ⟨key, hkey⟩ := hk p hp'
    obtain ⟨x, _, hx, _⟩ := Maps.keyOf_str Try.underlying9 hkey
    exact ⟨x, hx⟩
  · rw [hh, List.mem_map]
theorem CatD.size {D : DataW Unit} {Q : List Pt} {w : World} {b N : Nat} (h : CatD D Q) (hR : Rise Q) (ho : w.ownsMap Try.prog 9 (plainElem (H := Unit) Try.prog 3) b N D) : Maps.size D = Q.length := by
  have hp := (h.perm hR ho).length_eq
  obtain ⟨es, rfl, _⟩ := ho.tidy lawStr
  rw [List.length_map] at hp
  rw [hp, Maps.size_eq]
  show _ = (es.map _).length
  rw [List.length_map]
/-- sorted they are the names as they rise -/
theorem rise_sort {Q : List Pt} (h : Rise Q) {ss : List (List UInt8)} (hp : ss.Perm (Q.map (fun q => kb q.t))) : ss.mergeSort (fun x y => decide (x ≤ y)) = Q.map (fun q => kb q.t) := by
  have e := mergeSort_of_perm hp
  rw [show (fun x y : List UInt8 => decide (x ≤ y)) = leB from rfl, e]
  refine List.mergeSort_of_pairwise ?_
  refine List.pairwise_map.2 (h.imp fun {a b} hl => ?_)
  rw [less_le] at hl
  simp only [leB, decide_eq_true_eq]
  exact (List.le_total _ _).resolve_right hl
theorem IsCat.map {w : World} {b N : Nat} {Q : List Pt} (h : IsCat w b N Q) : ∃ es c, w.heap[b]? = some (.map es c) := by
  obtain ⟨_, ⟨es, c, hb, _⟩, _⟩ := h
  exact ⟨es, c, hb⟩
theorem IsCat.lt {w : World} {b N : Nat} {Q : List Pt} (h : IsCat w b N Q) : b < w.heap.size := by
  obtain ⟨es, c, hb⟩ := h.map
  exact (Array.getElem?_eq_some_iff.1 hb).1
theorem IsCat.at {w w' : World} {b N : Nat} {Q : List Pt} (h : IsCat w b N Q) (hb : w'.heap[b]? = w.heap[b]?) : IsCat w' b N Q := by
  obtain ⟨D, ⟨es, clock, h1, F, hs, hD⟩, hc⟩ := h
  exact ⟨D, ⟨es, clock, hb.trans h1, F, hs, hD⟩, hc⟩

/-! ### a catalog -/
/-- the program's own -/
structure Cat (w : World) (g b N : Nat) (Q : List Pt) : Prop where
  row : w.heap[g]? = some (.cells #[.map (some b)] 75 (0, 0))
  map : IsCat w b N Q
section
variable {w w' : World} {g b N : Nat} {Q : List Pt}
theorem Cat.c0 (h : Cat w g b N Q) : w.cell? ⟨g, 0, none⟩ = some (.map (some b)) := (cell_of_row _ _ 0 _ _ _ h.row).trans rfl
theorem Cat.lt (h : Cat w g b N Q) : g < w.heap.size := (Array.getElem?_eq_some_iff.1 h.row).1
theorem Cat.at (h : Cat w g b N Q) (h1 : w'.heap[g]? = w.heap[g]?) (h2 : w'.heap[b]? = w.heap[b]?) : Cat w' g b N Q := ⟨h1.trans h.row, h.map.at h2⟩
theorem Cat.below (h : Cat w g b N Q) (hb : Below w.heap.size w w') : Cat w' g b N Q := h.at (hb.block g h.lt) (hb.block b h.map.lt)
theorem Cat.only {S : List Nat} (h : Cat w g b N Q) (o : Only S w w') (h1 : g ∉ S) (h2 : b ∉ S) : Cat w' g b N Q := h.at (o.block g h.lt h1) (o.block b h.map.lt h2)
theorem Cat.gb (h : Cat w g b N Q) : g ≠ b := fun e => by
  obtain ⟨es, c, hb⟩ := h.map.map
  have := h.row
  rw [e, hb] at this; injection this with e; cases e
/-- behind a turn of its map -/
theorem Cat.turned {N' : Nat} {Q' : List Pt} (h : Cat w g b N Q) (o : Only [b] w w') (hm : IsCat w' b N' Q') : Cat w' g b N' Q' := ⟨(o.block g h.lt (by simpa using h.gb)).trans h.row, hm⟩
end
theorem Only.ofGrown {w w' : World} {b : Nat} (h : w.grownBy w' (some b)) : Only [b] w w' := ⟨h.os, h.tape, h.output, h.size, fun k _ hn => h.block k ‹_› (fun e => hn (by injection e with e; simp [e]))⟩
/-- the document's -/
structure Doc (w : World) (B k : Nat) (A : Option Addr) (cap : Nat) (Q : List Pt) : Prop where
  row : w.heap[k]? = some (.cells #[.slice A Q.length cap] 67 (0, 0))
  own : w.ownsRow B 44 2 (.slice A Q.length cap) Q.length (rowP Q)
section
variable {w w' : World} {B k cap : Nat} {A : Option Addr} {Q : List Pt}
theorem Doc.c0 (h : Doc w B k A cap Q) : w.cell? ⟨k, 0, none⟩ = some (.slice A Q.length cap) := (cell_of_row _ _ 0 _ _ _ h.row).trans rfl
theorem Doc.froz (h : Doc w B k A cap Q) : w.frozen? ⟨k, 0, none⟩ = false := frozen_of_row _ _ _ _ _ h.row
theorem Doc.lt (h : Doc w B k A cap Q) : k < w.heap.size := (Array.getElem?_eq_some_iff.1 h.row).1
theorem Doc.kA (h : Doc w B k A cap Q) : k ∉ bk A := fun e => by
  obtain ⟨cs', _, hb⟩ := own_bk h.own k e
  rw [h.row] at hb; injection hb with e; injection e with _ e; exact absurd e (by decide)
theorem Doc.at (h : Doc w B k A cap Q) (h1 : w'.heap[k]? = w.heap[k]?) (h2 : ∀ j ∈ bk A, w'.heap[j]? = w.heap[j]?) : Doc w' B k A cap Q :=
  ⟨h1.trans h.row, own_at h.own (fun j e => h2 j (by rw [blk_own] at e; exact mem_bk.2 e))⟩
theorem Doc.below (h : Doc w B k A cap Q) (hb : Below w.heap.size w w') : Doc w' B k A cap Q := h.at (hb.block k h.lt) (fun j hj => hb.block j (own_lt h.own j hj))
theorem Doc.only {S : List Nat} (h : Doc w B k A cap Q) (o : Only S w w') (h1 : k ∉ S) (h2 : ∀ j ∈ bk A, j ∉ S) : Doc w' B k A cap Q := h.at (o.block k h.lt h1) (fun j hj => o.block j (own_lt h.own j hj) (h2 j hj))
theorem Doc.reads (h : Doc w B k A cap Q) : ReadsP w w.heap.size A Q := own_reads h.own rfl (own_lt h.own)
end
end Go.Proofs.Ythongbobopampaa.L9
