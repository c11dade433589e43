/-
  Where a joiner lies in memory: its own row, and a map of texts by numbers.
-/
import Derived.Test.YtlemcijgjebekaaChBack
import Derived.Test.YtlemcijgjebekaaChShelf
import Derived.Maps.StringElems
import Derived.MapKept
namespace Go.Proofs.Ytlemcijgjebekaa.L7
open Go.RowKit
open Go.Maps Go.MapKept Go.ChangeMaps
open L3 L4 L5

theorem keyI : Keyed Try.prog 3 := int_keyed Try.underlying3
theorem zeroS (w : World) : (zeroValue 9).run Try.prog w = .ok (.string ⟨#[]⟩) w := by kernel_rfl
def litS (b : ByteArray) : DataW Unit := .lit (.string b.data.toList)
theorem litS_inj {a b : ByteArray} (h : litS a = litS b) : a = b := by
  cases a; cases b
  simp [litS] at h
  simp [h]
structure ReadsM (D : DataW Unit) (m : Js) : Prop where
  has : ∀ x : Int, Maps.has D (.int .i64 x) = (valM m x).isSome
  at_ : ∀ (x : Int) (b : ByteArray) (z : DataW Unit), valM m x = some b → D.atKey (.int .i64 x) z = litS b
  size : Maps.size D = cntM m
def IsHas (w : World) (bm : Nat) (m : Js) : Prop := ∃ D, w.ownsMap Try.prog 3 (plainElem Try.prog 9) bm (cntM m) D ∧ ReadsM D m
theorem IsHas.lt {w : World} {bm : Nat} {m : Js} (h : IsHas w bm m) : bm < w.heap.size := by obtain ⟨D, h, _⟩ := h; exact h.lt
theorem IsHas.map {w : World} {bm : Nat} {m : Js} (h : IsHas w bm m) : ∃ es c, w.heap[bm]? = some (.map es c) := by
  obtain ⟨D, ⟨es, c, hb, _⟩, _⟩ := h
  exact ⟨es, c, hb⟩
theorem own_map_at {w w' : World} {bm n : Nat} {D : DataW Unit} (h : w.ownsMap Try.prog 3 (plainElem Try.prog 9) bm n D) (hb : w'.heap[bm]? = w.heap[bm]?) : w'.ownsMap Try.prog 3 (plainElem Try.prog 9) bm n D := by
  obtain ⟨es, clock, h1, F, hs, hD⟩ := h
  exact ⟨es, clock, hb.trans h1, F, hs, hD⟩
theorem IsHas.at {w w' : World} {bm : Nat} {m : Js} (h : IsHas w bm m) (hb : w'.heap[bm]? = w.heap[bm]?) : IsHas w' bm m := by
  obtain ⟨D, h, r⟩ := h
  exact ⟨D, own_map_at h hb, r⟩
theorem own_size {w : World} {bm n : Nat} {D : DataW Unit} (h : w.ownsMap Try.prog 3 (plainElem Try.prog 9) bm n D) : w.ownsMap Try.prog 3 (plainElem Try.prog 9) bm (Maps.size D) D := by
  obtain ⟨es, clock, h1, F, hs, rfl⟩ := h
  refine ⟨es, clock, h1, F, ?_, rfl⟩
  rw [Maps.size, length_sorted]; simp
theorem valM_replicate (n : Nat) (x : Int) : valM (List.replicate n none) x = none := by
  unfold valM
  split
  · rfl
  · rw [List.getElem?_replicate]; split <;> rfl
theorem valM_nil (x : Int) : valM [] x = none := by unfold valM; split <;> rfl
theorem readsM_none {m : Js} (hv : ∀ x, valM m x = none) (hc : cntM m = 0) : ReadsM (.map []) m :=
  ⟨fun x => by rw [hv]; rfl, fun x b z h => (by rw [hv] at h; cases h), by rw [hc]; rfl⟩
theorem IsHas.made (w : World) : IsHas (w.alloc (.map #[] 0)) w.heap.size [] := ⟨_, World.ownsMap_made w _ _ _, readsM_none valM_nil rfl⟩
theorem IsHas.base {w : World} {bm : Nat} {m : Js} (h : IsHas w bm m) (n : Int) : IsHas w bm (baseM m n) := by
  unfold baseM
  by_cases e : m = []
  · rw [if_pos e]
    subst e
    obtain ⟨D, h, r⟩ := h
    refine ⟨D, by rw [cnt_nil]; exact h, ⟨fun x => ?_, fun x b z hb => ?_, ?_⟩⟩
    · rw [r.has, valM_nil, valM_replicate]
    · rw [valM_replicate] at hb; cases hb
    · rw [r.size, cnt_nil]; rfl
  · rw [if_neg e]; exact h
theorem key_int {x : Int} (h0 : -9223372036854775808 ≤ x) (h1 : x ≤ 9223372036854775807) : keyOf Try.prog 3 (.int .i64 x) = some (.int .i64 x) := keyOf_int_mk Try.underlying3 (WalkArith.wf_i64 (by omega))
theorem empty_elem : (plainElem Try.prog 9 (.string ⟨#[]⟩) : Option (DataW Unit × List MemPlace)) = some (litS ⟨#[]⟩, []) := plainElem_string Try.underlying9 (by unfold maxLen; decide)
theorem IsHas.look {w : World} {bm : Nat} {m : Js} (h : IsHas w bm m) {x : Int} (h0 : -9223372036854775808 ≤ x) (h1 : x ≤ 9223372036854775807) :
    (Instr.lookup 160 (.map (some bm)) (.int .i64 x) true).run Try.prog w = .ok (.tuple #[.string ((valM m x).getD ⟨#[]⟩), .bool (valM m x).isSome]) w := by
  obtain ⟨D, h, r⟩ := h
  obtain ⟨v, ps, hrun, hv⟩ := h.look_ok keyI Try.underlying160 (zeroS w) empty_elem (key_int h0 h1)
  obtain ⟨s, rfl, e, _⟩ := plainElem_string_inv Try.underlying9 hv
  rw [hrun, r.has]
  have e1 := congrArg Prod.fst e
  dsimp only at e1
  cases hm : valM m x with
  | none =>
    rw [atKey_of_not_has (by rw [r.has, hm]; rfl)] at e1
    have : s = ⟨#[]⟩ := (litS_inj e1).symm
    rw [this]; rfl
  | some b =>
    rw [r.at_ x b _ hm] at e1
    have : s = b := (litS_inj e1).symm
    rw [this]; rfl
theorem IsHas.look1 {w : World} {bm : Nat} {m : Js} (h : IsHas w bm m) {x : Int} (h0 : -9223372036854775808 ≤ x) (h1 : x ≤ 9223372036854775807) :
    (Instr.lookup 160 (.map (some bm)) (.int .i64 x) false).run Try.prog w = .ok (.string ((valM m x).getD ⟨#[]⟩)) w := by
  obtain ⟨D, h, r⟩ := h
  obtain ⟨v, ps, hrun, hv⟩ := h.lookup keyI Try.underlying160 (zeroS w) empty_elem (key_int h0 h1)
  obtain ⟨s, rfl, e, _⟩ := plainElem_string_inv Try.underlying9 hv
  rw [hrun]
  have e1 := congrArg Prod.fst e
  dsimp only at e1
  cases hm : valM m x with
  | none =>
    rw [atKey_of_not_has (by rw [r.has, hm]; rfl)] at e1
    have : s = ⟨#[]⟩ := (litS_inj e1).symm
    rw [this]; rfl
  | some b =>
    rw [r.at_ x b _ hm] at e1
    have : s = b := (litS_inj e1).symm
    rw [this]; rfl
theorem IsHas.len {w : World} {bm : Nat} {m : Js} (h : IsHas w bm m) (ty : TypeId) : (Builtin.len_ #[160] ty #[.map (some bm)]).run Try.prog w = .ok (.int .i64 (cntM m)) w := by
  obtain ⟨D, h, r⟩ := h
  rw [← r.size]
  exact h.len Try.underlying160 ty
theorem valM_set {m : Js} {i : Nat} {b : ByteArray} (hi : i < m.length) (x : Int) : valM (m.set i (some b)) x = if x = i then some b else valM m x := by
  unfold valM
  by_cases h : x < 0
  · rw [if_pos h, if_pos h, if_neg (by omega)]
  · rw [if_neg h, if_neg h]
    by_cases e : x = i
    · subst e; rw [if_pos rfl, Int.toNat_natCast, List.getElem?_set_self hi]; rfl
    · rw [if_neg e, List.getElem?_set_ne (by omega)]
theorem readsM_put {D : DataW Unit} {m : Js} {i : Nat} {b : ByteArray} (r : ReadsM D m) (ht : Tidy D) (hi : i < m.length) (hv : valM m i = none) : ReadsM (D.put (.int .i64 i) (litS b)) (m.set i (some b)) := by
  refine ⟨fun x => ?_, fun x c z hx => ?_, ?_⟩
  · rw [valM_set hi]
    by_cases e : x = i
    · subst e; rw [if_pos rfl, has_put_same (k := .int .i64 _) ht.isMap trivial]; rfl
    · rw [if_neg e, has_put_other (fun q => e (by injection q)), r.has]
  · rw [valM_set hi] at hx
    by_cases e : x = i
    · subst e; rw [if_pos rfl] at hx; injection hx with hx; subst hx; exact atKey_put_same (k := .int .i64 _) ht.isMap trivial _ _
    · rw [if_neg e] at hx; rw [atKey_put_other (fun q => e (by injection q)), r.at_ x c z hx]
  · rw [size_put ht, r.has, hv, r.size, cnt_set hi (by rw [valM_nat] at hv; exact hv)]; rfl
theorem IsHas.stored {w w' : World} {bm n : Nat} {m : Js} {i : Nat} {b : ByteArray} {D : DataW Unit} (h : w.ownsMap Try.prog 3 (plainElem Try.prog 9) bm (cntM m) D) (r : ReadsM D m) (hi : i < m.length) (hv : valM m i = none)
    (h' : w'.ownsMap Try.prog 3 (plainElem Try.prog 9) bm n (D.put (.int .i64 i) (litS b))) : IsHas w' bm (m.set i (some b)) := by
  have q := readsM_put (b := b) r (h.tidy keyI) hi hv
  exact ⟨_, by rw [← q.size]; exact own_size h', q⟩
theorem clear_run {w : World} {bm : Nat} {m : Js} (h : IsHas w bm m) : ∃ w', (∀ ty, (Builtin.clear_ #[160] ty #[.map (some bm)]).run Try.prog w = .ok (.tuple #[]) w') ∧ IsHas w' bm [] ∧ w.grownBy w' (some bm) := by
  obtain ⟨D, ⟨es, clock, hb, F, _⟩, _⟩ := h
  refine ⟨setBlock w bm (.map #[] clock), fun ty => ?_, ⟨.map [], ⟨#[], clock, heap_setBlock_same hb _, ⟨by simp, stamped_empty _, by simp⟩, Nat.zero_le _, rfl⟩, readsM_none valM_nil rfl⟩, ⟨rfl, rfl, rfl, by simp [setBlock], fun i _ hi => heap_setBlock_other hb _ (fun e => hi (by rw [e]))⟩⟩
  simp [Builtin.clear_, run_underlying Try.underlying160, MapKept.run_getObj_map hb, MapKept.run_setObj_map _ hb, Result.andThen]
  rfl

/-- all that was stays, but some blocks -/
structure Lets (S : List Nat) (w w' : World) : Prop where
  os : w'.os = w.os
  tape : w'.tape = w.tape
  output : w'.output = w.output
  size : w.heap.size ≤ w'.heap.size
  block : ∀ k, k < w.heap.size → k ∉ S → w'.heap[k]? = w.heap[k]?
theorem Lets.ofBelow {S : List Nat} {w w' : World} (b : Below w.heap.size w w') : Lets S w w' := ⟨b.os, b.tape, b.output, b.size, fun k hk _ => b.block k hk⟩
theorem Lets.trans {S : List Nat} {w w1 w2 : World} (a : Lets S w w1) (b : Lets S w1 w2) : Lets S w w2 :=
  ⟨b.os.trans a.os, b.tape.trans a.tape, b.output.trans a.output, Nat.le_trans a.size b.size, fun k hk hn => (b.block k (Nat.lt_of_lt_of_le hk a.size) hn).trans (a.block k hk hn)⟩
theorem Lets.setCell {S : List Nat} {w w1 : World} (a : Lets S w w1) {p : Addr} (hp : p.block ∈ S) (u : Value) : Lets S w (w1.setCell p u) :=
  ⟨a.os, a.tape, a.output, by simp [World.setCell]; exact a.size, fun k hk hn => (Below.heap_setCell _ _ _ _ (by intro e; exact hn (e ▸ hp))).trans (a.block k hk hn)⟩
theorem Lets.grown {S : List Nat} {w w1 w2 : World} (a : Lets S w w1) {r : Nat} (h : w1.grownBy w2 (some r)) (hr : r ∈ S) : Lets S w w2 :=
  ⟨h.os.trans a.os, h.tape.trans a.tape, h.output.trans a.output, Nat.le_trans a.size h.size, fun k hk hn => (h.block k (Nat.lt_of_lt_of_le hk a.size) (fun e => by injection e with e; exact hn (e ▸ hr))).trans (a.block k hk hn)⟩
theorem Lets.below {S : List Nat} {w w' : World} {B : Nat} (a : Lets S w w') (hB : B ≤ w.heap.size) (h : ∀ k ∈ S, B ≤ k) : Below B w w' :=
  ⟨a.os, a.tape, a.output, a.size, fun k hk => a.block k (by omega) (fun e => by have := h k e; omega)⟩

/-- a joiner: its row, and what it has -/
structure Jn (w : World) (g bm dg : Nat) (m : Js) : Prop where
  row : w.heap[g]? = some (.cells #[.int .u64 dg, .int .i64 m.length, .map (some bm)] 162 (0, 0))
  has : IsHas w bm m
section
variable {w w' : World} {g bm dg : Nat} {m : Js}
theorem Jn.lt (h : Jn w g bm dg m) : g < w.heap.size := (Array.getElem?_eq_some_iff.1 h.row).1
theorem Jn.ne (h : Jn w g bm dg m) : g ≠ bm := fun e => by
  obtain ⟨es, c, hb⟩ := h.has.map
  rw [← e, h.row] at hb; cases hb
theorem Jn.c0 (h : Jn w g bm dg m) : w.cell? ⟨g, 0, none⟩ = some (.int .u64 dg) := (cell_of_row _ _ 0 _ _ _ h.row).trans rfl
theorem Jn.c1 (h : Jn w g bm dg m) : w.cell? ⟨g, 1, none⟩ = some (.int .i64 m.length) := (cell_of_row _ _ 1 _ _ _ h.row).trans rfl
theorem Jn.c2 (h : Jn w g bm dg m) : w.cell? ⟨g, 2, none⟩ = some (.map (some bm)) := (cell_of_row _ _ 2 _ _ _ h.row).trans rfl
theorem Jn.froz (h : Jn w g bm dg m) (i : Nat) : w.frozen? ⟨g, i, none⟩ = false := frozen_of_row _ _ _ _ _ h.row
theorem Jn.below (h : Jn w g bm dg m) (b : Below w.heap.size w w') : Jn w' g bm dg m := ⟨(b.block _ h.lt).trans h.row, h.has.at (b.block _ h.has.lt)⟩
theorem Jn.drew (h : Jn w g bm dg m) : Jn w.drew g bm dg m := h.below (Below.refl _ _).drew
end
end Go.Proofs.Ytlemcijgjebekaa.L7
