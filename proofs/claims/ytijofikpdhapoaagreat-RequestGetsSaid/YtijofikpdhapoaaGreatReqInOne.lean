/-
  Contracts: the document's In.one, a letter's thing read.
-/
import Derived.Test.YtijofikpdhapoaaGreatReqIn
import Derived.Test.YtijofikpdhapoaaGreatRecRparse
import Derived.Test.YtijofikpdhapoaaGreatReqRdB
import Derived.Test.YtijofikpdhapoaaGreatReqCut
import Derived.Deep.DeepCutAuto
import Derived.Deep.CutBlock
import Derived.Deep.RegionHeld
import Derived.OrdersHeld
namespace Go.Proofs.YtijofikpdhapoaaGreat.L4
open Go.RowKit
open L3

def dkeys : Nat → List Nat
  | 116 => [1]
  | 112 => [1, 2]
  | 110 => [3]
  | 111 => [4]
  | 98 => [5]
  | 103 => [9]
  | 109 => [10]
  | 101 => [11]
  | 114 => [12]
  | _ => [13]
theorem one_beq (n : Nat) : (n == 1) = ((n : Int) == 1) := by
  by_cases h : n = 1
  · subst h; rfl
  · have h2 : (n : Int) ≠ 1 := by omega
    rw [beq_eq_false_iff_ne.mpr h, beq_eq_false_iff_ne.mpr h2]
/-- a command's cells -/
def opC (o : O) (RA TA : Option Addr) (rc tc : Nat) : Array Value := #[.int .i64 o.kind, .string o.topic, .int .i64 o.pn, .int .i64 o.n, .int .i64 o.off, .int .i64 o.bp, .int .i64 o.be, .int .i64 o.bq, .slice RA o.recs.length rc, .string o.group, .string o.member, .int .i64 o.gen, .bool o.robin, .slice TA o.tops.length tc]
def zeroC : Array Value := #[.int .i64 0, .string ⟨#[]⟩, .int .i64 0, .int .i64 0, .int .i64 0, .int .i64 0, .int .i64 0, .int .i64 0, .slice none 0 0, .string ⟨#[]⟩, .string ⟨#[]⟩, .int .i64 0, .bool false, .slice none 0 0]
theorem ownW {w w' : World} {base n size : Nat} {E : TypeId} {v : Value} {xs : List Value} (h : w.ownsRow base E size v n xs) (hb : ∀ (k : Nat) (cs : Array Value), w.heap[k]? = some (Obj.cells cs E (0, 0)) → w'.heap[k]? = w.heap[k]?) : w'.ownsRow base E size v n xs := by
  refine ⟨h.1, ?_⟩
  rcases h.2 with e | ⟨b, cap, cur, e, h1, hh, h2⟩
  · exact .inl e
  · exact .inr ⟨b, cap, cur, e, h1, (hb b _ hh).trans hh, h2⟩
/-- an In at P, a command in a block X, a result's block Z -/
structure Mi (w : World) (P X Z B : Nat) (s : ByteArray) (q : Option Int) (o : O) (RA TA : Option Addr) (rc tc : Nat) (W : World) : Prop where
  x : W.heap[X]? = some (Obj.cells (opC o RA TA rc tc) 29 (0, 0))
  z : W.heap[Z]? = some (Obj.cells zeroC 29 (0, 0))
  rd : RdrI P s q W
  rr : W.ownsRow B 35 4 (.slice RA o.recs.length rc) o.recs.length (rowOf o.recs)
  tt : W.ownsRow B 9 1 (.slice TA o.tops.length tc) o.tops.length (texts o.tops)
  gr : w.grownBy W (some P)
  hX : w.heap.size ≤ X
  hZ : w.heap.size ≤ Z
  ne : X ≠ Z
  hP : P < w.heap.size
  hB : B ≤ w.heap.size
section
variable {w W W' : World} {P X Z B rc tc : Nat} {s : ByteArray} {q q' : Option Int} {o o' : O} {RA TA : Option Addr}
/-- a call that turns the In alone -/
theorem Mi.call (h : Mi w P X Z B s q o RA TA rc tc W) (r : RdrI P s q' W') (g : W.grownBy W' (some P)) : Mi w P X Z B s q' o RA TA rc tc W' := by
  obtain ⟨a, hp, _⟩ := h.rd
  have hx := at_lt h.x
  have hz := at_lt h.z
  have nX : X ≠ P := by have := h.hX; have := h.hP; omega
  have nZ : Z ≠ P := by have := h.hZ; have := h.hP; omega
  refine ⟨(g.block X hx (fun e => nX (Option.some.inj e))).trans h.x, (g.block Z hz (fun e => nZ (Option.some.inj e))).trans h.z, r, ownW h.rr (fun k cs hk => g.block k (at_lt hk) (fun e => ?_)), ownW h.tt (fun k cs hk => g.block k (at_lt hk) (fun e => ?_)), g_trans h.gr g, h.hX, h.hZ, h.ne, h.hP, h.hB⟩
  · have e' := Option.some.inj e
    subst e'
    rw [hp] at hk; injection hk with hk; injection hk with _ hk; exact absurd hk (by decide)
  · have e' := Option.some.inj e
    subst e'
    rw [hp] at hk; injection hk with hk; injection hk with _ hk; exact absurd hk (by decide)
/-- a cell of the command is set -/
theorem Mi.set (h : Mi w P X Z B s q o RA TA rc tc W) (j : Nat) (v : Value) (hx : (opC o RA TA rc tc).setIfInBounds j v = opC o' RA TA rc tc) (hr : o'.recs = o.recs) (ht : o'.tops = o.tops) : Mi w P X Z B s q o' RA TA rc tc (W.setCell ⟨X, j, none⟩ v) := by
  obtain ⟨a, hp, ha⟩ := h.rd
  have nP : P ≠ X := by have := h.hX; have := h.hP; omega
  refine ⟨?_, (Below.heap_setCell _ _ _ _ (Ne.symm h.ne)).trans h.z, ⟨a, (Below.heap_setCell _ _ _ _ nP).trans hp, ha⟩, ?_, ?_, ?_, h.hX, h.hZ, h.ne, h.hP, h.hB⟩
  · rw [← hx]; exact heap_setCell_same _ X j _ _ v h.x
  · rw [hr]
    exact ownW h.rr (fun k cs hk => Below.heap_setCell _ _ _ _ (fun e => by
      have e' : k = X := e
      subst e'
      rw [h.x] at hk; injection hk with hk; injection hk with _ hk; exact absurd hk (by decide)))
  · rw [ht]
    exact ownW h.tt (fun k cs hk => Below.heap_setCell _ _ _ _ (fun e => by
      have e' : k = X := e
      subst e'
      rw [h.x] at hk; injection hk with hk; injection hk with _ hk; exact absurd hk (by decide)))
  · exact ⟨h.gr.os, h.gr.tape, h.gr.output, by simp [World.setCell]; exact h.gr.size, fun k hk hn => (Below.heap_setCell _ _ _ _ (by show k ≠ X; have := h.hX; omega)).trans (h.gr.block k hk hn)⟩
end
theorem Mi.hB' {w W : World} {P X Z B rc tc : Nat} {s : ByteArray} {q : Option Int} {o : O} {RA TA : Option Addr} (h : Mi w P X Z B s q o RA TA rc tc W) : B ≤ W.heap.size := Nat.le_trans h.hB h.gr.size
/-- a batch is read -/
theorem Mi.bat {w W : World} {P X Z B rc tc cap : Nat} {s : ByteArray} {pa ee : Int} {q : Option Int} {v : Bool} {b : Bt} {o : O} {RA TA A : Option Addr} (h : Mi w P X Z B s (some pa) o RA TA rc tc W)
    (hr : W.ownsRow B 35 4 (.slice A b.l.length cap) b.l.length (rowOf b.l)) (hv : v = q.isNone) (hq : ∀ c, q = some c → ee = c) :
    Mi w P X Z B s q { o with bp := (b.p : Int), be := (b.e : Int), bq := (b.q : Int), recs := b.l } A TA cap tc ((((((W.setCell ⟨X, 5, none⟩ (.int .i64 b.p)).setCell ⟨X, 6, none⟩ (.int .i64 b.e)).setCell ⟨X, 7, none⟩ (.int .i64 b.q)).setCell ⟨X, 8, none⟩ (.slice A b.l.length cap)).setCell ⟨P, 1, none⟩ (.int .i64 ee)).setCell ⟨P, 2, none⟩ (.bool v)) := by
  obtain ⟨a, hp, _⟩ := h.rd
  have nP : P ≠ X := by have := h.hX; have := h.hP; omega
  have nZ : Z ≠ P := by have := h.hZ; have := h.hP; omega
  obtain ⟨V, hV⟩ : ∃ V, (((W.setCell ⟨X, 5, none⟩ (.int .i64 b.p)).setCell ⟨X, 6, none⟩ (.int .i64 b.e)).setCell ⟨X, 7, none⟩ (.int .i64 b.q)).setCell ⟨X, 8, none⟩ (.slice A b.l.length cap) = V := ⟨_, rfl⟩
  have oV : ∀ k, k ≠ X → V.heap[k]? = W.heap[k]? := fun k hk => by
    rw [← hV]
    exact (Below.heap_setCell _ _ _ _ hk).trans ((Below.heap_setCell _ _ _ _ hk).trans ((Below.heap_setCell _ _ _ _ hk).trans (Below.heap_setCell _ _ _ _ hk)))
  have xV : V.heap[X]? = some (Obj.cells (opC { o with bp := (b.p : Int), be := (b.e : Int), bq := (b.q : Int), recs := b.l } A TA cap tc) 29 (0, 0)) := by
    rw [← hV]
    exact heap_setCell_same _ X 8 _ _ _ (heap_setCell_same _ X 7 _ _ _ (heap_setCell_same _ X 6 _ _ _ (heap_setCell_same _ X 5 _ _ _ h.x)))
  have sV : V.heap.size = W.heap.size := by rw [← hV]; simp [World.setCell]
  have eV : V.os = W.os ∧ V.tape = W.tape ∧ V.output = W.output := by rw [← hV]; exact ⟨rfl, rfl, rfl⟩
  rw [hV]
  have o2 : ∀ k, k ≠ P → ((V.setCell ⟨P, 1, none⟩ (.int .i64 ee)).setCell ⟨P, 2, none⟩ (.bool v)).heap[k]? = V.heap[k]? := fun k hk => (Below.heap_setCell _ _ _ _ hk).trans (Below.heap_setCell _ _ _ _ hk)
  refine ⟨(o2 X (Ne.symm nP)).trans xV, (o2 Z nZ).trans ((oV Z (Ne.symm h.ne)).trans h.z), ⟨ee, ?_, hq⟩, ownW hr (fun k cs hk => ?_), ownW h.tt (fun k cs hk => ?_), ?_, h.hX, h.hZ, h.ne, h.hP, h.hB⟩
  · rw [← hv]
    exact heap_setCell_same _ P 2 _ _ _ (heap_setCell_same _ P 1 _ _ _ ((oV P nP).trans hp))
  · have k1 : k ≠ P := fun e => by rw [e, hp] at hk; injection hk with hk; injection hk with _ hk; exact absurd hk (by decide)
    have k2 : k ≠ X := fun e => by rw [e, h.x] at hk; injection hk with hk; injection hk with _ hk; exact absurd hk (by decide)
    exact (o2 k k1).trans (oV k k2)
  · have k1 : k ≠ P := fun e => by rw [e, hp] at hk; injection hk with hk; injection hk with _ hk; exact absurd hk (by decide)
    have k2 : k ≠ X := fun e => by rw [e, h.x] at hk; injection hk with hk; injection hk with _ hk; exact absurd hk (by decide)
    exact (o2 k k1).trans (oV k k2)
  · have h1 := h.hX
    refine ⟨eV.1.trans h.gr.os, eV.2.1.trans h.gr.tape, eV.2.2.trans h.gr.output, ?_, fun k hk hn => ?_⟩
    · have h2 := h.gr.size
      show _ ≤ ((V.setCell _ _).setCell _ _).heap.size
      simp [World.setCell]; omega
    · exact (o2 k (fun e => hn (by rw [e]))).trans ((oV k (by omega)).trans (h.gr.block k hk hn))
def Oth (H : Nat) (w w2 : World) : Prop := (∀ k, k ≠ H → w2.heap[k]? = w.heap[k]?) ∧ w2.heap.size = w.heap.size ∧ w2.os = w.os ∧ w2.tape = w.tape ∧ w2.output = w.output
theorem Oth.refl (H : Nat) (w : World) : Oth H w w := ⟨fun _ _ => rfl, rfl, rfl, rfl, rfl⟩
theorem Oth.set {H : Nat} {w w2 : World} (h : Oth H w w2) (j : Nat) (v : Value) : Oth H w (w2.setCell ⟨H, j, none⟩ v) :=
  ⟨fun k hk => (Below.heap_setCell _ _ _ _ hk).trans (h.1 k hk), by simp; exact h.2.1, h.2.2.1, h.2.2.2.1, h.2.2.2.2⟩
theorem oth4 {w : World} {H : Nat} (v0 v1 v2 v3 : Value) : Oth H w ((((w.setCell ⟨H, 0, none⟩ v0).setCell ⟨H, 1, none⟩ v1).setCell ⟨H, 2, none⟩ v2).setCell ⟨H, 3, none⟩ v3) := ((((Oth.refl H w).set 0 v0).set 1 v1).set 2 v2).set 3 v3
theorem oth14 {w : World} {H : Nat} (v0 v1 v2 v3 v4 v5 v6 v7 v8 v9 v10 v11 v12 v13 : Value) : Oth H w ((((((((((((((w.setCell ⟨H, 0, none⟩ v0).setCell ⟨H, 1, none⟩ v1).setCell ⟨H, 2, none⟩ v2).setCell ⟨H, 3, none⟩ v3).setCell ⟨H, 4, none⟩ v4).setCell ⟨H, 5, none⟩ v5).setCell ⟨H, 6, none⟩ v6).setCell ⟨H, 7, none⟩ v7).setCell ⟨H, 8, none⟩ v8).setCell ⟨H, 9, none⟩ v9).setCell ⟨H, 10, none⟩ v10).setCell ⟨H, 11, none⟩ v11).setCell ⟨H, 12, none⟩ v12).setCell ⟨H, 13, none⟩ v13) := ((((((((((((((Oth.refl H w).set 0 v0).set 1 v1).set 2 v2).set 3 v3).set 4 v4).set 5 v5).set 6 v6).set 7 v7).set 8 v8).set 9 v9).set 10 v10).set 11 v11).set 12 v12).set 13 v13
/-- the result's cells are set -/
theorem Mi.fin {w W W' : World} {P X Z B rc tc : Nat} {s : ByteArray} {q : Option Int} {o : O} {RA TA : Option Addr} (h : Mi w P X Z B s q o RA TA rc tc W) (g : Oth Z W W') :
    RdrI P s q W' ∧ W'.ownsRow B 35 4 (.slice RA o.recs.length rc) o.recs.length (rowOf o.recs) ∧ W'.ownsRow B 9 1 (.slice TA o.tops.length tc) o.tops.length (texts o.tops) ∧ w.grownBy W' (some P) := by
  obtain ⟨hb, g1, g2, g3, g4⟩ := g
  obtain ⟨a, hp, ha⟩ := h.rd
  have nZ : P ≠ Z := by have := h.hZ; have := h.hP; omega
  refine ⟨⟨a, (hb P nZ).trans hp, ha⟩, ownW h.rr (fun k cs hk => hb k (fun e => ?_)), ownW h.tt (fun k cs hk => hb k (fun e => ?_)), ⟨g2.trans h.gr.os, g3.trans h.gr.tape, g4.trans h.gr.output, by rw [g1]; exact h.gr.size, fun k hk hn => (hb k (by have := h.hZ; omega)).trans (h.gr.block k hk hn)⟩⟩
  · rw [e, h.z] at hk; injection hk with hk; injection hk with _ hk; exact absurd hk (by decide)
  · rw [e, h.z] at hk; injection hk with hk; injection hk with _ hk; exact absurd hk (by decide)
/-- the topics are grown -/
theorem Mi.push {w W W2 : World} {P X Z B rc tc tc' m : Nat} {s : ByteArray} {q : Option Int} {o o' : O} {RA TA TA' : Option Addr} {x : Obj} (h : Mi w P X Z B s q o RA TA rc tc W) (hm : o.tops.length = m) (ho : o'.tops.length = m + 1) (hx : (opC o RA TA rc tc).setIfInBounds 13 (.slice TA' (m + 1) tc') = opC o' RA TA' rc tc') (hr : o'.recs = o.recs)
    (ht : W2.ownsRow B 9 1 (.slice TA' (m + 1) tc') (m + 1) (texts o'.tops)) (hg : (W.alloc x).grownBy W2 (Value.slice TA m tc).ownBlock) (hTB : ∀ k, (Value.slice TA m tc).ownBlock = some k → w.heap.size ≤ k) : Mi w P X Z B s q o' RA TA' rc tc' (W2.setCell ⟨X, 13, none⟩ (.slice TA' (m + 1) tc')) := by
  obtain ⟨a, hp, ha⟩ := h.rd
  have nP : P ≠ X := by have := h.hX; have := h.hP; omega
  have hown : ∀ k cs T, W.heap[k]? = some (Obj.cells cs T (0, 0)) → T ≠ 9 → W2.heap[k]? = W.heap[k]? := fun k cs T hk hT => by
    refine (hg.block k (by have := at_lt hk; simp; omega) (fun e => ?_)).trans (Below.heap_alloc _ _ _ (at_lt hk))
    have htt := h.tt
    rw [hm] at htt
    rcases htt.2 with ⟨e1, _⟩ | ⟨b, cap, cur, e1, _, hh, _⟩
    · rw [e1] at e; cases e
    · rw [e1] at e
      have e2 : k = b := Option.some.inj e
      rw [e2, hh] at hk; injection hk with hk; injection hk with _ hk; exact hT hk.symm
  have keep : ∀ k cs T, W.heap[k]? = some (Obj.cells cs T (0, 0)) → T ≠ 9 → k ≠ X → (W2.setCell ⟨X, 13, none⟩ (.slice TA' (m + 1) tc')).heap[k]? = W.heap[k]? := fun k cs T hk hT hX => (Below.heap_setCell _ _ _ _ hX).trans (hown k cs T hk hT)
  refine ⟨?_, (keep _ _ _ h.z (by decide) (Ne.symm h.ne)).trans h.z, ⟨a, (keep _ _ _ hp (by decide) nP).trans hp, ha⟩, ?_, ?_, ?_, h.hX, h.hZ, h.ne, h.hP, h.hB⟩
  · rw [← hx]; exact heap_setCell_same _ X 13 _ _ _ ((hown _ _ _ h.x (by decide)).trans h.x)
  · rw [hr]
    exact ownW h.rr (fun k cs hk => keep k cs _ hk (by decide) (fun e => by
      rw [e, h.x] at hk; injection hk with hk; injection hk with _ hk; exact absurd hk (by decide)))
  · rw [ho]
    exact ownW ht (fun k cs hk => Below.heap_setCell _ _ _ _ (fun e => by
      have e' : k = X := e
      rw [e', (hown _ _ _ h.x (by decide)).trans h.x] at hk; injection hk with hk; injection hk with _ hk; exact absurd hk (by decide)))
  · refine ⟨hg.os.trans h.gr.os, hg.tape.trans h.gr.tape, hg.output.trans h.gr.output, ?_, fun k hk hn => ?_⟩
    · have h1 := h.gr.size
      have h2 := hg.size
      simp at h2
      simp [World.setCell]; omega
    · have h1 := h.gr.size
      refine (Below.heap_setCell _ _ _ _ (by show k ≠ X; have := h.hX; omega)).trans ?_
      refine (hg.block k (by simp; omega) (fun e => ?_)).trans ((Below.heap_alloc _ _ _ (by omega)).trans (h.gr.block k hk hn))
      have := (hTB k e.symm)
      omega
/-- what reading a letter's thing makes of a command -/
def OneR (s : ByteArray) (c : Nat) (o : O) (a : Int) (o' : O) (q : Option Int) : Prop :=
  Small o' ∧ o'.kind = o.kind ∧ q = ((dkeys c).foldl (readK s true) (o, some a)).2 ∧ (q.isSome = true → o' = ((dkeys c).foldl (readK s true) (o, some a)).1) ∧ (c ≠ 108 → o'.tops = o.tops)
theorem OneR.of {s : ByteArray} {c : Nat} {o o' : O} {a : Int} {q : Option Int} (S : Small o) (h : (dkeys c).foldl (readK s true) (o, some a) = (o', q)) (ht : c ≠ 108 → o'.tops = o.tops) : OneR s c o a o' q := by
  refine ⟨?_, ?_, by rw [h], fun _ => by rw [h], ht⟩
  · have := fold_small (s := s) (d := true) (dkeys c) (op := (o, some a)) S
    rwa [h] at this
  · have := fold_kind s true (dkeys c) (o, some a)
    rwa [h] at this
/-- what one leaves -/
def OneP (w : World) (P B : Nat) (s : ByteArray) (c : Nat) (o : O) (a : Int) (TA : Option Addr) (tc : Nat) (e : Ending) (w' : World) : Prop :=
  ∃ (o' : O) (q : Option Int) (RA' TA' : Option Addr) (rc' tc' : Nat), e = .returned (.agg (opC o' RA' TA' rc' tc')) ∧ RdrI P s q w' ∧ w'.ownsRow B 35 4 (.slice RA' o'.recs.length rc') o'.recs.length (rowOf o'.recs) ∧ w'.ownsRow B 9 1 (.slice TA' o'.tops.length tc') o'.tops.length (texts o'.tops) ∧ w.grownBy w' (some P) ∧ OneR s c o a o' q ∧ (c ≠ 108 → TA' = TA ∧ tc' = tc)
set_option maxRecDepth 100000 in
set_option maxHeartbeats 16000000 in
theorem one_in (w : World) (P B : Nat) (s : ByteArray) (c : Nat) (hc : c = 116 ∨ c = 112 ∨ c = 110 ∨ c = 111 ∨ c = 98 ∨ c = 103 ∨ c = 109 ∨ c = 101 ∨ c = 114 ∨ c = 108) (o : O) (a : Int) (RA TA : Option Addr) (rc tc : Nat) (hs : s.size ≤ 140737488355328) (hB : B ≤ w.heap.size) (S : Hid (Small o)) (hR : Hid (RdrI P s (some a) w)) (hO : Hid (w.ownsRow B 35 4 (.slice RA o.recs.length rc) o.recs.length (rowOf o.recs))) (hT : Hid (w.ownsRow B 9 1 (.slice TA o.tops.length tc) o.tops.length (texts o.tops))) (hl : Hid (c = 108 → o.tops = [] ∧ TA = none ∧ tc = 0)) :
    Calls Tryz.prog 10 #[.pointer (some ⟨P, 0, none⟩), .agg #[.int .i64 o.kind, .string o.topic, .int .i64 o.pn, .int .i64 o.n, .int .i64 o.off, .int .i64 o.bp, .int .i64 o.be, .int .i64 o.bq, .slice RA o.recs.length rc, .string o.group, .string o.member, .int .i64 o.gen, .bool o.robin, .slice TA o.tops.length tc], .int .u8 (c : Int)] w (OneP w P B s c o a TA tc) := by
  have hsm : Hid (s.size ≤ maxLen) := Lib.hid (by unfold maxLen; omega)
  have hs2 : ((w.alloc (.cells #[.int .i64 o.kind, .string o.topic, .int .i64 o.pn, .int .i64 o.n, .int .i64 o.off, .int .i64 o.bp, .int .i64 o.be, .int .i64 o.bq, .slice RA o.recs.length rc, .string o.group, .string o.member, .int .i64 o.gen, .bool o.robin, .slice TA o.tops.length tc] 29))).heap.size = w.heap.size + 1 := by simp
  obtain ⟨W1, hW1⟩ : ∃ W1, (w.alloc (.cells #[.int .i64 o.kind, .string o.topic, .int .i64 o.pn, .int .i64 o.n, .int .i64 o.off, .int .i64 o.bp, .int .i64 o.be, .int .i64 o.bq, .slice RA o.recs.length rc, .string o.group, .string o.member, .int .i64 o.gen, .bool o.robin, .slice TA o.tops.length tc] 29)).alloc (.cells #[.int .i64 0, .string ⟨#[]⟩, .int .i64 0, .int .i64 0, .int .i64 0, .int .i64 0, .int .i64 0, .int .i64 0, .slice none 0 0, .string ⟨#[]⟩, .string ⟨#[]⟩, .int .i64 0, .bool false, .slice none 0 0] 29) = W1 := ⟨_, rfl⟩
  obtain ⟨X, hX⟩ : ∃ X, w.heap.size = X := ⟨_, rfl⟩
  obtain ⟨Z, hZ⟩ : ∃ Z, X + 1 = Z := ⟨_, rfl⟩
  have hb1 : Below w.heap.size w W1 := by rw [← hW1]; exact two_box _ _
  have M1 : Hid (Mi w P X Z B s (some a) o RA TA rc tc W1) := Lib.hid (by
    refine ⟨?_, ?_, hR.out.below hb1, ownW hO.out (fun k cs hk => hb1.block k (at_lt hk)), ownW hT.out (fun k cs hk => hb1.block k (at_lt hk)), g_below hb1, by omega, by omega, by omega, hR.out.lt, hB⟩
    · rw [← hW1, ← hX]; exact heap_alloc2_old w _ _
    · rw [← hW1, ← hZ, ← hX]; exact heap_alloc2_new w _ _)
  have HW1 := Lib.hid hW1
  have HX := Lib.hid hX
  have HZ := Lib.hid hZ
  clear hs2 hW1 hX hZ hb1
  go_enter Tryz.func10, Tryz.ntmps10
  go_upto_region 1 with (fail)
  rw [HW1.out, HX.out, HZ.out]
  go_upto_block 0 with fail
  go_cut [12] (fun _ wc => ∃ (o' : O) (q : Option Int) (RA' TA' : Option Addr) (rc' tc' : Nat), Hid (Mi w P X Z B s q o' RA' TA' rc' tc' wc) ∧ Hid (OneR s c o a o' q) ∧ Hid (c ≠ 108 → TA' = TA ∧ tc' = tc))
  case first =>
    as_aux_lemma =>
    rcases hc with rfl | rfl | rfl | rfl | rfl | rfl | rfl | rfl | rfl | rfl
    · obtain ⟨t, q, ht⟩ : ∃ t q, rTxt s (some a) = (t, q) := ⟨_, _, rfl⟩
      have HT := Lib.hid ht
      have HOR : Hid (OneR s 116 o a { o with topic := t } q) := Lib.hid (OneR.of S.out (by simp [dkeys, readK, ht]) (fun _ => rfl))
      clear ht
      go_wp2_with (go_at_call 26; refine (in_txt P s (some a) q t _ hs HT M1.out.rd).mono ?_; rintro e w2 ⟨rfl, r2, g2⟩; have M2 := Lib.hid (M1.out.call r2 g2); have y2 := row_of (v := .string o.topic) M2.out.x (j := 1) rfl; have f2 := frozen_of_row _ _ 1 _ _ M2.out.x; clear r2 g2)
      go_meet
      exact ⟨{ o with topic := t }, q, RA, TA, rc, tc, Lib.hid (M2.out.set 1 _ rfl rfl rfl), HOR, Lib.hid (fun _ => ⟨rfl, rfl⟩)⟩
    · obtain ⟨t, q1, ht⟩ : ∃ t q, rTxt s (some a) = (t, q) := ⟨_, _, rfl⟩
      obtain ⟨n, q, hn⟩ : ∃ n q, rNum s 1099511627776 q1 = (n, q) := ⟨_, _, rfl⟩
      have HT := Lib.hid ht
      have HN := Lib.hid hn
      have HOR : Hid (OneR s 112 o a { o with topic := t, pn := (n : Int) } q) := Lib.hid (OneR.of S.out (by simp [dkeys, readK, ht, hn]) (fun _ => rfl))
      clear ht hn
      go_upto_region 11 with (go_at_call 26; refine (in_txt P s (some a) q1 t _ hs HT M1.out.rd).mono ?_; rintro e w2 ⟨rfl, r2, g2⟩; have M2 := Lib.hid (M1.out.call r2 g2); have y2 := row_of (v := .string o.topic) M2.out.x (j := 1) rfl; have f2 := frozen_of_row _ _ 1 _ _ M2.out.x; clear r2 g2)
      have M3 : Hid (Mi w P X Z B s q1 { o with topic := t } RA TA rc tc _) := Lib.hid (M2.out.set 1 (.string t) rfl rfl rfl)
      obtain ⟨w3, hw3⟩ : ∃ w3, w2.setCell ⟨X, 1, none⟩ (.string t) = w3 := ⟨_, rfl⟩
      rw [hw3] at M3 ⊢
      clear hw3 y2 f2
      go_wp2_with (go_at_call 8; refine (in_num P s q1 q n _ hsm.out HN M3.out.rd).mono ?_; rintro e w4 ⟨rfl, r4, g4⟩; have M4 := Lib.hid (M3.out.call r4 g4); have y4 := row_of (v := .int .i64 o.pn) M4.out.x (j := 2) rfl; have f4 := frozen_of_row _ _ 2 _ _ M4.out.x; clear r4 g4)
      go_meet
      exact ⟨{ o with topic := t, pn := (n : Int) }, q, RA, TA, rc, tc, Lib.hid (M4.out.set 2 _ rfl rfl rfl), HOR, Lib.hid (fun _ => ⟨rfl, rfl⟩)⟩
    · obtain ⟨n, q, hn⟩ : ∃ n q, rNum s 1099511627776 (some a) = (n, q) := ⟨_, _, rfl⟩
      have HN := Lib.hid hn
      have HOR : Hid (OneR s 110 o a { o with n := (n : Int) } q) := Lib.hid (OneR.of S.out (by simp [dkeys, readK, hn]) (fun _ => rfl))
      clear hn
      go_wp2_with (go_at_call 8; refine (in_num P s (some a) q n _ hsm.out HN M1.out.rd).mono ?_; rintro e w2 ⟨rfl, r2, g2⟩; have M2 := Lib.hid (M1.out.call r2 g2); have y2 := row_of (v := .int .i64 o.n) M2.out.x (j := 3) rfl; have f2 := frozen_of_row _ _ 3 _ _ M2.out.x; clear r2 g2)
      go_meet
      exact ⟨{ o with n := (n : Int) }, q, RA, TA, rc, tc, Lib.hid (M2.out.set 3 _ rfl rfl rfl), HOR, Lib.hid (fun _ => ⟨rfl, rfl⟩)⟩
    · obtain ⟨n, q, hn⟩ : ∃ n q, rNum s 1099511627776 (some a) = (n, q) := ⟨_, _, rfl⟩
      have HN := Lib.hid hn
      have HOR : Hid (OneR s 111 o a { o with off := (n : Int) } q) := Lib.hid (OneR.of S.out (by simp [dkeys, readK, hn]) (fun _ => rfl))
      clear hn
      go_wp2_with (go_at_call 8; refine (in_num P s (some a) q n _ hsm.out HN M1.out.rd).mono ?_; rintro e w2 ⟨rfl, r2, g2⟩; have M2 := Lib.hid (M1.out.call r2 g2); have y2 := row_of (v := .int .i64 o.off) M2.out.x (j := 4) rfl; have f2 := frozen_of_row _ _ 4 _ _ M2.out.x; clear r2 g2)
      go_meet
      exact ⟨{ o with off := (n : Int) }, q, RA, TA, rc, tc, Lib.hid (M2.out.set 4 _ rfl rfl rfl), HOR, Lib.hid (fun _ => ⟨rfl, rfl⟩)⟩
    · obtain ⟨pa, hp1, hp2⟩ := M1.out.rd
      obtain rfl := hp2 a rfl
      obtain ⟨b, ee, e2, hp⟩ : ∃ b z e, parse s pa = (b, z, e) := ⟨_, _, _, rfl⟩
      have HG := Lib.hid hp
      have hst := step_bat (p := some pa) (fun b h => Option.some.inj h) hp
      obtain ⟨q, hq⟩ : ∃ q, stepTo (some pa) ee e2 = q := ⟨_, rfl⟩
      rw [hq] at hst
      have hbz : e2 ≠ 0 → b = Bt.zero := fun h => (parse_err hp h).1
      have HOR : Hid (OneR s 98 o pa { o with bp := (b.p : Int), be := (b.e : Int), bq := (b.q : Int), recs := b.l } q) := Lib.hid (by
        have hsm2 := bat_small s (some pa)
        have hbb : (rBat s (some pa)).1 = b := by
          rw [hst]
          cases q with
          | some _ => rfl
          | none =>
            have he : e2 ≠ 0 := fun h => by simp [stepTo, h] at hq
            exact (hbz he).symm
        rw [hbb] at hsm2
        obtain ⟨s1, s2, s3, s4, s5, s6, s7⟩ := S.out
        have hf : (dkeys 98).foldl (readK s true) (o, some pa) = (if q.isSome then { o with bp := (b.p : Int), be := (b.e : Int), bq := (b.q : Int), recs := b.l } else o, q) := by
          show readK s true (o, some pa) 5 = _
          have e1 : (rBat s (some pa)).2 = q := by rw [hst]
          show ((if (rBat s (some pa)).2.isSome then { o with bp := ((rBat s (some pa)).1.p : Int), be := ((rBat s (some pa)).1.e : Int), bq := ((rBat s (some pa)).1.q : Int), recs := (rBat s (some pa)).1.l } else o), (rBat s (some pa)).2) = _
          rw [hbb, e1]
        refine ⟨⟨s1, s2, s3, hsm2.1, hsm2.2, s6, s7⟩, rfl, by rw [hf], fun hi => by rw [hf, if_pos hi], fun _ => rfl⟩)
      have HQQ := Lib.hid hq
      have HPR := Lib.hid hp1
      have x0 : W1.cell? ⟨P, 0, none⟩ = some (.string s) := row_of hp1 rfl
      have x1 : W1.cell? ⟨P, 1, none⟩ = some (.int .i64 pa) := row_of hp1 rfl
      have HS : Hid (∀ w', Below W1.heap.size W1 w' → (w'.cell? ⟨P, 0, none⟩ = some (.string s) ∧ w'.cell? ⟨P, 1, none⟩ = some (.int .i64 pa)) ∧ Below W1.heap.size W1 w') := Lib.hid (fun w' hb => ⟨⟨row_of ((hb.block _ (at_lt HPR.out)).trans HPR.out) rfl, row_of ((hb.block _ (at_lt HPR.out)).trans HPR.out) rfl⟩, hb⟩)
      clear hp hst hq hbz hp1 hp2
      go_upto_region 17 with (fail)
      go_cut [7, 8, 9] (fun s7 s8 s9 wx => ∃ (g : Nat) (A : Option Addr) (cap : Nat), s7 = .pointer (some ⟨g, 0, none⟩) ∧ s8 = .int .i64 ee ∧ s9 = .int .i64 e2 ∧ Hid (W1.heap.size ≤ g) ∧ Hid (wx.heap[g]? = some (Obj.cells #[.int .i64 b.p, .int .i64 b.e, .int .i64 b.q, .slice A b.l.length cap] 26 (0, 0))) ∧ Hid (wx.ownsRow W1.heap.size 35 4 (.slice A b.l.length cap) b.l.length (rowOf b.l)) ∧ Hid (Below W1.heap.size W1 wx))
      case first =>
        go_region_held3 (fun w' => (w'.cell? ⟨P, 0, none⟩ = some (.string s) ∧ w'.cell? ⟨P, 1, none⟩ = some (.int .i64 pa)) ∧ Below W1.heap.size W1 w')
          (first | with_reducible assumption | exact HS.out _ (Below.refl _ _).drew | exact HS.out _ (one_box _).drew | exact HB1.out | exact HS.out _ ((HB1.out.2.alloc HB1.out.2.size _)) | (refine HS.out _ ?_; repeat (first | with_reducible exact HB1.out.2 | with_reducible refine Below.drew ?_ | with_reducible refine Below.setCell ?_ (by first | (simp; omega) | simp) _ | with_reducible refine Below.alloc ?_ (by first | (simp; omega) | simp) _)))
          ((go_at_call 27; refine (rparse_any s pa b ee e2 _ hs HG).mono ?_; rintro e w1 ⟨A, cap, rfl, ho1, hb1⟩; have HB1 : Hid (_ ∧ Below W1.heap.size W1 w1) := Lib.hid (by first | exact HS.out _ ((Below.refl _ _).drew.trans hb1) | exact HS.out _ ((one_box _).drew.trans (hb1.mono (by simp)))); have HO1 := Lib.hid ho1; have HB2 := Lib.hid hb1; try (have rr := (hb1.block W1.heap.size (by simp)).trans (show _ = _ from heap_alloc_new W1 _); have RR := Lib.hid rr; have b0 := row_of (j := 0) rr rfl; have b1 := row_of (j := 1) rr rfl; have b2 := row_of (j := 2) rr rfl; have b3 := row_of (j := 3) rr rfl; have g0 := frozen_of_row _ _ 0 _ _ rr; have g1 := frozen_of_row _ _ 1 _ _ rr; have g2 := frozen_of_row _ _ 2 _ _ rr; have g3 := frozen_of_row _ _ 3 _ _ rr; clear rr); clear ho1 hb1))
        · go_wp2_with fail
          go_meet
          exact ⟨w1.heap.size, A, cap, rfl, rfl, rfl, Lib.hid HB1.out.2.size, Lib.hid (heap_alloc_new w1 _), Lib.hid (HO1.out.alloc _), Lib.hid (HB1.out.2.alloc HB1.out.2.size _)⟩
        · go_wp2_with fail
          go_meet
          refine ⟨W1.heap.size, A, cap, rfl, rfl, rfl, Lib.hid (Nat.le_refl _), Lib.hid (heap_setCell_same _ _ 3 _ _ _ (heap_setCell_same _ _ 2 _ _ _ (heap_setCell_same _ _ 1 _ _ _ (heap_setCell_same _ _ 0 _ _ _ RR.out)))), Lib.hid (own_mono (ownW HO1.out (fun k cs hk => ?_)) (by simp)), Lib.hid ?_⟩
          · have hk1 : k ≠ W1.heap.size := fun e => by rw [e, RR.out] at hk; injection hk with hk; injection hk with _ hk; exact absurd hk (by decide)
            exact (oth4 _ _ _ _).1 k hk1
          · exact (((HB1.out.2.setCell (by simp) _).setCell (by simp) _).setCell (by simp) _).setCell (by simp) _
      case rest =>
        obtain ⟨g, A, cap, rfl, rfl, rfl, HGL, HGR, HGO, HGB⟩ := hcut
        have MX := Lib.hid (M1.out.call (M1.out.rd.below HGB.out) (g_below HGB.out))
        have b0 := row_of (v := .int .i64 b.p) HGR.out (j := 0) rfl
        have b1 := row_of (v := .int .i64 b.e) HGR.out (j := 1) rfl
        have b2 := row_of (v := .int .i64 b.q) HGR.out (j := 2) rfl
        have b3 := row_of (v := .slice A b.l.length cap) HGR.out (j := 3) rfl
        have x5 := row_of (v := .int .i64 o.bp) MX.out.x (j := 5) rfl
        have x6 := row_of (v := .int .i64 o.be) MX.out.x (j := 6) rfl
        have x7 := row_of (v := .int .i64 o.bq) MX.out.x (j := 7) rfl
        have x8 := row_of (v := .slice RA o.recs.length rc) MX.out.x (j := 8) rfl
        have f5 := frozen_of_row _ _ 5 _ _ MX.out.x
        have f6 := frozen_of_row _ _ 6 _ _ MX.out.x
        have f7 := frozen_of_row _ _ 7 _ _ MX.out.x
        have f8 := frozen_of_row _ _ 8 _ _ MX.out.x
        have hpx := (HGB.out.block _ (at_lt HPR.out)).trans HPR.out
        have p1 := row_of (v := .int .i64 pa) hpx (j := 1) rfl
        have p2 := row_of (v := .bool false) hpx (j := 2) rfl
        have fp1 := frozen_of_row _ _ 1 _ _ hpx
        have fp2 := frozen_of_row _ _ 2 _ _ hpx
        clear hpx x0 x1
        by_cases h0 : e2 = 0
        · subst h0
          have hq2 : q = some ee := by rw [← HQQ.out]; rfl
          subst hq2
          go_wp2_with fail
          go_meet
          exact ⟨_, _, A, TA, cap, tc, Lib.hid (MX.out.bat (own_mono HGO.out M1.out.hB') rfl (fun c h => by cases h <;> rfl)), HOR, Lib.hid (fun _ => ⟨rfl, rfl⟩)⟩
        · have hq2 : q = none := by rw [← HQQ.out]; simp [stepTo, h0]
          subst hq2
          go_wp2_with fail
          go_meet
          exact ⟨_, _, A, TA, cap, tc, Lib.hid (MX.out.bat (own_mono HGO.out M1.out.hB') (by simp [h0]) (fun c h => by cases h <;> rfl)), HOR, Lib.hid (fun _ => ⟨rfl, rfl⟩)⟩
    · obtain ⟨t, q, ht⟩ : ∃ t q, rTxt s (some a) = (t, q) := ⟨_, _, rfl⟩
      have HT := Lib.hid ht
      have HOR : Hid (OneR s 103 o a { o with group := t } q) := Lib.hid (OneR.of S.out (by simp [dkeys, readK, ht]) (fun _ => rfl))
      clear ht
      go_wp2_with (go_at_call 26; refine (in_txt P s (some a) q t _ hs HT M1.out.rd).mono ?_; rintro e w2 ⟨rfl, r2, g2⟩; have M2 := Lib.hid (M1.out.call r2 g2); have y2 := row_of (v := .string o.group) M2.out.x (j := 9) rfl; have f2 := frozen_of_row _ _ 9 _ _ M2.out.x; clear r2 g2)
      go_meet
      exact ⟨{ o with group := t }, q, RA, TA, rc, tc, Lib.hid (M2.out.set 9 _ rfl rfl rfl), HOR, Lib.hid (fun _ => ⟨rfl, rfl⟩)⟩
    · obtain ⟨t, q, ht⟩ : ∃ t q, rTxt s (some a) = (t, q) := ⟨_, _, rfl⟩
      have HT := Lib.hid ht
      have HOR : Hid (OneR s 109 o a { o with member := t } q) := Lib.hid (OneR.of S.out (by simp [dkeys, readK, ht]) (fun _ => rfl))
      clear ht
      go_wp2_with (go_at_call 26; refine (in_txt P s (some a) q t _ hs HT M1.out.rd).mono ?_; rintro e w2 ⟨rfl, r2, g2⟩; have M2 := Lib.hid (M1.out.call r2 g2); have y2 := row_of (v := .string o.member) M2.out.x (j := 10) rfl; have f2 := frozen_of_row _ _ 10 _ _ M2.out.x; clear r2 g2)
      go_meet
      exact ⟨{ o with member := t }, q, RA, TA, rc, tc, Lib.hid (M2.out.set 10 _ rfl rfl rfl), HOR, Lib.hid (fun _ => ⟨rfl, rfl⟩)⟩
    · obtain ⟨n, q, hn⟩ : ∃ n q, rNum s 1099511627776 (some a) = (n, q) := ⟨_, _, rfl⟩
      have HN := Lib.hid hn
      have HOR : Hid (OneR s 101 o a { o with gen := (n : Int) } q) := Lib.hid (OneR.of S.out (by simp [dkeys, readK, hn]) (fun _ => rfl))
      clear hn
      go_wp2_with (go_at_call 8; refine (in_num P s (some a) q n _ hsm.out HN M1.out.rd).mono ?_; rintro e w2 ⟨rfl, r2, g2⟩; have M2 := Lib.hid (M1.out.call r2 g2); have y2 := row_of (v := .int .i64 o.gen) M2.out.x (j := 11) rfl; have f2 := frozen_of_row _ _ 11 _ _ M2.out.x; clear r2 g2)
      go_meet
      exact ⟨{ o with gen := (n : Int) }, q, RA, TA, rc, tc, Lib.hid (M2.out.set 11 _ rfl rfl rfl), HOR, Lib.hid (fun _ => ⟨rfl, rfl⟩)⟩
    · obtain ⟨n, q, hn⟩ : ∃ n q, rNum s 1099511627776 (some a) = (n, q) := ⟨_, _, rfl⟩
      have HN := Lib.hid hn
      obtain ⟨v, hv⟩ : ∃ v, ((n : Int) == 1) = v := ⟨_, rfl⟩
      have HOR : Hid (OneR s 114 o a { o with robin := v } q) := Lib.hid (OneR.of S.out (by
        have e : (n == 1) = v := (one_beq n).trans hv
        simp [dkeys, readK, hn, e]) (fun _ => rfl))
      clear hn
      go_wp2_with (go_at_call 8; refine (in_num P s (some a) q n _ hsm.out HN M1.out.rd).mono ?_; rintro e w2 ⟨rfl, r2, g2⟩; have M2 := Lib.hid (M1.out.call r2 g2); have y2 := row_of (v := .bool o.robin) M2.out.x (j := 12) rfl; have f2 := frozen_of_row _ _ 12 _ _ M2.out.x; clear r2 g2)
      go_meet
      exact ⟨{ o with robin := v }, q, RA, TA, rc, tc, Lib.hid (M2.out.set 12 _ rfl rfl rfl), HOR, Lib.hid (fun _ => ⟨rfl, rfl⟩)⟩
    · obtain ⟨i0, hi0, hiz, hi1, hi2⟩ := info_parts strInfo1
      obtain ⟨htops, hTA, htc⟩ := hl.out rfl
      subst hTA
      subst htc
      obtain ⟨n, q0, hn⟩ : ∃ n q, rNum s 1099511627776 (some a) = (n, q) := ⟨_, _, rfl⟩
      obtain ⟨N9, hN9⟩ : ∃ z, min n 9 = z := ⟨_, rfl⟩
      have HN := Lib.hid hn
      have HF : Hid ((dkeys 108).foldl (readK s true) (o, some a) = ({ o with tops := (rMany (rTxt s) q0 N9).1 }, (rMany (rTxt s) q0 N9).2)) := Lib.hid (by simp [dkeys, readK, hn, hN9])
      have hN9a : N9 ≤ n := by omega
      have hN9b : N9 ≤ 9 := by omega
      have hN9c : N9 = n ∨ N9 = 9 := by omega
      have hn40 := num_le hn
      have HTP := Lib.hid htops
      clear hn hN9 htops
      go_upto_region 3 with (go_at_call 8; refine (in_num P s (some a) q0 n _ hsm.out HN M1.out.rd).mono ?_; rintro e w2 ⟨rfl, r2, g2⟩; have M2 := Lib.hid (M1.out.call r2 g2); clear r2 g2)
      have M2' : Hid (Mi w P X Z B s (rMany (rTxt s) q0 0).2 { o with tops := (rMany (rTxt s) q0 0).1 } RA none rc 0 w2) := Lib.hid (by
        have e : ({ o with tops := (rMany (rTxt s) q0 0).1 } : O) = o := by
          show ({ o with tops := [] } : O) = o
          rw [← HTP.out]
        rw [e]
        exact M2.out)
      clear M2
      go_wp2_with fail
      go_loopw [11] (fun iv wr => ∃ (k : Nat) (A : Option Addr) (c : Nat), k ≤ N9 ∧ iv = .int .i64 k ∧ Hid (Mi w P X Z B s (rMany (rTxt s) q0 k).2 { o with tops := (rMany (rTxt s) q0 k).1 } RA A rc c wr) ∧ Hid (∀ z, (Value.slice A k c).ownBlock = some z → w.heap.size ≤ z)) (fun iv _ => N9 - (intOf iv).toNat)
      case atStart => exact ⟨0, none, 0, Nat.zero_le _, rfl, M2', Lib.hid (fun z hz => by cases hz)⟩
      case round =>
        clear M2'
        obtain ⟨k, A, c, hk, rfl, MK, HTB⟩ := hrel
        obtain ⟨pk, hpk⟩ : ∃ z, (rMany (rTxt s) q0 k).2 = z := ⟨_, rfl⟩
        rw [hpk] at MK
        have HPK := Lib.hid hpk
        have HLEN := Lib.hid (many_len (rTxt s) q0 k)
        obtain ⟨pa, hp1, hp2⟩ := MK.out.rd
        have b2 : wr.cell? ⟨P, 2, none⟩ = some (.bool pk.isNone) := row_of hp1 rfl
        have k0 : (0 : Int) ≤ (k : Int) := by omega
        have k9 : k ≤ 9 := by omega
        clear hpk hp1 hp2
        by_cases h1 : k < n
        · have h1' : (k : Int) < (n : Int) := by omega
          cases pk with
          | none =>
            have b2 : wr.cell? ⟨P, 2, none⟩ = some (.bool true) := b2
            have HOR : Hid (OneR s 108 o a { o with tops := (rMany (rTxt s) q0 k).1 } none) := Lib.hid (by
              obtain ⟨s1, s2, s3, s4, s5, s6, s7⟩ := S.out
              refine ⟨⟨s1, s2, s3, s4, s5, by dsimp only; rw [HLEN.out]; exact k9, many_each (fun p => txt_small p) _ _⟩, rfl, ?_, (fun h => by cases h), fun h => absurd rfl h⟩
              rw [HF.out]
              exact (many_stop rfl hk HPK.out).symm)
            clear h1
            go_wp2_with fail
            go_meet
            exact ⟨_, none, RA, A, rc, c, MK, HOR, Lib.hid (fun h => absurd rfl h)⟩
          | some pv =>
            have b2 : wr.cell? ⟨P, 2, none⟩ = some (.bool false) := b2
            by_cases h9 : k < 9
            · have h9' : (k : Int) < 9 := by omega
              have hkN : k < N9 := by omega
              obtain ⟨t, r, ht⟩ : ∃ t r, rTxt s (some pv) = (t, r) := ⟨_, _, rfl⟩
              have HT := Lib.hid ht
              have HNX : Hid ((rMany (rTxt s) q0 (k + 1)).1 = (rMany (rTxt s) q0 k).1 ++ [t]) := Lib.hid (by simp only [rMany]; rw [HPK.out, ht])
              have HR2 : Hid ((rMany (rTxt s) q0 (k + 1)).2 = r) := Lib.hid (by simp only [rMany]; rw [HPK.out, ht])
              have MKD : Hid (Mi w P X Z B s (some pv) { o with tops := (rMany (rTxt s) q0 k).1 } RA A rc c wr.drew) := Lib.hid ⟨MK.out.x, MK.out.z, MK.out.rd.below (Below.refl _ _).drew, ownW MK.out.rr (fun _ _ _ => rfl), ownW MK.out.tt (fun _ _ _ => rfl), ⟨MK.out.gr.os, MK.out.gr.tape, MK.out.gr.output, MK.out.gr.size, MK.out.gr.block⟩, MK.out.hX, MK.out.hZ, MK.out.ne, MK.out.hP, MK.out.hB⟩
              have RDD := Lib.hid MKD.out.rd
              have HNX2 : Hid ((Value.slice A k c).ownBlock = some X → False) := Lib.hid (fun e => by
                have htt := MK.out.tt
                dsimp only at htt
                rw [HLEN.out] at htt
                rcases htt.2 with ⟨e1, _⟩ | ⟨b, cap, cur, e1, _, hh, _⟩
                · rw [e1] at e; cases e
                · rw [e1] at e
                  have e2 : b = X := Option.some.inj e
                  rw [e2, MK.out.x] at hh; injection hh with hh; injection hh with _ hh; exact absurd hh (by decide))
              have x13 := row_of (v := .slice A k c) (j := 13) MK.out.x (by simp [opC, HLEN.out])
              have f13 := frozen_of_row _ _ 13 _ _ MK.out.x
              have ltx := at_lt MK.out.x
              clear ht h1 h9 b2
              go_upto_region 6 with (fail)
              refine wp_region_held_drew (S := fun _ => True) (by kernel_rfl) trivial (fun hHeld => ?_)
              refine wpAnyH_take (i := 0) (oi := ?o1) (v := ?v1) ?a1 (by kernel_rfl) (by kernel_rfl) (by kernel_rfl) ?q1 (Or.inl ⟨?g1, ?y1⟩) (by assumption) ?r1; (case' a1 => (simp only [List.getElem?_toArray, List.getElem?_cons_zero]; rfl)); (case' q1 => (exact fun _ _ _ h => h)); (case' g1 => rfl); (case' y1 => (intro w hSw; (try dsimp only at hSw); go_simp; try with_reducible rfl)); (case' r1 => (try simp only [Act.put, List.setIfInBounds_toArray, List.set_cons_zero, List.set_cons_succ]))
              refine wpAnyH_take (i := 2) (oi := ?o2) (v := ?v2) ?a2 (by kernel_rfl) (by kernel_rfl) (by kernel_rfl) ?q2 (Or.inl ⟨?g2, ?y2⟩) (by assumption) ?r2; (case' a2 => (simp only [List.getElem?_toArray, List.getElem?_cons_zero, List.getElem?_cons_succ]; rfl)); (case' q2 => (exact fun _ _ _ h => h)); (case' g2 => rfl); (case' y2 => (intro w hSw; (try dsimp only at hSw); go_simp; try with_reducible rfl)); (case' r2 => (try simp only [Act.put, List.setIfInBounds_toArray, List.set_cons_zero, List.set_cons_succ]))
              refine wpAnyH_ready (rs := [1, 3]) (by kernel_rfl) (by simp) ?_
              refine AllReadyH.cons (o := ?o3) ?a3 (fun K hK => ?s3) ?m3; (case' a3 => (simp only [List.getElem?_toArray, List.getElem?_cons_zero, List.getElem?_cons_succ]; rfl))
              case s3 =>
                go_simp
                refine hK.out _ _ (trivial) (fun hHeld => ?_)
                clear hK K
                (try simp only [Act.put, List.setIfInBounds_toArray, List.set_cons_zero, List.set_cons_succ])
                refine wpAnyH_ready (rs := [3]) (by kernel_rfl) (by simp) ?_
                refine AllReadyH.cons (o := ?o4) ?a4 (fun K hK => ?s4) ?m4; (case' a4 => (simp only [List.getElem?_toArray, List.getElem?_cons_zero, List.getElem?_cons_succ]; rfl))
                case s4 =>
                  go_simp
                  go_at_call 26
                  refine (in_txt P s _ r t _ hs HT RDD.out).mono ?_
                  rintro e wn ⟨rfl, rn, gn⟩
                  have MN := Lib.hid (MKD.out.call rn gn)
                  have x13n := row_of (v := .slice A k c) (j := 13) MN.out.x (by simp [opC, HLEN.out])
                  have f13n := frozen_of_row _ _ 13 _ _ MN.out.x
                  have ltn := at_lt MN.out.x
                  clear rn gn
                  go_wp2_with fail
                  refine hK.out _ _ (trivial) (fun hHeld => ?_)
                  clear hK K
                  (try simp only [Act.put, List.setIfInBounds_toArray, List.set_cons_zero, List.set_cons_succ])
                  refine wpAnyH_ready (rs := [4]) (by kernel_rfl) (by simp) ?_
                  refine AllReadyH.cons (o := ?o5) ?a5 (fun K hK => ?s5) ?m5; (case' a5 => (simp only [List.getElem?_toArray, List.getElem?_cons_zero, List.getElem?_cons_succ]; rfl))
                  case s5 =>
                    go_simp
                    refine hK.out _ _ (trivial) (fun hHeld => ?_)
                    clear hK K
                    (try simp only [Act.put, List.setIfInBounds_toArray, List.set_cons_zero, List.set_cons_succ])
                    refine wpAnyH_ready (rs := [5]) (by kernel_rfl) (by simp) ?_
                    refine AllReadyH.cons (o := ?o6) ?a6 (fun K hK => ?s6) ?m6; (case' a6 => (simp only [List.getElem?_toArray, List.getElem?_cons_zero, List.getElem?_cons_succ]; rfl))
                    case s6 =>
                      refine step_append_lies _ (by rfl) _ _ _ (by rfl) B 9 i0 _ 1 16 Tryz.underlying27 hi0 hiz hi1 hi2 rfl (by omega) (.slice A k c) k (texts (rMany (rTxt s) q0 k).1) (by rfl) ((show wn.ownsRow B 9 1 (.slice A k c) k (texts (rMany (rTxt s) q0 k).1) from (by have h := MN.out.tt; dsimp only at h; rwa [HLEN.out] at h)).alloc _) ⟨wn.heap.size, 0, none⟩ 1 1 [.string t] (by rfl) (by rfl) (World.news_of_block (cs := #[.string t]) (t := 9) (fr := (0, 0)) (heap_alloc_new wn _)) (by simp [Value.oneCell']) (by omega) (by unfold maxLen; omega) (by omega) (by have h1 := MN.out.hB; have h2 := MN.out.gr.size; simp; omega) (wn.heap.size + 1) (by simp) ?_
                      intro gg cc w6 hown6 hgrow6 hat6 hlt6
                      have HPU : Hid (Mi w P X Z B s r { o with tops := (rMany (rTxt s) q0 (k + 1)).1 } RA (some ⟨gg, 0, none⟩) rc cc (w6.setCell ⟨X, 13, none⟩ (.slice (some ⟨gg, 0, none⟩) (k + 1) cc))) := Lib.hid (MN.out.push HLEN.out (by rw [HNX.out]; simp [HLEN.out]) (by simp [opC, HNX.out, HLEN.out]) rfl (by have h := hown6; dsimp only; rw [HNX.out]; unfold texts at h ⊢; rw [List.map_append]; exact h) hgrow6 HTB.out)
                      have HTB6 : Hid (∀ z, (Value.slice (some ⟨gg, 0, none⟩) (k + 1) cc).ownBlock = some z → w.heap.size ≤ z) := Lib.hid (fun z hz => by have h0 : gg = z := Option.some.inj hz; exact hat6.elim (fun h1 => HTB.out z (by rw [h1, h0])) (fun h1 => by have h2 := MN.out.gr.size; omega))
                      have x13w : w6.cell? ⟨X, 13, none⟩ = some (.slice A k c) := (World.cell?_of_block (w := wn) (by exact (hgrow6.block X (by simp; omega) (fun e => HNX2.out e.symm)).trans (Below.heap_alloc _ _ _ ltn))).trans x13n
                      have f13w : w6.frozen? ⟨X, 13, none⟩ = false := (World.frozen?_of_block (w := wn) (by exact (hgrow6.block X (by simp; omega) (fun e => HNX2.out e.symm)).trans (Below.heap_alloc _ _ _ ltn))).trans f13n
                      refine hK.out _ _ (trivial) (fun hHeld => ?_)
                      clear hK K
                      (try simp only [Act.put, List.setIfInBounds_toArray, List.set_cons_zero, List.set_cons_succ])
                      refine wpAnyH_take (i := 6) (oi := ?o7) (v := ?v7) ?a7 (by kernel_rfl) (by kernel_rfl) (by kernel_rfl) ?q7 (Or.inl ⟨?g7, ?y7⟩) (by assumption) ?r7; (case' a7 => (simp only [List.getElem?_toArray, List.getElem?_cons_zero, List.getElem?_cons_succ]; rfl)); (case' q7 => (exact fun _ _ _ h => h)); (case' g7 => rfl); (case' y7 => (intro w hSw; (try dsimp only at hSw); go_simp; try with_reducible rfl)); (case' r7 => (try simp only [Act.put, List.setIfInBounds_toArray, List.set_cons_zero, List.set_cons_succ]))
                      refine wpAnyH_ready (rs := [7]) (by kernel_rfl) (by simp) ?_
                      refine AllReadyH.cons (o := ?o8) ?a8 (fun K hK => ?s8) ?m8; (case' a8 => (simp only [List.getElem?_toArray, List.getElem?_cons_zero, List.getElem?_cons_succ]; rfl))
                      case s8 =>
                        go_simp
                        refine hK.out _ _ (trivial) (fun hHeld => ?_)
                        clear hK K
                        (try simp only [Act.put, List.setIfInBounds_toArray, List.set_cons_zero, List.set_cons_succ])
                        refine wpAnyH_done (by kernel_rfl) ?_ _
                        go_wp2_with fail
                        go_roundw
                        case rel => exact ⟨k + 1, some ⟨gg, 0, none⟩, cc, by omega, by go_num, by rw [HR2.out]; exact HPU, HTB6⟩
                        case measure => simp [intOf]; omega
                      exact AllReadyH.nil
                    exact AllReadyH.nil
                  exact AllReadyH.nil
                exact AllReadyH.nil
              refine AllReadyH.cons (o := ?o9) ?a9 (fun K hK => ?s9) ?m9; (case' a9 => (simp only [List.getElem?_toArray, List.getElem?_cons_zero, List.getElem?_cons_succ]; rfl))
              case s9 =>
                go_simp
                go_at_call 26
                refine (in_txt P s _ r t _ hs HT RDD.out).mono ?_
                rintro e wn ⟨rfl, rn, gn⟩
                have MN := Lib.hid (MKD.out.call rn gn)
                have x13n := row_of (v := .slice A k c) (j := 13) MN.out.x (by simp [opC, HLEN.out])
                have f13n := frozen_of_row _ _ 13 _ _ MN.out.x
                have ltn := at_lt MN.out.x
                clear rn gn
                go_wp2_with fail
                refine hK.out _ _ (trivial) (fun hHeld => ?_)
                clear hK K
                (try simp only [Act.put, List.setIfInBounds_toArray, List.set_cons_zero, List.set_cons_succ])
                refine wpAnyH_ready (rs := [1, 4]) (by kernel_rfl) (by simp) ?_
                refine AllReadyH.cons (o := ?o10) ?a10 (fun K hK => ?s10) ?m10; (case' a10 => (simp only [List.getElem?_toArray, List.getElem?_cons_zero, List.getElem?_cons_succ]; rfl))
                case s10 =>
                  go_simp
                  refine hK.out _ _ (trivial) (fun hHeld => ?_)
                  clear hK K
                  (try simp only [Act.put, List.setIfInBounds_toArray, List.set_cons_zero, List.set_cons_succ])
                  refine wpAnyH_ready (rs := [4]) (by kernel_rfl) (by simp) ?_
                  refine AllReadyH.cons (o := ?o11) ?a11 (fun K hK => ?s11) ?m11; (case' a11 => (simp only [List.getElem?_toArray, List.getElem?_cons_zero, List.getElem?_cons_succ]; rfl))
                  case s11 =>
                    go_simp
                    refine hK.out _ _ (trivial) (fun hHeld => ?_)
                    clear hK K
                    (try simp only [Act.put, List.setIfInBounds_toArray, List.set_cons_zero, List.set_cons_succ])
                    refine wpAnyH_ready (rs := [5]) (by kernel_rfl) (by simp) ?_
                    refine AllReadyH.cons (o := ?o12) ?a12 (fun K hK => ?s12) ?m12; (case' a12 => (simp only [List.getElem?_toArray, List.getElem?_cons_zero, List.getElem?_cons_succ]; rfl))
                    case s12 =>
                      refine step_append_lies _ (by rfl) _ _ _ (by rfl) B 9 i0 _ 1 16 Tryz.underlying27 hi0 hiz hi1 hi2 rfl (by omega) (.slice A k c) k (texts (rMany (rTxt s) q0 k).1) (by rfl) ((show wn.ownsRow B 9 1 (.slice A k c) k (texts (rMany (rTxt s) q0 k).1) from (by have h := MN.out.tt; dsimp only at h; rwa [HLEN.out] at h)).alloc _) ⟨wn.heap.size, 0, none⟩ 1 1 [.string t] (by rfl) (by rfl) (World.news_of_block (cs := #[.string t]) (t := 9) (fr := (0, 0)) (heap_alloc_new wn _)) (by simp [Value.oneCell']) (by omega) (by unfold maxLen; omega) (by omega) (by have h1 := MN.out.hB; have h2 := MN.out.gr.size; simp; omega) (wn.heap.size + 1) (by simp) ?_
                      intro gg cc w6 hown6 hgrow6 hat6 hlt6
                      have HPU : Hid (Mi w P X Z B s r { o with tops := (rMany (rTxt s) q0 (k + 1)).1 } RA (some ⟨gg, 0, none⟩) rc cc (w6.setCell ⟨X, 13, none⟩ (.slice (some ⟨gg, 0, none⟩) (k + 1) cc))) := Lib.hid (MN.out.push HLEN.out (by rw [HNX.out]; simp [HLEN.out]) (by simp [opC, HNX.out, HLEN.out]) rfl (by have h := hown6; dsimp only; rw [HNX.out]; unfold texts at h ⊢; rw [List.map_append]; exact h) hgrow6 HTB.out)
                      have HTB6 : Hid (∀ z, (Value.slice (some ⟨gg, 0, none⟩) (k + 1) cc).ownBlock = some z → w.heap.size ≤ z) := Lib.hid (fun z hz => by have h0 : gg = z := Option.some.inj hz; exact hat6.elim (fun h1 => HTB.out z (by rw [h1, h0])) (fun h1 => by have h2 := MN.out.gr.size; omega))
                      have x13w : w6.cell? ⟨X, 13, none⟩ = some (.slice A k c) := (World.cell?_of_block (w := wn) (by exact (hgrow6.block X (by simp; omega) (fun e => HNX2.out e.symm)).trans (Below.heap_alloc _ _ _ ltn))).trans x13n
                      have f13w : w6.frozen? ⟨X, 13, none⟩ = false := (World.frozen?_of_block (w := wn) (by exact (hgrow6.block X (by simp; omega) (fun e => HNX2.out e.symm)).trans (Below.heap_alloc _ _ _ ltn))).trans f13n
                      refine hK.out _ _ (trivial) (fun hHeld => ?_)
                      clear hK K
                      (try simp only [Act.put, List.setIfInBounds_toArray, List.set_cons_zero, List.set_cons_succ])
                      refine wpAnyH_take (i := 6) (oi := ?o13) (v := ?v13) ?a13 (by kernel_rfl) (by kernel_rfl) (by kernel_rfl) ?q13 (Or.inl ⟨?g13, ?y13⟩) (by assumption) ?r13; (case' a13 => (simp only [List.getElem?_toArray, List.getElem?_cons_zero, List.getElem?_cons_succ]; rfl)); (case' q13 => (exact fun _ _ _ h => h)); (case' g13 => rfl); (case' y13 => (intro w hSw; (try dsimp only at hSw); go_simp; try with_reducible rfl)); (case' r13 => (try simp only [Act.put, List.setIfInBounds_toArray, List.set_cons_zero, List.set_cons_succ]))
                      refine wpAnyH_ready (rs := [7]) (by kernel_rfl) (by simp) ?_
                      refine AllReadyH.cons (o := ?o14) ?a14 (fun K hK => ?s14) ?m14; (case' a14 => (simp only [List.getElem?_toArray, List.getElem?_cons_zero, List.getElem?_cons_succ]; rfl))
                      case s14 =>
                        go_simp
                        refine hK.out _ _ (trivial) (fun hHeld => ?_)
                        clear hK K
                        (try simp only [Act.put, List.setIfInBounds_toArray, List.set_cons_zero, List.set_cons_succ])
                        refine wpAnyH_done (by kernel_rfl) ?_ _
                        go_wp2_with fail
                        go_roundw
                        case rel => exact ⟨k + 1, some ⟨gg, 0, none⟩, cc, by omega, by go_num, by rw [HR2.out]; exact HPU, HTB6⟩
                        case measure => simp [intOf]; omega
                      exact AllReadyH.nil
                    exact AllReadyH.nil
                  exact AllReadyH.nil
                refine AllReadyH.cons (o := ?o15) ?a15 (fun K hK => ?s15) ?m15; (case' a15 => (simp only [List.getElem?_toArray, List.getElem?_cons_zero, List.getElem?_cons_succ]; rfl))
                case s15 =>
                  go_simp
                  refine hK.out _ _ (trivial) (fun hHeld => ?_)
                  clear hK K
                  (try simp only [Act.put, List.setIfInBounds_toArray, List.set_cons_zero, List.set_cons_succ])
                  refine wpAnyH_ready (rs := [1]) (by kernel_rfl) (by simp) ?_
                  refine AllReadyH.cons (o := ?o16) ?a16 (fun K hK => ?s16) ?m16; (case' a16 => (simp only [List.getElem?_toArray, List.getElem?_cons_zero, List.getElem?_cons_succ]; rfl))
                  case s16 =>
                    go_simp
                    refine hK.out _ _ (trivial) (fun hHeld => ?_)
                    clear hK K
                    (try simp only [Act.put, List.setIfInBounds_toArray, List.set_cons_zero, List.set_cons_succ])
                    refine wpAnyH_ready (rs := [5]) (by kernel_rfl) (by simp) ?_
                    refine AllReadyH.cons (o := ?o17) ?a17 (fun K hK => ?s17) ?m17; (case' a17 => (simp only [List.getElem?_toArray, List.getElem?_cons_zero, List.getElem?_cons_succ]; rfl))
                    case s17 =>
                      refine step_append_lies _ (by rfl) _ _ _ (by rfl) B 9 i0 _ 1 16 Tryz.underlying27 hi0 hiz hi1 hi2 rfl (by omega) (.slice A k c) k (texts (rMany (rTxt s) q0 k).1) (by rfl) ((show wn.ownsRow B 9 1 (.slice A k c) k (texts (rMany (rTxt s) q0 k).1) from (by have h := MN.out.tt; dsimp only at h; rwa [HLEN.out] at h)).alloc _) ⟨wn.heap.size, 0, none⟩ 1 1 [.string t] (by rfl) (by rfl) (World.news_of_block (cs := #[.string t]) (t := 9) (fr := (0, 0)) (heap_alloc_new wn _)) (by simp [Value.oneCell']) (by omega) (by unfold maxLen; omega) (by omega) (by have h1 := MN.out.hB; have h2 := MN.out.gr.size; simp; omega) (wn.heap.size + 1) (by simp) ?_
                      intro gg cc w6 hown6 hgrow6 hat6 hlt6
                      have HPU : Hid (Mi w P X Z B s r { o with tops := (rMany (rTxt s) q0 (k + 1)).1 } RA (some ⟨gg, 0, none⟩) rc cc (w6.setCell ⟨X, 13, none⟩ (.slice (some ⟨gg, 0, none⟩) (k + 1) cc))) := Lib.hid (MN.out.push HLEN.out (by rw [HNX.out]; simp [HLEN.out]) (by simp [opC, HNX.out, HLEN.out]) rfl (by have h := hown6; dsimp only; rw [HNX.out]; unfold texts at h ⊢; rw [List.map_append]; exact h) hgrow6 HTB.out)
                      have HTB6 : Hid (∀ z, (Value.slice (some ⟨gg, 0, none⟩) (k + 1) cc).ownBlock = some z → w.heap.size ≤ z) := Lib.hid (fun z hz => by have h0 : gg = z := Option.some.inj hz; exact hat6.elim (fun h1 => HTB.out z (by rw [h1, h0])) (fun h1 => by have h2 := MN.out.gr.size; omega))
                      have x13w : w6.cell? ⟨X, 13, none⟩ = some (.slice A k c) := (World.cell?_of_block (w := wn) (by exact (hgrow6.block X (by simp; omega) (fun e => HNX2.out e.symm)).trans (Below.heap_alloc _ _ _ ltn))).trans x13n
                      have f13w : w6.frozen? ⟨X, 13, none⟩ = false := (World.frozen?_of_block (w := wn) (by exact (hgrow6.block X (by simp; omega) (fun e => HNX2.out e.symm)).trans (Below.heap_alloc _ _ _ ltn))).trans f13n
                      refine hK.out _ _ (trivial) (fun hHeld => ?_)
                      clear hK K
                      (try simp only [Act.put, List.setIfInBounds_toArray, List.set_cons_zero, List.set_cons_succ])
                      refine wpAnyH_take (i := 6) (oi := ?o18) (v := ?v18) ?a18 (by kernel_rfl) (by kernel_rfl) (by kernel_rfl) ?q18 (Or.inl ⟨?g18, ?y18⟩) (by assumption) ?r18; (case' a18 => (simp only [List.getElem?_toArray, List.getElem?_cons_zero, List.getElem?_cons_succ]; rfl)); (case' q18 => (exact fun _ _ _ h => h)); (case' g18 => rfl); (case' y18 => (intro w hSw; (try dsimp only at hSw); go_simp; try with_reducible rfl)); (case' r18 => (try simp only [Act.put, List.setIfInBounds_toArray, List.set_cons_zero, List.set_cons_succ]))
                      refine wpAnyH_ready (rs := [7]) (by kernel_rfl) (by simp) ?_
                      refine AllReadyH.cons (o := ?o19) ?a19 (fun K hK => ?s19) ?m19; (case' a19 => (simp only [List.getElem?_toArray, List.getElem?_cons_zero, List.getElem?_cons_succ]; rfl))
                      case s19 =>
                        go_simp
                        refine hK.out _ _ (trivial) (fun hHeld => ?_)
                        clear hK K
                        (try simp only [Act.put, List.setIfInBounds_toArray, List.set_cons_zero, List.set_cons_succ])
                        refine wpAnyH_done (by kernel_rfl) ?_ _
                        go_wp2_with fail
                        go_roundw
                        case rel => exact ⟨k + 1, some ⟨gg, 0, none⟩, cc, by omega, by go_num, by rw [HR2.out]; exact HPU, HTB6⟩
                        case measure => simp [intOf]; omega
                      exact AllReadyH.nil
                    exact AllReadyH.nil
                  exact AllReadyH.nil
                exact AllReadyH.nil
              exact AllReadyH.nil
            · have h9' : ¬ (k : Int) < 9 := by omega
              obtain rfl : k = N9 := by omega
              have HOR : Hid (OneR s 108 o a { o with tops := (rMany (rTxt s) q0 k).1 } (some pv)) := Lib.hid (OneR.of S.out (by rw [HF.out, HPK.out]) (fun h => absurd rfl h))
              clear h1 h9
              go_wp2_with fail
              go_meet
              exact ⟨_, some pv, RA, A, rc, c, MK, HOR, Lib.hid (fun h => absurd rfl h)⟩
        · have h1' : ¬ (k : Int) < (n : Int) := by omega
          obtain rfl : k = N9 := by omega
          have HOR : Hid (OneR s 108 o a { o with tops := (rMany (rTxt s) q0 k).1 } pk) := Lib.hid (OneR.of S.out (by rw [HF.out, HPK.out]) (fun h => absurd rfl h))
          clear h1
          go_wp2_with fail
          go_meet
          exact ⟨_, pk, RA, A, rc, c, MK, HOR, Lib.hid (fun h => absurd rfl h)⟩
  case rest =>
    obtain ⟨o2, q, RA2, TA2, rc2, tc2, MC, HOR, HTT⟩ := hcut
    have x0 := row_of (v := .int .i64 o2.kind) MC.out.x (j := 0) rfl
    have x1 := row_of (v := .string o2.topic) MC.out.x (j := 1) rfl
    have x2 := row_of (v := .int .i64 o2.pn) MC.out.x (j := 2) rfl
    have x3 := row_of (v := .int .i64 o2.n) MC.out.x (j := 3) rfl
    have x4 := row_of (v := .int .i64 o2.off) MC.out.x (j := 4) rfl
    have x5 := row_of (v := .int .i64 o2.bp) MC.out.x (j := 5) rfl
    have x6 := row_of (v := .int .i64 o2.be) MC.out.x (j := 6) rfl
    have x7 := row_of (v := .int .i64 o2.bq) MC.out.x (j := 7) rfl
    have x8 := row_of (v := .slice RA2 o2.recs.length rc2) MC.out.x (j := 8) rfl
    have x9 := row_of (v := .string o2.group) MC.out.x (j := 9) rfl
    have x10 := row_of (v := .string o2.member) MC.out.x (j := 10) rfl
    have x11 := row_of (v := .int .i64 o2.gen) MC.out.x (j := 11) rfl
    have x12 := row_of (v := .bool o2.robin) MC.out.x (j := 12) rfl
    have x13 := row_of (v := .slice TA2 o2.tops.length tc2) MC.out.x (j := 13) rfl
    have z0 := row_of (v := .int .i64 0) MC.out.z (j := 0) rfl
    have fz0 := frozen_of_row _ _ 0 _ _ MC.out.z
    have z1 := row_of (v := .string ⟨#[]⟩) MC.out.z (j := 1) rfl
    have fz1 := frozen_of_row _ _ 1 _ _ MC.out.z
    have z2 := row_of (v := .int .i64 0) MC.out.z (j := 2) rfl
    have fz2 := frozen_of_row _ _ 2 _ _ MC.out.z
    have z3 := row_of (v := .int .i64 0) MC.out.z (j := 3) rfl
    have fz3 := frozen_of_row _ _ 3 _ _ MC.out.z
    have z4 := row_of (v := .int .i64 0) MC.out.z (j := 4) rfl
    have fz4 := frozen_of_row _ _ 4 _ _ MC.out.z
    have z5 := row_of (v := .int .i64 0) MC.out.z (j := 5) rfl
    have fz5 := frozen_of_row _ _ 5 _ _ MC.out.z
    have z6 := row_of (v := .int .i64 0) MC.out.z (j := 6) rfl
    have fz6 := frozen_of_row _ _ 6 _ _ MC.out.z
    have z7 := row_of (v := .int .i64 0) MC.out.z (j := 7) rfl
    have fz7 := frozen_of_row _ _ 7 _ _ MC.out.z
    have z8 := row_of (v := .slice none 0 0) MC.out.z (j := 8) rfl
    have fz8 := frozen_of_row _ _ 8 _ _ MC.out.z
    have z9 := row_of (v := .string ⟨#[]⟩) MC.out.z (j := 9) rfl
    have fz9 := frozen_of_row _ _ 9 _ _ MC.out.z
    have z10 := row_of (v := .string ⟨#[]⟩) MC.out.z (j := 10) rfl
    have fz10 := frozen_of_row _ _ 10 _ _ MC.out.z
    have z11 := row_of (v := .int .i64 0) MC.out.z (j := 11) rfl
    have fz11 := frozen_of_row _ _ 11 _ _ MC.out.z
    have z12 := row_of (v := .bool false) MC.out.z (j := 12) rfl
    have fz12 := frozen_of_row _ _ 12 _ _ MC.out.z
    have z13 := row_of (v := .slice none 0 0) MC.out.z (j := 13) rfl
    have fz13 := frozen_of_row _ _ 13 _ _ MC.out.z
    clear hc
    have HZB : Hid (w.heap.size ≤ Z ∧ Z ≠ P) := Lib.hid ⟨MC.out.hZ, by have := MC.out.hZ; have := MC.out.hP; omega⟩
    have HRZ : Hid (wc.heap[Z]? = some (Obj.cells #[.int .i64 0, .string ⟨#[]⟩, .int .i64 0, .int .i64 0, .int .i64 0, .int .i64 0, .int .i64 0, .int .i64 0, .slice none 0 0, .string ⟨#[]⟩, .string ⟨#[]⟩, .int .i64 0, .bool false, .slice none 0 0] 29 (0, 0))) := Lib.hid MC.out.z
    go_wp2_with fail
    refine bodyPost_ret (v := .agg #[.int .i64 o2.kind, .string o2.topic, .int .i64 o2.pn, .int .i64 o2.n, .int .i64 o2.off, .int .i64 o2.bp, .int .i64 o2.be, .int .i64 o2.bq, .slice RA2 o2.recs.length rc2, .string o2.group, .string o2.member, .int .i64 o2.gen, .bool o2.robin, .slice TA2 o2.tops.length tc2]) (results_cell_row (p := 6) (ty := 29) Tryz.results10 _ _ Z 29 #[.int .i64 o2.kind, .string o2.topic, .int .i64 o2.pn, .int .i64 o2.n, .int .i64 o2.off, .int .i64 o2.bp, .int .i64 o2.be, .int .i64 o2.bq, .slice RA2 o2.recs.length rc2, .string o2.group, .string o2.member, .int .i64 o2.gen, .bool o2.robin, .slice TA2 o2.tops.length tc2] (0, 0) _ rfl ?row1 Tryz.underlying29 rfl (by kernel_rfl)) rfl ?_
    case row1 => exact set14 HRZ.out
    obtain ⟨e1, e2, e3, e4⟩ := MC.out.fin (oth14 _ _ _ _ _ _ _ _ _ _ _ _ _ _)
    exact ⟨o2, q, RA2, TA2, rc2, tc2, rfl, e1, e2, e3, e4, HOR.out, HTT.out⟩
end Go.Proofs.YtijofikpdhapoaaGreat.L4
