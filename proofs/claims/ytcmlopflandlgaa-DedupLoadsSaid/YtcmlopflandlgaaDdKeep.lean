/-
  Contracts: batches in the place of those that are remembered; a new producer.
-/
import Derived.Test.YtcmlopflandlgaaDdClone
namespace Go.Proofs.Ytcmlopflandlgaa.L8
open Go.RowKit
open Go.Maps
open L3 L4

section
variable {w w' : World} {g cap b N : Nat} {A : Option Addr} {es : List Int} {ms ms' : List Mk}
theorem store_run8 (h : IsTab w b N ms) (hN : N < maxLen) (hK : Keys ms) (m : Mk) (hi : (Lit.int .i64 m.id).wf = true) (ht : m.t.size ≤ maxLen) (hp : (Lit.int .i64 m.p).wf = true) (X : Option Addr) (n c : Nat) (hn : n = m.l.length) (hR : RowC w X c m.l)
    (hm' : ∀ x, x ∈ ms' ↔ x = m ∨ (x ∈ ms ∧ ¬ Same x m)) :
    ∃ U : World → World, ∀ W', Below w.heap.size w W' → (Instr.mapUpdate 63 (.map (some b)) (.agg #[.int .i64 m.id, .string m.t, .int .i64 m.p]) (.slice X n c)).run Try.prog W' = .ok () (U W') ∧ IsTab (U W') b (N + 1) ms' ∧ W'.mapTurned (U W') b := by
  refine Classical.axiomOfChoice (r := fun (W' w' : World) => Below w.heap.size w W' → (Instr.mapUpdate 63 (.map (some b)) (.agg #[.int .i64 m.id, .string m.t, .int .i64 m.p]) (.slice X n c)).run Try.prog W' = .ok () w' ∧ IsTab w' b (N + 1) ms' ∧ W'.mapTurned w' b) (fun W' => ?_)
  by_cases hB : Below w.heap.size w W'
  · obtain ⟨w', h1, h2, h3⟩ := (h.below hB).store hN hK m hi ht hp X n c hn (hR.below hB) hm' _ _ Try.underlying63
    exact ⟨w', fun _ => ⟨h1, h2, h3⟩⟩
  · exact ⟨W', fun q => absurd q hB⟩
/-- a table of which the map alone was turned -/
theorem Tab.turned (h : Tab w g A cap b N es ms) {N' : Nat} (hg : w.grownBy w' (some b)) (hm : IsTab w' b N' ms') : Tab w' g A cap b N' es ms' :=
  ⟨(hg.block g h.lt (fun e => h.gb (by injection e))).trans h.row, own_at h.own (fun k e => hg.block k (h.own.lt k e).2 (fun q => by
    injection q with q; subst q
    exact h.bA (by rw [blk_own] at e; exact mem_bk.2 e))), hm⟩
end

theorem part_box {w w1 : World} {t : ByteArray} {p : Int} {B : Nat} (hb : Below B (w.alloc (.cells #[.string t, .int .i64 p] 31)) w1) (hB : w.heap.size < B) :
    w1.heap[w.heap.size]? = some (.cells #[.string t, .int .i64 p] 31 (0, 0)) ∧ w1.frozen? ⟨w.heap.size, 0, none⟩ = false ∧ w1.cell? ⟨w.heap.size, 0, none⟩ = some (.string t) := by
  have h := (hb.block w.heap.size hB).trans (heap_alloc_new w _)
  exact ⟨h, frozen_of_row w1 w.heap.size 0 _ _ h, (cell_of_row _ _ 0 _ _ _ h).trans rfl⟩
set_option maxRecDepth 100000 in
set_option maxHeartbeats 4000000 in
theorem keep_is {w : World} {g cap b N : Nat} {A : Option Addr} {es : List Int} {ms ms' : List Mk} (id ep p : Int) (t : ByteArray) (X : Option Addr) (n c : Nat) (l : List Did) (h : Hid (Tab w g A cap b N es ms)) (hN : N ≤ 1000000) (hK : Hid (Keys ms)) (hi : (Lit.int .i64 id).wf = true) (ht : t.size ≤ 281474976710656) (hp : (Lit.int .i64 p).wf = true)
    (hn : Hid (n = l.length)) (hR : Hid (RowC w X c l)) (hm' : Hid (∀ x, x ∈ ms' ↔ x = ⟨id, ep, t, p, l⟩ ∨ (x ∈ ms ∧ ¬ Same x ⟨id, ep, t, p, l⟩))) :
    Calls Try.prog 32 #[.pointer (some ⟨g, 0, none⟩), .int .i64 id, .agg #[.string t, .int .i64 p], .slice X n c] w fun e w' => e = .returned (.tuple #[]) ∧ Tab w' g A cap b (N + 1) es ms' ∧ Only [b] w w' := by
  have HI := Lib.hid hi
  have HP := Lib.hid hp
  clear hi hp
  go_enter Try.func32, Try.ntmps32
  go_wp2_with (go_at_call 45; refine (clone_any t _ ht).mono ?_; rintro e w1 ⟨rfl, hb1⟩; obtain ⟨r1, f0, d0⟩ := part_box hb1 (by simp); have R1 := Lib.hid r1; clear r1; have HB1 := Lib.hid hb1; clear hb1)
  obtain ⟨W1, hW1⟩ : ∃ W1, w1.setCell ⟨w.heap.size, 0, none⟩ (.string t) = W1 := ⟨_, rfl⟩
  have r2 := heap_setCell_same w1 w.heap.size 0 _ _ (.string t) R1.out
  have hb2 : Below w.heap.size w (w1.setCell ⟨w.heap.size, 0, none⟩ (.string t)) := ((one_box' _).trans (HB1.out.mono (by simp))).setCell (Nat.le_refl _) _
  rw [hW1] at r2 hb2 ⊢
  have k0 : W1.cell? ⟨w.heap.size, 0, none⟩ = some (.string t) := (cell_of_row _ _ 0 _ _ _ r2).trans rfl
  have k1 : W1.cell? ⟨w.heap.size, 1, none⟩ = some (.int .i64 p) := (cell_of_row _ _ 1 _ _ _ r2).trans rfl
  have HT := Lib.hid (h.out.below hb2)
  have c1 := HT.out.c1
  obtain ⟨U, hU⟩ := store_run8 (ms' := ms') HT.out.map (by unfold maxLen; omega) hK.out ⟨id, ep, t, p, l⟩ HI.out (by show t.size ≤ maxLen; unfold maxLen; omega) HP.out X n c hn.out (hR.out.below hb2) hm'.out
  have HU := Lib.hid hU
  have HB2 := Lib.hid hb2
  have hb0 : ∀ q, Below W1.heap.size W1 (W1.drewN q) := fun q => drewN_below (Below.refl _ _) q
  have u1 := (hU W1.drew (hb0 1)).1
  have u2 := (hU W1.drew.drew (hb0 2)).1
  have u3 := (hU W1.drew.drew.drew (hb0 3)).1
  dsimp only at u1 u2 u3
  clear hU r2 hW1 hb2 hb0 d0 f0
  go_region
  go_end0
  have fin : ∀ W', Below W1.heap.size W1 W' → Tab (U W') g A cap b (N + 1) es ms' ∧ Only [b] w (U W') := fun W' hb => by
    obtain ⟨_, q2, q3⟩ := HU.out W' hb
    exact ⟨(HT.out.below hb).turned q3.grown q2, (Only.ofBelow (HB2.out.trans (hb.mono HB2.out.size))).grown q3.grown (fun k e => .inl (by injection e with e; simp [e]))⟩
  first
    | exact ⟨rfl, fin _ (drewN_below (Below.refl _ _) 1)⟩
    | exact ⟨rfl, fin _ (drewN_below (Below.refl _ _) 2)⟩
    | exact ⟨rfl, fin _ (drewN_below (Below.refl _ _) 3)⟩
end Go.Proofs.Ytcmlopflandlgaa.L8
