/-
  Contracts: the order of marks.
-/
import Derived.Test.YtcpfihagcmadcaaOfPut
import Derived.Test.YtcpfihagcmadcaaOfShelf
namespace Go.Proofs.Ytcpfihagcmadcaa.L12
open Go.RowKit
open Go.Maps
open L3 L4
open L8 (cT cT_refl cT_eq cT_swap cT_trans ci_lt ci_zero)

/-- a world that is another one, behind draws and new blocks -/
def GF (W w' : World) : Prop := ∃ q os, w' = Go.Sort.grow (W.drewN q) os
theorem GF.refl (W : World) : GF W W := ⟨0, #[], by rw [Go.Sort.grow_empty]; rfl⟩
theorem GF.drew {W w : World} (h : GF W w) : GF W w.drew := by
  obtain ⟨q, os, rfl⟩ := h
  exact ⟨q + 1, os, rfl⟩
theorem GF.alloc {W w : World} (h : GF W w) (o : Obj) : GF W (w.alloc o) := by
  obtain ⟨q, os, rfl⟩ := h
  exact ⟨q, os ++ #[o], by rw [Go.Sort.alloc_eq_grow, Go.Sort.grow_grow]⟩
theorem GF.below {W w : World} (h : GF W w) : Below W.heap.size W w := by
  obtain ⟨q, os, rfl⟩ := h
  exact ⟨rfl, rfl, rfl, by simp [Go.Sort.grow, World.drewN], fun k hk => Go.Sort.heap_grow_old _ _ (by simpa [World.drewN] using hk)⟩
/-- the first number that isn't 0 -/
def orP (xs : List Int) : Int := (xs.find? (fun x => decide (x ≠ 0))).getD 0
theorem orP_next {xs : List Int} {k : Nat} {x : Int} (h : xs[k]? = some x) : orP (xs.drop k) = if x ≠ 0 then x else orP (xs.drop (k + 1)) := by
  obtain ⟨hlt, hl⟩ := List.getElem?_eq_some_iff.1 h
  unfold orP
  rw [List.drop_eq_getElem_cons hlt, hl, List.find?_cons]
  by_cases hx : x ≠ 0
  · rw [if_pos hx]; simp [hx]
  · rw [if_neg hx]; simp [hx]
set_option maxRecDepth 100000 in
set_option maxHeartbeats 1000000 in
theorem or_is (q L cap : Nat) (xs : List Int) (r : Int) (w : World) (hL : Hid (xs.length = L)) (hL1 : L ≤ 100) (HC : Hid (∀ (k : Nat) x, xs[k]? = some x → w.cell? ⟨q, k, none⟩ = some (.int .i64 x))) (HR : Hid (orP xs = r)) :
    Calls Try.prog 39 #[.slice (some ⟨q, 0, none⟩) L cap] w fun e w' => e = .returned (.int .i64 r) ∧ w = w' := by
  go_enter Try.func39, Try.ntmps39
  go_wp2_with fail
  go_loopw [8] (fun i wr => ∃ k : Nat, k ≤ L ∧ i = .int .i64 k ∧ Hid (orP (xs.drop k) = r) ∧ w = wr) (fun i _ => L - (intOf i).toNat)
  case atStart => exact ⟨0, by omega, rfl, Lib.hid (by simpa using HR.out), rfl⟩
  case round =>
    obtain ⟨k, hk, rfl, HK, rfl⟩ := hrel
    by_cases hlt : k < L
    · obtain ⟨x, hx⟩ : ∃ x, xs[k]? = some x := ⟨_, List.getElem?_eq_getElem (by rw [hL.out]; omega)⟩
      have c0 := HC.out k x hx
      have hnx := orP_next hx
      rw [HK.out] at hnx
      have HNX := Lib.hid hnx
      have k0 : (0 : Int) ≤ (k : Int) := by omega
      have k1 : (k : Int) < (L : Int) := by omega
      clear hx hnx
      by_cases hz : x = 0
      · have z1 : (x != 0) = false := by simpa using hz
        have HF : Hid (orP (xs.drop (k + 1)) = r) := Lib.hid (by have e := HNX.out; rw [if_neg (by simpa using hz)] at e; exact e.symm)
        clear HNX hz
        go_wp2_with fail
        go_roundw
        case rel => exact ⟨k + 1, by omega, by go_num, HF, by trivial⟩
        case measure => simp [intOf]; omega
      · have z1 : (x != 0) = true := by simpa using hz
        obtain rfl : r = x := by have e := HNX.out; rwa [if_pos hz] at e
        clear HNX hz
        go_wp2_with fail
        go_ret
        exact ⟨rfl, by trivial⟩
    · obtain rfl : k = L := by omega
      obtain rfl : r = 0 := by have e := HK.out; rw [List.drop_of_length_le (by rw [hL.out]; exact Nat.le_refl _)] at e; exact e.symm
      go_wp2_with fail
      go_ret
      exact ⟨rfl, by trivial⟩
theorem or_three (a b : Mr) : orP [cT a.g b.g, cT a.t b.t, Lib.compareInt a.p b.p] = ordR a b := by
  unfold orP ordR
  by_cases h1 : cT a.g b.g = 0
  · by_cases h2 : cT a.t b.t = 0
    · by_cases h3 : Lib.compareInt a.p b.p = 0 <;> simp [h1, h2, h3]
    · simp [h1, h2]
  · simp [h1]
section
variable {W w1 w2 : World} {a1 a2 a3 a4 a5 a6 : Addr} {v1 v2 v3 v4 v5 v6 : Value}
theorem keep6g (h : (w1.cell? a1 = some v1 ∧ w1.cell? a2 = some v2 ∧ w1.cell? a3 = some v3 ∧ w1.cell? a4 = some v4 ∧ w1.cell? a5 = some v5 ∧ w1.cell? a6 = some v6) ∧ GF W w1) (hb : Below w1.heap.size w1 w2) (hg : GF W w2) :
    (w2.cell? a1 = some v1 ∧ w2.cell? a2 = some v2 ∧ w2.cell? a3 = some v3 ∧ w2.cell? a4 = some v4 ∧ w2.cell? a5 = some v5 ∧ w2.cell? a6 = some v6) ∧ GF W w2 := by
  obtain ⟨⟨h1, h2, h3, h4, h5, h6⟩, _⟩ := h
  exact ⟨⟨cell_at hb h1, cell_at hb h2, cell_at hb h3, cell_at hb h4, cell_at hb h5, cell_at hb h6⟩, hg⟩
end
theorem two_boxes {w : World} {o1 o2 : Array Value} {T1 T2 : TypeId} :
    let W := (w.alloc (.cells o1 T1)).alloc (.cells o2 T2)
    GF w W ∧ W.heap[w.heap.size]? = some (.cells o1 T1 (0, 0)) ∧ W.heap[w.heap.size + 1]? = some (.cells o2 T2 (0, 0)) := by
  intro W
  have e1 : (w.alloc (.cells o1 T1)).heap.size = w.heap.size + 1 := by simp
  refine ⟨((GF.refl _).alloc _).alloc _, (Below.heap_alloc _ _ _ (by omega)).trans (heap_alloc_new _ _), ?_⟩
  rw [← e1]; exact heap_alloc_new _ _
theorem three_cells {V : World} {q : Nat} {r1 r2 r3 : Int} (h : V.heap[q]? = some (.cells #[.int .i64 r1, .int .i64 r2, .int .i64 r3] 3 (0, 0))) : ∀ (k : Nat) x, [r1, r2, r3][k]? = some x → V.cell? ⟨q, k, none⟩ = some (.int .i64 x) := fun k x hx => by
  match k, hx with
  | 0, hx => simp at hx; subst hx; exact (cell_of_row _ _ 0 _ _ _ h).trans rfl
  | 1, hx => simp at hx; subst hx; exact (cell_of_row _ _ 1 _ _ _ h).trans rfl
  | 2, hx => simp at hx; subst hx; exact (cell_of_row _ _ 2 _ _ _ h).trans rfl
  | k + 3, hx => simp at hx
theorem row_alloc3 (w : World) (r1 r2 r3 : Int) : (w.alloc (.cells #[.int .i64 r1, .int .i64 r2, .int .i64 r3] 3)).drew.heap[w.heap.size]? = some (.cells #[.int .i64 r1, .int .i64 r2, .int .i64 r3] 3 (0, 0)) := by
  show (w.alloc _).heap[w.heap.size]? = _
  exact heap_alloc_new _ _

set_option maxRecDepth 100000 in
set_option maxHeartbeats 4000000 in
theorem order_is (a b : Mr) (r : Int) (w : World) (HR : Hid (ordR a b = r)) :
    Calls Try.prog 29 #[.agg (mkC a).toArray, .agg (mkC b).toArray] w fun e w' => e = .returned (.int .i64 r) ∧ GF w w' := by
  obtain ⟨ag, at_, ap, ao⟩ := a
  obtain ⟨bg, bt, bp, bo⟩ := b
  obtain ⟨r1, h1⟩ : ∃ r1, Lib.compareBytes ag.data.toList bg.data.toList = r1 := ⟨_, rfl⟩
  obtain ⟨r2, h2⟩ : ∃ r2, Lib.compareBytes at_.data.toList bt.data.toList = r2 := ⟨_, rfl⟩
  obtain ⟨r3, h3⟩ : ∃ r3, Lib.compareInt ap bp = r3 := ⟨_, rfl⟩
  have HO : Hid (orP [r1, r2, r3] = r) := Lib.hid (by rw [← HR.out, ← or_three, ← h1, ← h2, ← h3]; rfl)
  have hc1 := fun W => Try.strings_Compare ag bg W
  have hc2 := fun W => Try.strings_Compare at_ bt W
  have hc3 := fun W => Try.cmp_Compare_int ap bp W
  rw [h1] at hc1
  rw [h2] at hc2
  rw [h3] at hc3
  clear h1 h2 h3 HR
  obtain ⟨W, hW⟩ : ∃ W, (w.alloc (.cells #[.string ag, .string at_, .int .i64 ap, .int .i64 ao] 32)).alloc (.cells #[.string bg, .string bt, .int .i64 bp, .int .i64 bo] 32) = W := ⟨_, rfl⟩
  obtain ⟨hg, q1, q2⟩ : GF w W ∧ W.heap[w.heap.size]? = some (.cells #[.string ag, .string at_, .int .i64 ap, .int .i64 ao] 32 (0, 0)) ∧ W.heap[w.heap.size + 1]? = some (.cells #[.string bg, .string bt, .int .i64 bp, .int .i64 bo] 32 (0, 0)) := by
    rw [← hW]; exact two_boxes
  obtain ⟨a0, a2, a3, _⟩ := row4 q1
  obtain ⟨b0, b2, b3, _⟩ := row4 q2
  have HW := Lib.hid hW
  dsimp only [mkC]
  clear hW q1 q2
  show Calls _ _ #[.agg #[.string ag, .string at_, .int .i64 ap, .int .i64 ao], .agg #[.string bg, .string bt, .int .i64 bp, .int .i64 bo]] _ _
  go_enter Try.func29, Try.ntmps29
  go_upto_region 1 with (fail)
  rw [HW.out]
  go_region_held3 (fun w' => (w'.cell? ⟨w.heap.size, 0, none⟩ = some (.string ag) ∧ w'.cell? ⟨w.heap.size, 1, none⟩ = some (.string at_) ∧ w'.cell? ⟨w.heap.size, 2, none⟩ = some (.int .i64 ap) ∧ w'.cell? ⟨w.heap.size + 1, 0, none⟩ = some (.string bg) ∧ w'.cell? ⟨w.heap.size + 1, 1, none⟩ = some (.string bt) ∧ w'.cell? ⟨w.heap.size + 1, 2, none⟩ = some (.int .i64 bp)) ∧ GF w w')
    (first | assumption | exact ⟨⟨a0, a2, a3, b0, b2, b3⟩, hg⟩ | exact ⟨⟨a0, a2, a3, b0, b2, b3⟩, hg.drew⟩ | exact keep6g (by assumption) ((Below.refl _ _).drew) (GF.drew (And.right (by assumption))) | exact keep6g (by assumption) (one_box' _) (GF.alloc (And.right (by assumption)) _) | exact keep6g (by assumption) ((one_box' _).drew) (GF.drew (GF.alloc (And.right (by assumption)) _)))
    (first
      | (go_at_call 40; (first | (with_reducible refine (hc1 _).mono ?_) | (with_reducible refine (hc2 _).mono ?_)); rintro e w1 ⟨rfl, rfl⟩)
      | (go_at_call 41; refine (hc3 _).mono ?_; rintro e w1 ⟨rfl, rfl⟩)
      | (go_at_call 39; refine (or_is _ 3 3 [r1, r2, r3] r _ (Lib.hid rfl) (by omega) (Lib.hid (three_cells (row_alloc3 _ _ _ _))) HO).mono ?_; rintro e w1 ⟨rfl, rfl⟩))
  all_goals
    have hh := And.right (b := GF w _) (by assumption)
    clear a0 a2 a3 b0 b2 b3 hg
    go_wp2_with fail
    go_ret
    exact ⟨rfl, hh⟩
end Go.Proofs.Ytcpfihagcmadcaa.L12
