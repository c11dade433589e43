/-
  Contracts: a joiner takes a chunk.
-/
import Derived.Test.YtlemcijgjebekaaChMem
import Derived.Test.YtlemcijgjebekaaChPut
namespace Go.Proofs.Ytlemcijgjebekaa.L7
open Go.RowKit
open Go.Maps
open L3 L4 L5

set_option maxRecDepth 100000 in
set_option maxHeartbeats 1000000 in
theorem new_any (d : Nat) (w : World) :
    Calls Try.prog 50 #[.int .u64 d] w fun e w' => ∃ g bm, e = .returned (.pointer (some ⟨g, 0, none⟩)) ∧ Jn w' g bm d [] ∧ w.heap.size ≤ g ∧ w.heap.size ≤ bm ∧ Below w.heap.size w w' := by
  have hmm := @run_makeMap Try.prog
  go_enter Try.func50, Try.ntmps50
  go_wp2_with fail
  go_ret
  refine ⟨w.heap.size + 1, w.heap.size, rfl, ⟨?_, (IsHas.made w).at (Below.heap_alloc _ _ _ (by simp))⟩, by omega, Nat.le_refl _, two_box _ _⟩
  have := heap_alloc_new (w.alloc (.map #[] 0)) (.cells #[.int .u64 d, .int .i64 0, .map (some w.heap.size)] 162)
  simp only [World.size_alloc] at this
  exact this
set_option maxRecDepth 100000 in
set_option maxHeartbeats 1000000 in
theorem take_form {w : World} (g : Nat) (i n : Int) (d : Nat) (b : ByteArray) (hr : Hid (right ⟨i, n, d, b⟩ = false)) :
    Calls Try.prog 51 #[.pointer (some ⟨g, 0, none⟩), .agg #[.int .i64 i, .int .i64 n, .int .u64 d, .string b]] w fun e w' => e = .returned (.int .i64 70) ∧ Below w.heap.size w w' := by
  go_enter Try.func51, Try.ntmps51
  go_wp2_with (go_at_call 100; refine (right_in i n d b _ false hr).mono ?_; rintro e w1 ⟨rfl, hb1⟩)
  go_ret
  exact ⟨rfl, (one_box _).trans (hb1.mono (by simp))⟩
set_option maxRecDepth 100000 in
set_option maxHeartbeats 2000000 in
theorem take_other {w : World} {g bm dg : Nat} {m : Js} (i n : Int) (d : Nat) (b : ByteArray) (HJ : Hid (Jn w g bm dg m)) (hr : Hid (right ⟨i, n, d, b⟩ = true)) (hd : ((d : Int) != (dg : Int)) = true) :
    Calls Try.prog 51 #[.pointer (some ⟨g, 0, none⟩), .agg #[.int .i64 i, .int .i64 n, .int .u64 d, .string b]] w fun e w' => e = .returned (.int .i64 71) ∧ Below w.heap.size w w' := by
  go_enter Try.func51, Try.ntmps51
  go_wp2_with (go_at_call 100; refine (right_in i n d b _ true hr).mono ?_; rintro e w1 ⟨rfl, hb1⟩; obtain ⟨c0, c1, c2, c3⟩ := four_cells (heap_alloc_new w _) hb1 (by simp); have hJ1 := HJ.out.below ((one_box _).trans (hb1.mono (by simp))); have j0 := hJ1.c0; have j1 := hJ1.c1; have j2 := hJ1.c2)
  go_region
  go_wp2_with fail
  go_ret
  exact ⟨rfl, ((one_box _).trans (hb1.mono (by simp))).drew⟩
set_option maxRecDepth 100000 in
set_option maxHeartbeats 2000000 in
theorem take_num {w : World} {g bm : Nat} {m : Js} (i n : Int) (d : Nat) (b : ByteArray) (HJ : Hid (Jn w g bm d m)) (hr : Hid (right ⟨i, n, d, b⟩ = true)) (h1 : ((m.length : Int) != 0) = true) (h2 : (n != (m.length : Int)) = true) :
    Calls Try.prog 51 #[.pointer (some ⟨g, 0, none⟩), .agg #[.int .i64 i, .int .i64 n, .int .u64 d, .string b]] w fun e w' => e = .returned (.int .i64 71) ∧ Below w.heap.size w w' := by
  go_enter Try.func51, Try.ntmps51
  go_wp2_with (go_at_call 100; refine (right_in i n d b _ true hr).mono ?_; rintro e w1 ⟨rfl, hb1⟩; obtain ⟨c0, c1, c2, c3⟩ := four_cells (heap_alloc_new w _) hb1 (by simp); have hJ1 := HJ.out.below ((one_box _).trans (hb1.mono (by simp))); have j0 := hJ1.c0; have j1 := hJ1.c1; have j2 := hJ1.c2; have hx1 : Below w.heap.size w w1 := (one_box _).trans (hb1.mono (by simp)))
  go_region
  go_wp2_with fail
  go_ret
  exact ⟨rfl, hx1.drew⟩
set_option maxRecDepth 100000 in
set_option maxHeartbeats 2000000 in
theorem take_there {w : World} {g bm : Nat} {m : Js} (i n : Int) (d : Nat) (b : ByteArray) (HJ : Hid (Jn w g bm d m)) (hr : Hid (right ⟨i, n, d, b⟩ = true)) (x : ByteArray) (hv : valM m i = some x) (h1 : ((m.length : Int) != 0) = true) (h2 : (n != (m.length : Int)) = false) (E : Int) (hE : Hid ((if x = b then 0 else 71 : Int) = E)) :
    Calls Try.prog 51 #[.pointer (some ⟨g, 0, none⟩), .agg #[.int .i64 i, .int .i64 n, .int .u64 d, .string b]] w fun e w' => e = .returned (.int .i64 E) ∧ Below w.heap.size w w' := by
  obtain ⟨q0, q1, q2, q3, _⟩ := right_parts hr.out
  dsimp only at q0 q1 q2
  have HV := Lib.hid hv
  have i0 : -9223372036854775808 ≤ i := by omega
  have i1 : i ≤ 9223372036854775807 := by omega
  clear hv
  by_cases hx : x = b
  · obtain rfl : E = 0 := by rw [← hE.out, if_pos hx]
    subst hx
    go_enter Try.func51, Try.ntmps51
    go_wp2_with (go_at_call 100; refine (right_in i n d x _ true hr).mono ?_; rintro e w1 ⟨rfl, hb1⟩; obtain ⟨c0, c1, c2, c3⟩ := four_cells (heap_alloc_new w _) hb1 (by simp); have hJ1 := HJ.out.below ((one_box _).trans (hb1.mono (by simp))); have j0 := hJ1.c0; have j1 := hJ1.c1; have j2 := hJ1.c2; have hx1 : Below w.heap.size w w1 := (one_box _).trans (hb1.mono (by simp)))
    go_region
    have l1 := hJ1.drew.has.look i0 i1
    have l2 := hJ1.drew.drew.has.look i0 i1
    simp only [HV.out, Option.getD_some, Option.isSome_some] at l1 l2
    go_wp2_with fail
    go_region
    go_wp2_with fail
    go_ret
    exact ⟨rfl, hx1.drew.drew⟩
  · obtain rfl : E = 71 := by rw [← hE.out, if_neg hx]
    have hne := bytes_ne hx
    have hne' : ¬ x.toList = b.toList := by simpa using hne
    go_enter Try.func51, Try.ntmps51
    go_wp2_with (go_at_call 100; refine (right_in i n d b _ true hr).mono ?_; rintro e w1 ⟨rfl, hb1⟩; obtain ⟨c0, c1, c2, c3⟩ := four_cells (heap_alloc_new w _) hb1 (by simp); have hJ1 := HJ.out.below ((one_box _).trans (hb1.mono (by simp))); have j0 := hJ1.c0; have j1 := hJ1.c1; have j2 := hJ1.c2; have hx1 : Below w.heap.size w w1 := (one_box _).trans (hb1.mono (by simp)))
    go_region
    have l1 := hJ1.drew.has.look i0 i1
    have l2 := hJ1.drew.drew.has.look i0 i1
    simp only [HV.out, Option.getD_some, Option.isSome_some] at l1 l2
    go_wp2_with fail
    go_region
    go_wp2_with fail
    go_ret
    exact ⟨rfl, hx1.drew.drew⟩
theorem s3_next {w w1 w2 : World} {p1 p2 p3 : Addr} {x y z : Value} (h : (w1.cell? p1 = some x ∧ w1.cell? p2 = some y ∧ w1.cell? p3 = some z) ∧ Below w.heap.size w w1) (b : Below w1.heap.size w1 w2) :
    (w2.cell? p1 = some x ∧ w2.cell? p2 = some y ∧ w2.cell? p3 = some z) ∧ Below w.heap.size w w2 :=
  ⟨⟨(b.cell (p := p1) (World.block_lt_of_cell? _ _ h.1.1)).trans h.1.1, (b.cell (p := p2) (World.block_lt_of_cell? _ _ h.1.2.1)).trans h.1.2.1, (b.cell (p := p3) (World.block_lt_of_cell? _ _ h.1.2.2)).trans h.1.2.2⟩, acc h.2 b⟩
theorem base_len {m : Js} {n : Int} (hz : m = [] ∨ n = m.length) (h0 : 0 ≤ n) : ((baseM m n).length : Int) = n := by
  unfold baseM
  by_cases e : m = []
  · rw [if_pos e, List.length_replicate]; omega
  · rw [if_neg e]; rcases hz with h | h
    · exact absurd h e
    · omega
theorem base_small {i n : Int} {d : Nat} {b : ByteArray} {m : Js} (hr : right ⟨i, n, d, b⟩ = true) (hz : m = [] ∨ n = m.length) : cntM (baseM m n) < maxLen := by
  obtain ⟨q0, q1, q2, _⟩ := right_parts hr
  dsimp only at q0 q1 q2
  have h1 := base_len hz (by omega)
  have h2 := cnt_le (baseM m n)
  unfold maxLen
  omega
theorem store_run {W1 : World} {bm n : Nat} {D : DataW Unit} {i : Int} {b : ByteArray} (h : W1.ownsMap Try.prog 3 (plainElem Try.prog 9) bm n D) (hn : n < maxLen) (hk : keyOf Try.prog 3 (.int .i64 i) = some (.int .i64 i)) (hb : b.size ≤ maxLen) :
    ∃ U : World → World, ∀ W', Below W1.heap.size W1 W' → (Instr.mapUpdate 160 (.map (some bm)) (.int .i64 i) (.string b)).run Try.prog W' = .ok () (U W') ∧ (U W').ownsMap Try.prog 3 (plainElem Try.prog 9) bm (n + 1) (D.put (.int .i64 i) (litS b)) ∧ W'.grownBy (U W') (some bm) := by
  refine Classical.axiomOfChoice (r := fun (W' w' : World) => Below W1.heap.size W1 W' → (Instr.mapUpdate 160 (.map (some bm)) (.int .i64 i) (.string b)).run Try.prog W' = .ok () w' ∧ w'.ownsMap Try.prog 3 (plainElem Try.prog 9) bm (n + 1) (D.put (.int .i64 i) (litS b)) ∧ W'.grownBy w' (some bm)) (fun W' => ?_)
  by_cases hB : Below W1.heap.size W1 W'
  · obtain ⟨w', h1, h2, h3⟩ := (own_map_at h (hB.block bm h.lt)).update keyI Try.underlying160 hn hk (plainElem_string Try.underlying9 hb)
    exact ⟨w', fun _ => ⟨h1, h2, h3⟩⟩
  · exact ⟨W', fun q => absurd q hB⟩
theorem took_facts {w1 W1 : World} {g bm d k : Nat} {m : Js} {n : Int} {vi vb : Value} (h : Jn w1 g bm d m) (hk : g ≠ k) (hW : w1.setCell ⟨g, 1, none⟩ (.int .i64 n) = W1) (c0 : w1.cell? ⟨k, 0, none⟩ = some vi) (c3 : w1.cell? ⟨k, 3, none⟩ = some vb) :
    W1.cell? ⟨g, 2, none⟩ = some (.map (some bm)) ∧ W1.cell? ⟨k, 0, none⟩ = some vi ∧ W1.cell? ⟨k, 3, none⟩ = some vb ∧ IsHas W1 bm m ∧ W1.heap[g]? = some (.cells #[.int .u64 d, .int .i64 n, .map (some bm)] 162 (0, 0)) := by
  subst hW
  have hr := heap_setCell_same w1 g 1 _ _ (.int .i64 n) h.row
  refine ⟨(cell_of_row _ _ 2 _ _ _ hr).trans rfl, ?_, ?_, h.has.at (Below.heap_setCell _ _ _ _ (fun e => h.ne e.symm)), hr⟩
  · rw [World.cell?_setCell_far w1 _ _ _ hk]; exact c0
  · rw [World.cell?_setCell_far w1 _ _ _ hk]; exact c3
theorem took_done {w w1 W1 w3 u : World} {g bm d : Nat} {m : Js} {i n : Int} {b : ByteArray} {D : DataW Unit} (hr : right ⟨i, n, d, b⟩ = true) (hJ : Jn w g bm d m) (hx1 : Below w.heap.size w w1) (hW : w1.setCell ⟨g, 1, none⟩ (.int .i64 n) = W1)
    (hrow : W1.heap[g]? = some (.cells #[.int .u64 d, .int .i64 n, .map (some bm)] 162 (0, 0))) (hx3 : Below W1.heap.size W1 w3) (hz : m = [] ∨ n = m.length) (hv : valM m i = none)
    (hD : W1.ownsMap Try.prog 3 (plainElem Try.prog 9) bm (cntM (baseM m n)) D) (r : ReadsM D (baseM m n)) (hown : u.ownsMap Try.prog 3 (plainElem Try.prog 9) bm (cntM (baseM m n) + 1) (D.put (.int .i64 i) (litS b))) (hg : w3.grownBy u (some bm)) :
    Jn u g bm d ((baseM m n).set i.toNat (some b)) ∧ Lets [g, bm] w u := by
  obtain ⟨q0, q1, q2, _⟩ := right_parts hr
  dsimp only at q0 q1 q2
  have hl := base_len hz (by omega)
  obtain ⟨j, rfl⟩ : ∃ j : Nat, i = (j : Int) := ⟨i.toNat, by omega⟩
  rw [Int.toNat_natCast]
  have hv' : valM (baseM m n) (j : Int) = none := by
    unfold baseM
    by_cases e : m = []
    · rw [if_pos e, valM_replicate]
    · rw [if_neg e]; exact hv
  have hgW : g < W1.heap.size := (Array.getElem?_eq_some_iff.1 hrow).1
  refine ⟨⟨?_, IsHas.stored hD r (by omega) hv' hown⟩, ?_⟩
  · rw [List.length_set, hl]
    exact (hg.block g (Nat.lt_of_lt_of_le hgW hx3.size) (fun e => hJ.ne (by injection e))).trans ((hx3.block g hgW).trans hrow)
  · have a1 : Lets [g, bm] w W1 := by rw [← hW]; exact (Lets.ofBelow hx1).setCell (p := ⟨g, 1, none⟩) (by simp) _
    exact (a1.trans (Lets.ofBelow hx3)).grown hg (by simp)
set_option maxRecDepth 100000 in
set_option maxHeartbeats 2000000 in
theorem take_new {w : World} {g bm : Nat} {m : Js} (i n : Int) (d : Nat) (b : ByteArray) (HJ : Hid (Jn w g bm d m)) (hr : Hid (right ⟨i, n, d, b⟩ = true)) (hv : valM m i = none) (hz : m = [] ∨ n = m.length) :
    Calls Try.prog 51 #[.pointer (some ⟨g, 0, none⟩), .agg #[.int .i64 i, .int .i64 n, .int .u64 d, .string b]] w fun e w' => e = .returned (.int .i64 0) ∧ Jn w' g bm d ((baseM m n).set i.toNat (some b)) ∧ Lets [g, bm] w w' := by
  obtain ⟨q0, q1, q2, q3, _⟩ := right_parts hr.out
  dsimp only at q0 q1 q2
  have HV := Lib.hid hv
  have i0 : -9223372036854775808 ≤ i := by omega
  have i1 : i ≤ 9223372036854775807 := by omega
  clear hv
  have h12 : ((m.length : Int) != 0) = false ∨ (((m.length : Int) != 0) = true ∧ (n != (m.length : Int)) = false) := by
    rcases hz with rfl | rfl
    · left; rfl
    · by_cases e : m.length = 0
      · left; simp [e]
      · right; exact ⟨by simpa using e, by simp⟩
  have HZ := Lib.hid hz
  clear hz
  rcases h12 with h1 | ⟨h1, h2⟩
  all_goals
    go_enter Try.func51, Try.ntmps51
    go_wp2_with (go_at_call 100; refine (right_in i n d b _ true hr).mono ?_; rintro e w1 ⟨rfl, hb1⟩; obtain ⟨c0, c1, c2, c3⟩ := four_cells (heap_alloc_new w _) hb1 (by simp); have hJ1 := HJ.out.below ((one_box _).trans (hb1.mono (by simp))); have j0 := hJ1.c0; have j1 := hJ1.c1; have j2 := hJ1.c2; have hx1 : Below w.heap.size w w1 := (one_box _).trans (hb1.mono (by simp)))
    go_region
    have l1 := hJ1.drew.has.look i0 i1
    have l2 := hJ1.drew.drew.has.look i0 i1
    simp only [HV.out, Option.getD_none, Option.isSome_none] at l1 l2
    have f1 := hJ1.froz 1
    go_wp2_with fail
    go_region
    go_wp2_with fail
    obtain ⟨W1, hW1⟩ : ∃ W1, w1.setCell ⟨g, 1, none⟩ (.int .i64 n) = W1 := ⟨_, rfl⟩
    obtain ⟨y0, y1, y2, y3, y4⟩ := took_facts hJ1 (by have := HJ.out.lt; omega) hW1 c0 c3
    have HY3 := Lib.hid y3
    have HY4 := Lib.hid y4
    rw [hW1]
    have HW1 := Lib.hid hW1
    have HX1 := Lib.hid hx1
    clear hW1 l1 l2 c0 c1 c2 c3 j0 j1 j2 hJ1 hx1 hb1 f1 y3 y4
    have hb3 : b.size ≤ 281474976710656 := by omega
    have HK := Lib.hid (key_int i0 i1)
    have HS : Hid (b.size ≤ maxLen) := Lib.hid (by unfold maxLen; omega)
    have HM : Hid (cntM (baseM m n) < maxLen) := Lib.hid (base_small hr.out HZ.out)
    obtain ⟨D, hD, hRD⟩ := HY3.out.base n
    obtain ⟨U, hU⟩ := store_run (b := b) hD (base_small hr.out HZ.out) HK.out HS.out
    have hU1 : ∀ W', Below W1.heap.size W1 W' → (Instr.mapUpdate 160 (.map (some bm)) (.int .i64 i) (.string b)).run Try.prog W' = .ok () (U W') := fun W' h => (hU W' h).1
    have HU := Lib.hid hU
    have HD := Lib.hid hD
    clear hD hU
    have k0 := World.block_lt_of_cell? _ _ y0
    have k1 := World.block_lt_of_cell? _ _ y1
    have K0 := Lib.hid k0
    have K1 := Lib.hid k1
    clear k0 k1
    go_region_with ((go_at_call 99; refine (clone_any b _ hb3).mono ?_; rintro e w3 ⟨rfl, hb3'⟩; have hx3 : Below W1.heap.size W1 w3 := ((Below.refl _ _).drew.drew.drew).trans hb3'; have z0 := (hx3.cell (p := ⟨g, 2, none⟩) K0.out).trans y0; have z1 := (hx3.cell (p := ⟨w.heap.size, 0, none⟩) K1.out).trans y1; have z2 := (hx3.cell (p := ⟨w.heap.size, 3, none⟩) K1.out).trans y2))
    all_goals
      go_wp2_with fail
      go_ret
      exact ⟨rfl, took_done hr.out HJ.out HX1.out HW1.out HY4.out hx3 HZ.out HV.out HD.out hRD (HU.out w3 hx3).2.1 (HU.out w3 hx3).2.2⟩
end Go.Proofs.Ytlemcijgjebekaa.L7
