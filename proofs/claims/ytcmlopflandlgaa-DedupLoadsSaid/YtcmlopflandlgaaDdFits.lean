/-
  Contracts: whether a table may remember something.
-/
import Derived.Test.YtcmlopflandlgaaDdMakers
namespace Go.Proofs.Ytcmlopflandlgaa.L8
open Go.RowKit
open Go.Maps
open L3 L4

theorem maker_box {w w' : World} {v : MV} {n : Nat} (hb : Below (w.alloc (.cells #[.int .i64 v.m.id, .int .i64 v.m.ep, .string v.m.t, .int .i64 v.m.p, .slice v.A n v.c] 48)).heap.size (w.alloc (.cells #[.int .i64 v.m.id, .int .i64 v.m.ep, .string v.m.t, .int .i64 v.m.p, .slice v.A n v.c] 48)) w') :
    (w'.cell? ⟨w.heap.size, 0, none⟩ = some (.int .i64 v.m.id) ∧ w'.cell? ⟨w.heap.size, 1, none⟩ = some (.int .i64 v.m.ep) ∧ w'.cell? ⟨w.heap.size, 2, none⟩ = some (.string v.m.t) ∧ w'.cell? ⟨w.heap.size, 3, none⟩ = some (.int .i64 v.m.p) ∧ w'.cell? ⟨w.heap.size, 4, none⟩ = some (.slice v.A n v.c)) ∧ Below w.heap.size w w' := by
  have h := (hb.block w.heap.size (by simp)).trans (heap_alloc_new w _)
  exact ⟨⟨(cell_of_row _ _ 0 _ _ _ h).trans rfl, (cell_of_row _ _ 1 _ _ _ h).trans rfl, (cell_of_row _ _ 2 _ _ _ h).trans rfl, (cell_of_row _ _ 3 _ _ _ h).trans rfl, (cell_of_row _ _ 4 _ _ _ h).trans rfl⟩, (one_box' _).trans (hb.mono (by simp))⟩
/-- what of 'fits' is asked ahead of the batches -/
def headB (es : List Int) (m : Mk) : Bool := (decide (1 ≤ m.id) && (decide (m.id ≤ es.length) && decide (es.getD (m.id - 1).toNat 0 = m.ep))) && (decide (1 ≤ m.l.length) && decide (m.l.length ≤ 5))
theorem fit_head (es : List Int) (m : Mk) : fitB es m = (headB es m && rowB none m.l) := by unfold fitB headB; simp only [Bool.and_assoc]

theorem there_q {w : World} {g cap b N : Nat} {A : Option Addr} {es : List Int} {ms : List Mk} (id : Int) (v : Bool) (h : Hid (Tab w g A cap b N es ms)) (HV : Hid (decide (1 ≤ id ∧ id ≤ es.length) = v)) (W : World) (hb : Below w.heap.size w W) :
    Calls Try.prog 27 #[.pointer (some ⟨g, 0, none⟩), .int .i64 id] W fun e w' => e = .returned (.bool v) ∧ w' = W :=
  (there_is id v (Lib.hid (h.out.below hb)) HV).mono fun _ _ ⟨h1, h2⟩ => ⟨h1, h2.symm⟩
set_option maxRecDepth 100000 in
set_option maxHeartbeats 4000000 in
theorem fits_no {w : World} {g cap b N : Nat} {A : Option Addr} {es : List Int} {ms : List Mk} (v : MV) (n : Nat) (h : Hid (Tab w g A cap b N es ms)) (hn : v.m.l.length = n) (hn1 : n ≤ 1000000) (hes : es.length ≤ 1000) (HR : Hid (headB es v.m = false)) :
    Calls Try.prog 41 #[.pointer (some ⟨g, 0, none⟩), .agg #[.int .i64 v.m.id, .int .i64 v.m.ep, .string v.m.t, .int .i64 v.m.p, .slice v.A n v.c]] w fun e w' => e = .returned (.bool false) ∧ Below w.heap.size w w' := by
  obtain ⟨W, hW⟩ : ∃ W, w.alloc (.cells #[.int .i64 v.m.id, .int .i64 v.m.ep, .string v.m.t, .int .i64 v.m.p, .slice v.A n v.c] 48) = W := ⟨_, rfl⟩
  obtain ⟨⟨k0, k1, k2, k3, k4⟩, hb⟩ := maker_box (v := v) (n := n) (Below.refl (w.alloc (.cells #[.int .i64 v.m.id, .int .i64 v.m.ep, .string v.m.t, .int .i64 v.m.p, .slice v.A n v.c] 48)).heap.size _)
  rw [hW] at k0 k1 k2 k3 k4 hb
  have HW := Lib.hid hW
  have HB := Lib.hid hb
  have HT := Lib.hid (h.out.below hb)
  have c0 := HT.out.c0
  obtain ⟨ne, hne⟩ : ∃ n, es.length = n := ⟨_, rfl⟩
  have HNE := Lib.hid hne
  rw [hne] at c0
  have hr := HR.out
  unfold headB at hr
  rw [hne, hn] at hr
  by_cases q1 : 1 ≤ v.m.id ∧ v.m.id ≤ ne
  · have HV : Hid (decide (1 ≤ v.m.id ∧ v.m.id ≤ es.length) = true) := Lib.hid (by rw [hne]; exact decide_eq_true q1)
    obtain ⟨j, hj⟩ : ∃ j : Nat, (v.m.id - 1).toNat = j := ⟨_, rfl⟩
    obtain ⟨y, hy⟩ : ∃ y, es.getD j 0 = y := ⟨_, rfl⟩
    have hat : es[j]? = some y := by rw [← hy]; exact at_getD (by omega)
    obtain ⟨k, rfl, _, _, _, hc, _⟩ := own_num HT.out.own hat
    rw [hj, hy] at hr
    have e1 : wrap64 (v.m.id - 1) = (j : Int) := by simp only [wrap64]; omega
    have e2 : v.m.id - 1 = (j : Int) := by omega
    have j0 : (0 : Int) ≤ (j : Int) := by omega
    have j1 : (j : Int) < (ne : Int) := by omega
    have e3 : IntKind.i64.wrap (j : Int) = (j : Int) := IntWalk.i64_in _ (by omega)
    by_cases q2 : v.m.ep = y
    · have y1 : (v.m.ep != y) = false := by simpa using q2
      by_cases q3 : n < 1
      · obtain rfl : n = 0 := by omega
        clear hr q1 q2 q3 hj hy hat hne hn hW hb h
        go_enter Try.func41, Try.ntmps41
        go_upto_region 1 with (fail)
        rw [HW.out]
        go_quiet ((go_at_call 27; exact Calls.quiet_of_same (there_q v.m.id true HT HV _ (drewN_below (Below.refl _ _) _))))
        go_wp2_with fail
        go_ret
        exact ⟨rfl, drewN_below HB.out _⟩
      · by_cases q4 : 5 < n
        · have t1 : decide ((n : Int) < 1) = false := decide_eq_false (by omega)
          have t2 : decide ((5 : Int) < (n : Int)) = true := decide_eq_true (by omega)
          have t3 : decide (n < 1) = false := decide_eq_false (by omega)
          have t4 : decide (5 < n) = true := decide_eq_true (by omega)
          clear hr q1 q2 q3 q4 hj hy hat hne hn hW hb h
          go_enter Try.func41, Try.ntmps41
          go_upto_region 1 with (fail)
          rw [HW.out]
          go_quiet ((go_at_call 27; exact Calls.quiet_of_same (there_q v.m.id true HT HV _ (drewN_below (Below.refl _ _) _))))
          go_wp2_with fail
          go_ret
          exact ⟨rfl, drewN_below HB.out _⟩
        · exfalso
          rw [decide_eq_true q1.1, decide_eq_true q1.2, decide_eq_true q2.symm, decide_eq_true (by omega : 1 ≤ n), decide_eq_true (by omega : n ≤ 5)] at hr
          cases hr
    · have y1 : (v.m.ep != y) = true := by simpa using q2
      clear hr q1 q2 hj hy hat hne hn hW hb h
      go_enter Try.func41, Try.ntmps41
      go_upto_region 1 with (fail)
      rw [HW.out]
      go_quiet ((go_at_call 27; exact Calls.quiet_of_same (there_q v.m.id true HT HV _ (drewN_below (Below.refl _ _) _))))
      go_wp2_with fail
      go_ret
      exact ⟨rfl, drewN_below HB.out _⟩
  · have HV : Hid (decide (1 ≤ v.m.id ∧ v.m.id ≤ es.length) = false) := Lib.hid (by rw [hne]; exact decide_eq_false q1)
    clear hr q1 hne hn hW hb h
    go_enter Try.func41, Try.ntmps41
    go_upto_region 1 with (fail)
    rw [HW.out]
    go_quiet ((go_at_call 27; exact Calls.quiet_of_same (there_q v.m.id false HT HV _ (drewN_below (Below.refl _ _) _))))
    go_wp2_with fail
    go_ret
    exact ⟨rfl, drewN_below HB.out _⟩
end Go.Proofs.Ytcmlopflandlgaa.L8
