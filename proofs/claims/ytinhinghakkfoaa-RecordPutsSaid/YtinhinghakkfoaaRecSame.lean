/-
  Contracts: whether two batches are the same.
-/
import Derived.Test.YtinhinghakkfoaaRecCut
import Derived.Test.YtinhinghakkfoaaRecSmall
import Derived.LoopTactic
import Derived.BigQuiet
import Derived.Deep.QuietTactic
namespace Go.Proofs.Ytinhinghakkfoaa.L3
open Go.RowKit

theorem R.same_parts {a b : R} : a = b ↔ a.hk = b.hk ∧ a.key = b.key ∧ a.tb = b.tb ∧ a.val = b.val := by
  cases a; cases b; simp

set_option maxRecDepth 100000 in
set_option maxHeartbeats 1000000 in
theorem records_len (A A' : Option Addr) (n m cap cap' : Nat) (w : World) (h : n ≠ m) :
    Calls Try.prog 33 #[.slice A n cap, .slice A' m cap'] w fun e w' => e = .returned (.bool false) ∧ w = w' := by
  have h1 : ((n : Int) != (m : Int)) = true := by simp; omega
  clear h
  go_enter Try.func33, Try.ntmps33
  go_wp2_with fail
  go_ret
  exact ⟨rfl, rfl⟩

theorem drewN_below {B : Nat} {w w1 : World} (h : Below B w w1) (n : Nat) : Below B w (w1.drewN n) := ⟨h.os, h.tape, h.output, h.size, h.block⟩

set_option maxRecDepth 100000 in
set_option maxHeartbeats 2000000 in
theorem records_same (A A' : Option Addr) (l : List R) (cap cap' B : Nat) (w : World) (hR : Hid (Reads w B A l)) (hR' : Hid (Reads w B A' l)) (hB : B ≤ w.heap.size) (hl : l.length ≤ maxLen) :
    Calls Try.prog 33 #[.slice A l.length cap, .slice A' l.length cap'] w fun e w' => e = .returned (.bool true) ∧ Below w.heap.size w w' := by
  unfold maxLen at hl
  go_enter Try.func33, Try.ntmps33
  go_wp2_with fail
  go_loopw [5] (fun i wr => ∃ k : Nat, k ≤ l.length ∧ i = .int .i64 k ∧ Below w.heap.size w wr) (fun i _ => l.length - (intOf i).toNat)
  case atStart => exact ⟨0, by omega, rfl, Below.refl _ _⟩
  case round =>
    obtain ⟨k, hk, rfl, hbel⟩ := hrel
    by_cases hlt : k < l.length
    · obtain ⟨g, rfl, hg, hcells⟩ := hR.out (by omega)
      obtain ⟨g', rfl, hg', hcells'⟩ := hR'.out (by omega)
      obtain ⟨⟨rk, key, tb, val⟩, hr⟩ : ∃ r, l[k]? = some r := ⟨l[k], List.getElem?_eq_getElem hlt⟩
      obtain ⟨c0, c1, c2, c3⟩ := hcells k _ hr
      obtain ⟨b0, b1, b2, b3⟩ := hcells' k _ hr
      have d0 := (hbel.cell (p := ⟨g, k * 4, none⟩) (by show g < _; omega)).trans c0
      have d1 := (hbel.cell (p := ⟨g, k * 4 + 1, none⟩) (by show g < _; omega)).trans c1
      have d2 := (hbel.cell (p := ⟨g, k * 4 + 2, none⟩) (by show g < _; omega)).trans c2
      have d3 := (hbel.cell (p := ⟨g, k * 4 + 3, none⟩) (by show g < _; omega)).trans c3
      have e0 := (hbel.cell (p := ⟨g', k * 4, none⟩) (by show g' < _; omega)).trans b0
      have e1 := (hbel.cell (p := ⟨g', k * 4 + 1, none⟩) (by show g' < _; omega)).trans b1
      have e2 := (hbel.cell (p := ⟨g', k * 4 + 2, none⟩) (by show g' < _; omega)).trans b2
      have e3 := (hbel.cell (p := ⟨g', k * 4 + 3, none⟩) (by show g' < _; omega)).trans b3
      clear c0 c1 c2 c3 b0 b1 b2 b3 hcells hcells' hr
      dsimp only at d0 d1 d2 d3 e0 e1 e2 e3
      have k0 : (0 : Int) ≤ (k : Int) := by omega
      have k1 : (k : Int) < (l.length : Int) := by omega
      go_wp2_with fail
      go_quiet (fail)
      go_wp2_with fail
      exact ⟨⟨k + 1, by omega, by go_num, drewN_below hbel nq⟩, by simp [intOf]; omega⟩
    · obtain rfl : k = l.length := by omega
      go_wp2_with fail
      go_ret
      exact ⟨rfl, hbel⟩

set_option maxRecDepth 100000 in
set_option maxHeartbeats 2000000 in
theorem same_yes (p e q : Int) (A A' : Option Addr) (l : List R) (cap cap' B : Nat) (w : World) (hR : Hid (Reads w B A l)) (hR' : Hid (Reads w B A' l)) (hB : B ≤ w.heap.size) (hl : l.length ≤ maxLen) :
    Calls Try.prog 20 #[.agg #[.int .i64 p, .int .i64 e, .int .i64 q, .slice A l.length cap], .agg #[.int .i64 p, .int .i64 e, .int .i64 q, .slice A' l.length cap']] w fun e' w' => e' = .returned (.bool true) ∧ Below w.heap.size w w' := by
  have HL := Lib.hid hl
  clear hl
  go_enter Try.func20, Try.ntmps20
  go_wp2_with (go_at_call 33; refine (records_same _ _ _ _ _ B _ (Lib.hid (hR.out.below ((L3.two_box _ _).mono hB))) (Lib.hid (hR'.out.below ((L3.two_box _ _).mono hB))) (by simp; omega) HL.out).mono ?_; rintro e w1 ⟨rfl, hb1⟩)
  go_ret
  exact ⟨rfl, (L3.two_box _ _).trans (hb1.mono (by simp; omega))⟩
end Go.Proofs.Ytinhinghakkfoaa.L3
