/-
  Contracts: whether a batch may be.
-/
import Derived.Test.YtinhinghakkfoaaRecPut
import Derived.LoopTactic
import Derived.LoopNIn
import Derived.Outline
namespace Go.Proofs.Ytinhinghakkfoaa.L3
open Go.RowKit

/-- a slice that reads as these records, in a block below B -/
def Reads (w : World) (B : Nat) (A : Option Addr) (l : List R) : Prop :=
  0 < l.length → ∃ g, A = some ⟨g, 0, none⟩ ∧ g < B ∧ ∀ i r, l[i]? = some r →
    w.cell? ⟨g, i * 4, none⟩ = some (.bool r.hk) ∧ w.cell? ⟨g, i * 4 + 1, none⟩ = some (.string r.key) ∧ w.cell? ⟨g, i * 4 + 2, none⟩ = some (.bool r.tb) ∧ w.cell? ⟨g, i * 4 + 3, none⟩ = some (.string r.val)

/-- the first error of records -/
def chkL : List R → Int
  | [] => 0
  | r :: t => if r.chk ≠ 0 then r.chk else chkL t
theorem chkL_next {l : List R} {k : Nat} {hk tb : Bool} {key val : ByteArray} {y : Int} (h : l[k]? = some ⟨hk, key, tb, val⟩) (hy : chk hk key tb val = y) :
    (y ≠ 0 → chkL (l.drop k) = y) ∧ (y = 0 → chkL (l.drop k) = chkL (l.drop (k + 1))) := by
  have hlt := (List.getElem?_eq_some_iff.1 h).1
  have hl := (List.getElem?_eq_some_iff.1 h).2
  rw [List.drop_eq_getElem_cons hlt, hl]
  have hr : R.chk ⟨hk, key, tb, val⟩ = y := hy
  constructor
  · intro h0; show (if _ ≠ 0 then _ else _) = _; rw [hr, if_pos h0]
  · intro h0; show (if _ ≠ 0 then _ else _) = _; rw [hr, if_neg (by simpa using h0)]
def allN (p e q : Int) (l : List R) : Int :=
  if (numB p && numB e && numB q) = false then 1 else if l.length = 0 then 30 else if 16 < l.length then 2 else chkL l

set_option maxRecDepth 100000 in
set_option maxHeartbeats 1000000 in
theorem all_ok (p e q : Int) (A : Option Addr) (l : List R) (cap B : Nat) (x : Int) (w : World) (hR : Hid (Reads w B A l)) (hB : B ≤ w.heap.size) (hl : l.length ≤ 20) (hs : Hid (∀ r ∈ l, r.key.size ≤ maxLen ∧ r.val.size ≤ maxLen))
    (h1 : 0 ≤ p) (h2 : p ≤ 1099511627776) (h3 : 0 ≤ e) (h4 : e ≤ 1099511627776) (h5 : 0 ≤ q) (h6 : q ≤ 1099511627776) (h7 : 0 < l.length) (h8 : l.length ≤ 16) (HX : Hid (chkL l = x)) :
    Calls Try.prog 17 #[.agg #[.int .i64 p, .int .i64 e, .int .i64 q, .slice A l.length cap]] w fun e w' => e = .returned (.int .i64 x) ∧ Below w.heap.size w w' := by
  have i0 : ∀ w, (Instr.index 55 (.agg #[.int .i64 p, .int .i64 e, .int .i64 q]) (.int .i64 0)).run Try.prog w = .ok (.int .i64 p) w := fun _ => by kernel_rfl
  have i1 : ∀ w, (Instr.index 55 (.agg #[.int .i64 p, .int .i64 e, .int .i64 q]) (.int .i64 1)).run Try.prog w = .ok (.int .i64 e) w := fun _ => by kernel_rfl
  have i2 : ∀ w, (Instr.index 55 (.agg #[.int .i64 p, .int .i64 e, .int .i64 q]) (.int .i64 2)).run Try.prog w = .ok (.int .i64 q) w := fun _ => by kernel_rfl
  go_enter Try.func17, Try.ntmps17
  go_wp2_with fail
  go_loop [16] (fun i => ∃ k : Nat, k ≤ 3 ∧ i = .int .i64 k) (fun i => 3 - (intOf i).toNat)
  case atStart => exact ⟨0, by omega, rfl⟩
  case round =>
    obtain ⟨k, hk, rfl⟩ := hrel
    have hk4 : k = 0 ∨ k = 1 ∨ k = 2 ∨ k = 3 := by omega
    rcases hk4 with rfl | rfl | rfl | rfl
    · go_wp2_with fail
      go_round
      case rel => exact ⟨1, by omega, rfl⟩
      case measure => simp [intOf]
    · go_wp2_with fail
      go_round
      case rel => exact ⟨2, by omega, rfl⟩
      case measure => simp [intOf]
    · go_wp2_with fail
      go_round
      case rel => exact ⟨3, by omega, rfl⟩
      case measure => simp [intOf]
    · have hcnt : Hid (cnt (l.length : Int) = 0) := Lib.hid (by unfold cnt; rw [if_neg (by omega), if_neg (by omega)])
      go_wp2_with (go_at_call 31; refine (count_any _ _).mono ?_; rw [hcnt.out]; rintro e w' ⟨rfl, rfl⟩)
      obtain ⟨g, rfl, hg, hcells⟩ := hR.out h7
      have HC := Lib.hid hcells
      clear hcells hcnt
      go_loopw [37] (fun i wr => ∃ k : Nat, k ≤ l.length ∧ i = .int .i64 k ∧ Below w.heap.size w wr ∧ Hid (chkL (l.drop k) = x)) (fun i _ => l.length - (intOf i).toNat)
      case atStart => exact ⟨0, by omega, rfl, one_box _, by simpa using HX⟩
      case round =>
        obtain ⟨k, hk, rfl, hbel, hX⟩ := hrel
        by_cases hlt : k < l.length
        · obtain ⟨⟨rk, key, tb, val⟩, hr⟩ : ∃ r, l[k]? = some r := ⟨l[k], List.getElem?_eq_getElem hlt⟩
          obtain ⟨z1, z2⟩ := hs.out _ (List.mem_of_getElem? hr)
          have Z1 := Lib.hid z1
          have Z2 := Lib.hid z2
          obtain ⟨c0, c1, c2, c3⟩ := HC.out k _ hr
          have d0 := (hbel.cell (p := ⟨g, k * 4, none⟩) (by show g < _; omega)).trans c0
          have d1 := (hbel.cell (p := ⟨g, k * 4 + 1, none⟩) (by show g < _; omega)).trans c1
          have d2 := (hbel.cell (p := ⟨g, k * 4 + 2, none⟩) (by show g < _; omega)).trans c2
          have d3 := (hbel.cell (p := ⟨g, k * 4 + 3, none⟩) (by show g < _; omega)).trans c3
          have HR := Lib.hid hr
          clear c0 c1 c2 c3 hr z1 z2
          dsimp only at d0 d1 d2 d3 Z1 Z2
          obtain ⟨y, hy⟩ : ∃ y, chk rk key tb val = y := ⟨_, rfl⟩
          have HY := Lib.hid hy
          have hnext := chkL_next HR.out hy
          clear hy
          by_cases hy0 : y = 0
          · subst hy0
            have hX' : Hid (chkL (l.drop (k + 1)) = x) := Lib.hid ((hnext.2 rfl).symm.trans hX.out)
            clear hnext
            go_wp2_with (go_at_call 15; refine (check_any _ _ _ _ _ Z1.out Z2.out).mono ?_; rw [HY.out]; rintro e w1 ⟨rfl, hb1⟩)
            go_roundw
            case rel => exact ⟨k + 1, by omega, by go_num, (hbel.alloc hbel.size _).trans (hb1.mono (by simp; exact Nat.le_succ_of_le hbel.size)), hX'⟩
            case measure => simp [intOf]; omega
          · have hy1 : (y != 0) = true := by simpa using hy0
            obtain rfl : x = y := hX.out.symm.trans (hnext.1 hy0)
            clear hnext hy0
            go_wp2_with (go_at_call 15; refine (check_any _ _ _ _ _ Z1.out Z2.out).mono ?_; rw [HY.out]; rintro e w1 ⟨rfl, hb1⟩)
            go_ret
            exact ⟨rfl, (hbel.alloc hbel.size _).trans (hb1.mono (by simp; exact Nat.le_succ_of_le hbel.size))⟩
        · obtain rfl : k = l.length := by omega
          have hx0 : x = 0 := by have := hX.out; rw [List.drop_length] at this; exact this.symm
          subst hx0
          go_wp2_with fail
          go_ret
          exact ⟨rfl, hbel⟩

set_option maxRecDepth 100000 in
set_option maxHeartbeats 1000000 in
theorem all_arg (p e q : Int) (A : Option Addr) (n cap : Nat) (w : World) (hbad : Hid (p < 0 ∨ 1099511627776 < p ∨ e < 0 ∨ 1099511627776 < e ∨ q < 0 ∨ 1099511627776 < q)) :
    Calls Try.prog 17 #[.agg #[.int .i64 p, .int .i64 e, .int .i64 q, .slice A n cap]] w fun e w' => e = .returned (.int .i64 1) ∧ Below w.heap.size w w' := by
  have i0 : ∀ w, (Instr.index 55 (.agg #[.int .i64 p, .int .i64 e, .int .i64 q]) (.int .i64 0)).run Try.prog w = .ok (.int .i64 p) w := fun _ => by kernel_rfl
  have i1 : ∀ w, (Instr.index 55 (.agg #[.int .i64 p, .int .i64 e, .int .i64 q]) (.int .i64 1)).run Try.prog w = .ok (.int .i64 e) w := fun _ => by kernel_rfl
  have i2 : ∀ w, (Instr.index 55 (.agg #[.int .i64 p, .int .i64 e, .int .i64 q]) (.int .i64 2)).run Try.prog w = .ok (.int .i64 q) w := fun _ => by kernel_rfl
  go_enter Try.func17, Try.ntmps17
  go_wp2_with fail
  go_loop [16] (fun i => ∃ k : Nat, k ≤ 3 ∧ i = .int .i64 k ∧ Hid ((0 < k → 0 ≤ p ∧ p ≤ 1099511627776) ∧ (1 < k → 0 ≤ e ∧ e ≤ 1099511627776) ∧ (2 < k → 0 ≤ q ∧ q ≤ 1099511627776))) (fun i => 3 - (intOf i).toNat)
  case atStart => exact ⟨0, by omega, rfl, Lib.hid ⟨fun h => absurd h (by omega), fun h => absurd h (by omega), fun h => absurd h (by omega)⟩⟩
  case round =>
    obtain ⟨k, hk, rfl, hok⟩ := hrel
    have hk4 : k = 0 ∨ k = 1 ∨ k = 2 ∨ k = 3 := by omega
    rcases hk4 with rfl | rfl | rfl | rfl
    · have hv : p < 0 ∨ (0 ≤ p ∧ 1099511627776 < p) ∨ (0 ≤ p ∧ p ≤ 1099511627776) := by omega
      rcases hv with hv | ⟨hv0, hv⟩ | ⟨hv0, hv⟩
      · go_wp2_with fail
        go_ret
        exact ⟨rfl, one_box _⟩
      · go_wp2_with fail
        go_ret
        exact ⟨rfl, one_box _⟩
      · go_wp2_with fail
        go_round
        case rel => exact ⟨1, by omega, rfl, Lib.hid ⟨fun _ => ⟨hv0, hv⟩, fun h => absurd h (by omega), fun h => absurd h (by omega)⟩⟩
        case measure => simp [intOf]
    · have hv : e < 0 ∨ (0 ≤ e ∧ 1099511627776 < e) ∨ (0 ≤ e ∧ e ≤ 1099511627776) := by omega
      rcases hv with hv | ⟨hv0, hv⟩ | ⟨hv0, hv⟩
      · go_wp2_with fail
        go_ret
        exact ⟨rfl, one_box _⟩
      · go_wp2_with fail
        go_ret
        exact ⟨rfl, one_box _⟩
      · go_wp2_with fail
        go_round
        case rel => exact ⟨2, by omega, rfl, Lib.hid ⟨fun _ => hok.out.1 (by omega), fun _ => ⟨hv0, hv⟩, fun h => absurd h (by omega)⟩⟩
        case measure => simp [intOf]
    · have hv : q < 0 ∨ (0 ≤ q ∧ 1099511627776 < q) ∨ (0 ≤ q ∧ q ≤ 1099511627776) := by omega
      rcases hv with hv | ⟨hv0, hv⟩ | ⟨hv0, hv⟩
      · go_wp2_with fail
        go_ret
        exact ⟨rfl, one_box _⟩
      · go_wp2_with fail
        go_ret
        exact ⟨rfl, one_box _⟩
      · go_wp2_with fail
        go_round
        case rel => exact ⟨3, by omega, rfl, Lib.hid ⟨fun _ => hok.out.1 (by omega), fun _ => hok.out.2.1 (by omega), fun _ => ⟨hv0, hv⟩⟩⟩
        case measure => simp [intOf]
    · exfalso
      have b1 := hok.out.1 (by omega)
      have b2 := hok.out.2.1 (by omega)
      have b3 := hok.out.2.2 (by omega)
      have b := hbad.out
      omega

set_option maxRecDepth 100000 in
set_option maxHeartbeats 1000000 in
theorem all_cnt (p e q : Int) (A : Option Addr) (n cap : Nat) (x : Int) (w : World) (hl : n ≤ maxLen) (h1 : 0 ≤ p) (h2 : p ≤ 1099511627776) (h3 : 0 ≤ e) (h4 : e ≤ 1099511627776) (h5 : 0 ≤ q) (h6 : q ≤ 1099511627776)
    (hc : Hid (cnt (n : Int) = x)) (hx : (x != 0) = true) :
    Calls Try.prog 17 #[.agg #[.int .i64 p, .int .i64 e, .int .i64 q, .slice A n cap]] w fun e w' => e = .returned (.int .i64 x) ∧ Below w.heap.size w w' := by
  unfold maxLen at hl
  have i0 : ∀ w, (Instr.index 55 (.agg #[.int .i64 p, .int .i64 e, .int .i64 q]) (.int .i64 0)).run Try.prog w = .ok (.int .i64 p) w := fun _ => by kernel_rfl
  have i1 : ∀ w, (Instr.index 55 (.agg #[.int .i64 p, .int .i64 e, .int .i64 q]) (.int .i64 1)).run Try.prog w = .ok (.int .i64 e) w := fun _ => by kernel_rfl
  have i2 : ∀ w, (Instr.index 55 (.agg #[.int .i64 p, .int .i64 e, .int .i64 q]) (.int .i64 2)).run Try.prog w = .ok (.int .i64 q) w := fun _ => by kernel_rfl
  go_enter Try.func17, Try.ntmps17
  go_wp2_with fail
  go_loop [16] (fun i => ∃ k : Nat, k ≤ 3 ∧ i = .int .i64 k) (fun i => 3 - (intOf i).toNat)
  case atStart => exact ⟨0, by omega, rfl⟩
  case round =>
    obtain ⟨k, hk, rfl⟩ := hrel
    have hk4 : k = 0 ∨ k = 1 ∨ k = 2 ∨ k = 3 := by omega
    rcases hk4 with rfl | rfl | rfl | rfl
    · go_wp2_with fail
      go_round
      case rel => exact ⟨1, by omega, rfl⟩
      case measure => simp [intOf]
    · go_wp2_with fail
      go_round
      case rel => exact ⟨2, by omega, rfl⟩
      case measure => simp [intOf]
    · go_wp2_with fail
      go_round
      case rel => exact ⟨3, by omega, rfl⟩
      case measure => simp [intOf]
    · go_wp2_with (go_at_call 31; refine (count_any _ _).mono ?_; rw [hc.out]; rintro e w' ⟨rfl, rfl⟩)
      go_ret
      exact ⟨rfl, one_box _⟩

theorem all_is (p e q : Int) (A : Option Addr) (l : List R) (cap B : Nat) (x : Int) (w : World) (hR : Hid (Reads w B A l)) (hB : B ≤ w.heap.size) (hl : l.length ≤ 20) (hs : Hid (∀ r ∈ l, r.key.size ≤ maxLen ∧ r.val.size ≤ maxLen)) (HX : Hid (allN p e q l = x)) :
    Calls Try.prog 17 #[.agg #[.int .i64 p, .int .i64 e, .int .i64 q, .slice A l.length cap]] w fun e w' => e = .returned (.int .i64 x) ∧ Below w.heap.size w w' := by
  have hx := HX.out
  unfold allN at hx
  by_cases hn : (0 ≤ p ∧ p ≤ 1099511627776) ∧ (0 ≤ e ∧ e ≤ 1099511627776) ∧ (0 ≤ q ∧ q ≤ 1099511627776)
  · rw [if_neg (by simp [numB, hn])] at hx
    by_cases h0 : l.length = 0
    · rw [if_pos h0] at hx
      subst hx
      exact all_cnt p e q A l.length cap 30 w (by unfold maxLen; omega) hn.1.1 hn.1.2 hn.2.1.1 hn.2.1.2 hn.2.2.1 hn.2.2.2 (Lib.hid (by unfold cnt; rw [if_pos (by omega)])) rfl
    · rw [if_neg h0] at hx
      by_cases h1 : 16 < l.length
      · rw [if_pos h1] at hx
        subst hx
        exact all_cnt p e q A l.length cap 2 w (by unfold maxLen; omega) hn.1.1 hn.1.2 hn.2.1.1 hn.2.1.2 hn.2.2.1 hn.2.2.2 (Lib.hid (by unfold cnt; rw [if_neg (by omega), if_pos (by omega)])) rfl
      · rw [if_neg h1] at hx
        exact all_ok p e q A l cap B x w hR hB hl hs hn.1.1 hn.1.2 hn.2.1.1 hn.2.1.2 hn.2.2.1 hn.2.2.2 (by omega) (by omega) (Lib.hid hx)
  · have hb : (numB p && numB e && numB q) = false := by
      simp only [numB, Bool.and_eq_false_iff, decide_eq_false_iff_not]
      omega
    rw [if_pos hb] at hx
    subst hx
    exact all_arg p e q A l.length cap w (Lib.hid (by omega))
end Go.Proofs.Ytinhinghakkfoaa.L3
