/-
  Contracts: whether a batch may be.
-/
import Derived.Test.YtijofikpdhapoaaGreatMText
import Derived.LoopTactic
import Derived.LoopNIn
import Derived.Outline
import Derived.Laws.Rows
import Derived.Laws.AppendOwn
import Derived.Test.YtijofikpdhapoaaGreatMSmall
import Derived.BigQuiet
import Derived.Deep.QuietTactic
namespace Go.Proofs.YtijofikpdhapoaaGreat.L3
open Go.RowKit

/-- a slice that reads as these records, in a block below B -/
def Reads (w : World) (B : Nat) (A : Option Addr) (l : List R) : Prop :=
  0 < l.length → ∃ g, A = some ⟨g, 0, none⟩ ∧ g < B ∧ ∀ i r, l[i]? = some r →
    w.cell? ⟨g, i * 4, none⟩ = some (.bool r.hk) ∧ w.cell? ⟨g, i * 4 + 1, none⟩ = some (.string r.key) ∧ w.cell? ⟨g, i * 4 + 2, none⟩ = some (.bool r.tb) ∧ w.cell? ⟨g, i * 4 + 3, none⟩ = some (.string r.val)

/-- the first error of records -/
def chkL : List R → Int
  | [] => 0
  | r :: t => if r.chk ≠ 0 then r.chk else chkL t
theorem chkL_next {l : List R} {k : Nat} {hk tb : Bool} {key val : ByteArray} {y : Int} (h : l[k]? = some ⟨hk, key, tb, val⟩) (hy : chk hk key tb val = y) :
    (y ≠ 0 → chkL (l.drop k) = y) ∧ (y = 0 → chkL (l.drop k) = chkL (l.drop (k + 1))) := by
  have hlt := (List.getElem?_eq_some_iff.1 h).1
  have hl := (List.getElem?_eq_some_iff.1 h).2
  rw [List.drop_eq_getElem_cons hlt, hl]
  have hr : R.chk ⟨hk, key, tb, val⟩ = y := hy
  constructor
  · intro h0; show (if _ ≠ 0 then _ else _) = _; rw [hr, if_pos h0]
  · intro h0; show (if _ ≠ 0 then _ else _) = _; rw [hr, if_neg (by simpa using h0)]
def allN (p e q : Int) (l : List R) : Int :=
  if (numB p && numB e && numB q) = false then 1 else if l.length = 0 then 30 else if 16 < l.length then 2 else chkL l

set_option maxRecDepth 100000 in
set_option maxHeartbeats 1000000 in
theorem all_ok (p e q : Int) (A : Option Addr) (l : List R) (cap B : Nat) (x : Int) (w : World) (hR : Hid (Reads w B A l)) (hB : B ≤ w.heap.size) (hl : l.length ≤ 20) (hs : Hid (∀ r ∈ l, r.key.size ≤ maxLen ∧ r.val.size ≤ maxLen))
    (h1 : 0 ≤ p) (h2 : p ≤ 1099511627776) (h3 : 0 ≤ e) (h4 : e ≤ 1099511627776) (h5 : 0 ≤ q) (h6 : q ≤ 1099511627776) (h7 : 0 < l.length) (h8 : l.length ≤ 16) (HX : Hid (chkL l = x)) :
    Calls Tryz.prog 115 #[.agg #[.int .i64 p, .int .i64 e, .int .i64 q, .slice A l.length cap]] w fun e w' => e = .returned (.int .i64 x) ∧ Below w.heap.size w w' := by
  have i0 : ∀ w, (Instr.index 154 (.agg #[.int .i64 p, .int .i64 e, .int .i64 q]) (.int .i64 0)).run Tryz.prog w = .ok (.int .i64 p) w := fun _ => by kernel_rfl
  have i1 : ∀ w, (Instr.index 154 (.agg #[.int .i64 p, .int .i64 e, .int .i64 q]) (.int .i64 1)).run Tryz.prog w = .ok (.int .i64 e) w := fun _ => by kernel_rfl
  have i2 : ∀ w, (Instr.index 154 (.agg #[.int .i64 p, .int .i64 e, .int .i64 q]) (.int .i64 2)).run Tryz.prog w = .ok (.int .i64 q) w := fun _ => by kernel_rfl
  go_enter Tryz.func115, Tryz.ntmps115
  go_wp2_with fail
  go_loop [16] (fun i => ∃ k : Nat, k ≤ 3 ∧ i = .int .i64 k) (fun i => 3 - (intOf i).toNat)
  case atStart => exact ⟨0, by omega, rfl⟩
  case round =>
    obtain ⟨k, hk, rfl⟩ := hrel
    have hk4 : k = 0 ∨ k = 1 ∨ k = 2 ∨ k = 3 := by omega
    rcases hk4 with rfl | rfl | rfl | rfl
    · go_wp2_with fail
      go_round
      case rel => exact ⟨1, by omega, rfl⟩
      case measure => simp [intOf]
    · go_wp2_with fail
      go_round
      case rel => exact ⟨2, by omega, rfl⟩
      case measure => simp [intOf]
    · go_wp2_with fail
      go_round
      case rel => exact ⟨3, by omega, rfl⟩
      case measure => simp [intOf]
    · have hcnt : Hid (cnt (l.length : Int) = 0) := Lib.hid (by unfold cnt; rw [if_neg (by omega), if_neg (by omega)])
      go_wp2_with (go_at_call 109; refine (count_any _ _).mono ?_; rw [hcnt.out]; rintro e w' ⟨rfl, rfl⟩)
      obtain ⟨g, rfl, hg, hcells⟩ := hR.out h7
      have HC := Lib.hid hcells
      clear hcells hcnt
      go_loopw [37] (fun i wr => ∃ k : Nat, k ≤ l.length ∧ i = .int .i64 k ∧ Below w.heap.size w wr ∧ Hid (chkL (l.drop k) = x)) (fun i _ => l.length - (intOf i).toNat)
      case atStart => exact ⟨0, by omega, rfl, one_box _, by simpa using HX⟩
      case round =>
        obtain ⟨k, hk, rfl, hbel, hX⟩ := hrel
        by_cases hlt : k < l.length
        · obtain ⟨⟨rk, key, tb, val⟩, hr⟩ : ∃ r, l[k]? = some r := ⟨l[k], List.getElem?_eq_getElem hlt⟩
          obtain ⟨z1, z2⟩ := hs.out _ (List.mem_of_getElem? hr)
          have Z1 := Lib.hid z1
          have Z2 := Lib.hid z2
          obtain ⟨c0, c1, c2, c3⟩ := HC.out k _ hr
          have d0 := (hbel.cell (p := ⟨g, k * 4, none⟩) (by show g < _; omega)).trans c0
          have d1 := (hbel.cell (p := ⟨g, k * 4 + 1, none⟩) (by show g < _; omega)).trans c1
          have d2 := (hbel.cell (p := ⟨g, k * 4 + 2, none⟩) (by show g < _; omega)).trans c2
          have d3 := (hbel.cell (p := ⟨g, k * 4 + 3, none⟩) (by show g < _; omega)).trans c3
          have HR := Lib.hid hr
          clear c0 c1 c2 c3 hr z1 z2
          dsimp only at d0 d1 d2 d3 Z1 Z2
          obtain ⟨y, hy⟩ : ∃ y, chk rk key tb val = y := ⟨_, rfl⟩
          have HY := Lib.hid hy
          have hnext := chkL_next HR.out hy
          clear hy
          by_cases hy0 : y = 0
          · subst hy0
            have hX' : Hid (chkL (l.drop (k + 1)) = x) := Lib.hid ((hnext.2 rfl).symm.trans hX.out)
            clear hnext
            go_wp2_with (go_at_call 67; refine (check_any _ _ _ _ _ Z1.out Z2.out).mono ?_; rw [HY.out]; rintro e w1 ⟨rfl, hb1⟩)
            go_roundw
            case rel => exact ⟨k + 1, by omega, by go_num, (hbel.alloc hbel.size _).trans (hb1.mono (by simp; exact Nat.le_succ_of_le hbel.size)), hX'⟩
            case measure => simp [intOf]; omega
          · have hy1 : (y != 0) = true := by simpa using hy0
            obtain rfl : x = y := hX.out.symm.trans (hnext.1 hy0)
            clear hnext hy0
            go_wp2_with (go_at_call 67; refine (check_any _ _ _ _ _ Z1.out Z2.out).mono ?_; rw [HY.out]; rintro e w1 ⟨rfl, hb1⟩)
            go_ret
            exact ⟨rfl, (hbel.alloc hbel.size _).trans (hb1.mono (by simp; exact Nat.le_succ_of_le hbel.size))⟩
        · obtain rfl : k = l.length := by omega
          have hx0 : x = 0 := by have := hX.out; rw [List.drop_length] at this; exact this.symm
          subst hx0
          go_wp2_with fail
          go_ret
          exact ⟨rfl, hbel⟩

set_option maxRecDepth 100000 in
set_option maxHeartbeats 1000000 in
theorem all_arg (p e q : Int) (A : Option Addr) (n cap : Nat) (w : World) (hbad : Hid (p < 0 ∨ 1099511627776 < p ∨ e < 0 ∨ 1099511627776 < e ∨ q < 0 ∨ 1099511627776 < q)) :
    Calls Tryz.prog 115 #[.agg #[.int .i64 p, .int .i64 e, .int .i64 q, .slice A n cap]] w fun e w' => e = .returned (.int .i64 1) ∧ Below w.heap.size w w' := by
  have i0 : ∀ w, (Instr.index 154 (.agg #[.int .i64 p, .int .i64 e, .int .i64 q]) (.int .i64 0)).run Tryz.prog w = .ok (.int .i64 p) w := fun _ => by kernel_rfl
  have i1 : ∀ w, (Instr.index 154 (.agg #[.int .i64 p, .int .i64 e, .int .i64 q]) (.int .i64 1)).run Tryz.prog w = .ok (.int .i64 e) w := fun _ => by kernel_rfl
  have i2 : ∀ w, (Instr.index 154 (.agg #[.int .i64 p, .int .i64 e, .int .i64 q]) (.int .i64 2)).run Tryz.prog w = .ok (.int .i64 q) w := fun _ => by kernel_rfl
  go_enter Tryz.func115, Tryz.ntmps115
  go_wp2_with fail
  go_loop [16] (fun i => ∃ k : Nat, k ≤ 3 ∧ i = .int .i64 k ∧ Hid ((0 < k → 0 ≤ p ∧ p ≤ 1099511627776) ∧ (1 < k → 0 ≤ e ∧ e ≤ 1099511627776) ∧ (2 < k → 0 ≤ q ∧ q ≤ 1099511627776))) (fun i => 3 - (intOf i).toNat)
  case atStart => exact ⟨0, by omega, rfl, Lib.hid ⟨fun h => absurd h (by omega), fun h => absurd h (by omega), fun h => absurd h (by omega)⟩⟩
  case round =>
    obtain ⟨k, hk, rfl, hok⟩ := hrel
    have hk4 : k = 0 ∨ k = 1 ∨ k = 2 ∨ k = 3 := by omega
    rcases hk4 with rfl | rfl | rfl | rfl
    · have hv : p < 0 ∨ (0 ≤ p ∧ 1099511627776 < p) ∨ (0 ≤ p ∧ p ≤ 1099511627776) := by omega
      rcases hv with hv | ⟨hv0, hv⟩ | ⟨hv0, hv⟩
      · go_wp2_with fail
        go_ret
        exact ⟨rfl, one_box _⟩
      · go_wp2_with fail
        go_ret
        exact ⟨rfl, one_box _⟩
      · go_wp2_with fail
        go_round
        case rel => exact ⟨1, by omega, rfl, Lib.hid ⟨fun _ => ⟨hv0, hv⟩, fun h => absurd h (by omega), fun h => absurd h (by omega)⟩⟩
        case measure => simp [intOf]
    · have hv : e < 0 ∨ (0 ≤ e ∧ 1099511627776 < e) ∨ (0 ≤ e ∧ e ≤ 1099511627776) := by omega
      rcases hv with hv | ⟨hv0, hv⟩ | ⟨hv0, hv⟩
      · go_wp2_with fail
        go_ret
        exact ⟨rfl, one_box _⟩
      · go_wp2_with fail
        go_ret
        exact ⟨rfl, one_box _⟩
      · go_wp2_with fail
        go_round
        case rel => exact ⟨2, by omega, rfl, Lib.hid ⟨fun _ => hok.out.1 (by omega), fun _ => ⟨hv0, hv⟩, fun h => absurd h (by omega)⟩⟩
        case measure => simp [intOf]
    · have hv : q < 0 ∨ (0 ≤ q ∧ 1099511627776 < q) ∨ (0 ≤ q ∧ q ≤ 1099511627776) := by omega
      rcases hv with hv | ⟨hv0, hv⟩ | ⟨hv0, hv⟩
      · go_wp2_with fail
        go_ret
        exact ⟨rfl, one_box _⟩
      · go_wp2_with fail
        go_ret
        exact ⟨rfl, one_box _⟩
      · go_wp2_with fail
        go_round
        case rel => exact ⟨3, by omega, rfl, Lib.hid ⟨fun _ => hok.out.1 (by omega), fun _ => hok.out.2.1 (by omega), fun _ => ⟨hv0, hv⟩⟩⟩
        case measure => simp [intOf]
    · exfalso
      have b1 := hok.out.1 (by omega)
      have b2 := hok.out.2.1 (by omega)
      have b3 := hok.out.2.2 (by omega)
      have b := hbad.out
      omega

set_option maxRecDepth 100000 in
set_option maxHeartbeats 1000000 in
theorem all_cnt (p e q : Int) (A : Option Addr) (n cap : Nat) (x : Int) (w : World) (hl : n ≤ maxLen) (h1 : 0 ≤ p) (h2 : p ≤ 1099511627776) (h3 : 0 ≤ e) (h4 : e ≤ 1099511627776) (h5 : 0 ≤ q) (h6 : q ≤ 1099511627776)
    (hc : Hid (cnt (n : Int) = x)) (hx : (x != 0) = true) :
    Calls Tryz.prog 115 #[.agg #[.int .i64 p, .int .i64 e, .int .i64 q, .slice A n cap]] w fun e w' => e = .returned (.int .i64 x) ∧ Below w.heap.size w w' := by
  unfold maxLen at hl
  have i0 : ∀ w, (Instr.index 154 (.agg #[.int .i64 p, .int .i64 e, .int .i64 q]) (.int .i64 0)).run Tryz.prog w = .ok (.int .i64 p) w := fun _ => by kernel_rfl
  have i1 : ∀ w, (Instr.index 154 (.agg #[.int .i64 p, .int .i64 e, .int .i64 q]) (.int .i64 1)).run Tryz.prog w = .ok (.int .i64 e) w := fun _ => by kernel_rfl
  have i2 : ∀ w, (Instr.index 154 (.agg #[.int .i64 p, .int .i64 e, .int .i64 q]) (.int .i64 2)).run Tryz.prog w = .ok (.int .i64 q) w := fun _ => by kernel_rfl
  go_enter Tryz.func115, Tryz.ntmps115
  go_wp2_with fail
  go_loop [16] (fun i => ∃ k : Nat, k ≤ 3 ∧ i = .int .i64 k) (fun i => 3 - (intOf i).toNat)
  case atStart => exact ⟨0, by omega, rfl⟩
  case round =>
    obtain ⟨k, hk, rfl⟩ := hrel
    have hk4 : k = 0 ∨ k = 1 ∨ k = 2 ∨ k = 3 := by omega
    rcases hk4 with rfl | rfl | rfl | rfl
    · go_wp2_with fail
      go_round
      case rel => exact ⟨1, by omega, rfl⟩
      case measure => simp [intOf]
    · go_wp2_with fail
      go_round
      case rel => exact ⟨2, by omega, rfl⟩
      case measure => simp [intOf]
    · go_wp2_with fail
      go_round
      case rel => exact ⟨3, by omega, rfl⟩
      case measure => simp [intOf]
    · go_wp2_with (go_at_call 109; refine (count_any _ _).mono ?_; rw [hc.out]; rintro e w' ⟨rfl, rfl⟩)
      go_ret
      exact ⟨rfl, one_box _⟩

theorem all_is (p e q : Int) (A : Option Addr) (l : List R) (cap B : Nat) (x : Int) (w : World) (hR : Hid (Reads w B A l)) (hB : B ≤ w.heap.size) (hl : l.length ≤ 20) (hs : Hid (∀ r ∈ l, r.key.size ≤ maxLen ∧ r.val.size ≤ maxLen)) (HX : Hid (allN p e q l = x)) :
    Calls Tryz.prog 115 #[.agg #[.int .i64 p, .int .i64 e, .int .i64 q, .slice A l.length cap]] w fun e w' => e = .returned (.int .i64 x) ∧ Below w.heap.size w w' := by
  have hx := HX.out
  unfold allN at hx
  by_cases hn : (0 ≤ p ∧ p ≤ 1099511627776) ∧ (0 ≤ e ∧ e ≤ 1099511627776) ∧ (0 ≤ q ∧ q ≤ 1099511627776)
  · rw [if_neg (by simp [numB, hn])] at hx
    by_cases h0 : l.length = 0
    · rw [if_pos h0] at hx
      subst hx
      exact all_cnt p e q A l.length cap 30 w (by unfold maxLen; omega) hn.1.1 hn.1.2 hn.2.1.1 hn.2.1.2 hn.2.2.1 hn.2.2.2 (Lib.hid (by unfold cnt; rw [if_pos (by omega)])) rfl
    · rw [if_neg h0] at hx
      by_cases h1 : 16 < l.length
      · rw [if_pos h1] at hx
        subst hx
        exact all_cnt p e q A l.length cap 2 w (by unfold maxLen; omega) hn.1.1 hn.1.2 hn.2.1.1 hn.2.1.2 hn.2.2.1 hn.2.2.2 (Lib.hid (by unfold cnt; rw [if_neg (by omega), if_pos (by omega)])) rfl
      · rw [if_neg h1] at hx
        exact all_ok p e q A l cap B x w hR hB hl hs hn.1.1 hn.1.2 hn.2.1.1 hn.2.1.2 hn.2.2.1 hn.2.2.2 (by omega) (by omega) (Lib.hid hx)
  · have hb : (numB p && numB e && numB q) = false := by
      simp only [numB, Bool.and_eq_false_iff, decide_eq_false_iff_not]
      omega
    rw [if_pos hb] at hx
    subst hx
    exact all_arg p e q A l.length cap w (Lib.hid (by omega))
end Go.Proofs.YtijofikpdhapoaaGreat.L3
/-
  Contracts: a record cut short; what is a slice of records.
-/
namespace Go.Proofs.YtijofikpdhapoaaGreat.L3
open Go.RowKit

def cutS (s : ByteArray) (m : Int) : ByteArray := s.extract 0 (min (s.size : Int) m).toNat
def R.cut (r : R) : R := ⟨r.hk, cutS r.key 80, r.tb, cutS r.val 600⟩
theorem cutS_size (s : ByteArray) (m : Nat) : (cutS s m).size ≤ m := by
  unfold cutS; rw [ByteArray.size_extract]; omega

/-! ### Slices of records -/
/-- a slice that reads as these records, in a block below B, from a place on -/
def ReadsO (w : World) (B : Nat) (A : Option Addr) (l : List R) : Prop :=
  0 < l.length → ∃ g o, A = some ⟨g, o, none⟩ ∧ g < B ∧ ∀ i r, l[i]? = some r →
    w.cell? ⟨g, o + i * 4, none⟩ = some (.bool r.hk) ∧ w.cell? ⟨g, o + i * 4 + 1, none⟩ = some (.string r.key) ∧ w.cell? ⟨g, o + i * 4 + 2, none⟩ = some (.bool r.tb) ∧ w.cell? ⟨g, o + i * 4 + 3, none⟩ = some (.string r.val)

theorem Reads.o {w : World} {B : Nat} {A : Option Addr} {l : List R} (h : Reads w B A l) : ReadsO w B A l := fun h0 => by
  obtain ⟨g, e, hg, hc⟩ := h h0
  exact ⟨g, 0, e, hg, fun i r hr => by simpa using hc i r hr⟩
theorem Reads.below {w w' : World} {B : Nat} {A : Option Addr} {l : List R} (h : Reads w B A l) (hb : Below B w w') : Reads w' B A l := fun h0 => by
  obtain ⟨g, e, hg, hc⟩ := h h0
  refine ⟨g, e, hg, fun i r hr => ?_⟩
  obtain ⟨c0, c1, c2, c3⟩ := hc i r hr
  exact ⟨(hb.cell (p := ⟨g, i * 4, none⟩) hg).trans c0, (hb.cell (p := ⟨g, i * 4 + 1, none⟩) hg).trans c1, (hb.cell (p := ⟨g, i * 4 + 2, none⟩) hg).trans c2, (hb.cell (p := ⟨g, i * 4 + 3, none⟩) hg).trans c3⟩
theorem Reads.mono {w : World} {B B' : Nat} {A : Option Addr} {l : List R} (h : Reads w B A l) (hB : B ≤ B') : Reads w B' A l := fun h0 => by
  obtain ⟨g, e, hg, hc⟩ := h h0
  exact ⟨g, e, by omega, hc⟩
theorem ReadsO.below {w w' : World} {B : Nat} {A : Option Addr} {l : List R} (h : ReadsO w B A l) (hb : Below B w w') : ReadsO w' B A l := fun h0 => by
  obtain ⟨g, o, e, hg, hc⟩ := h h0
  refine ⟨g, o, e, hg, fun i r hr => ?_⟩
  obtain ⟨c0, c1, c2, c3⟩ := hc i r hr
  exact ⟨(hb.cell (p := ⟨g, o + i * 4, none⟩) hg).trans c0, (hb.cell (p := ⟨g, o + i * 4 + 1, none⟩) hg).trans c1, (hb.cell (p := ⟨g, o + i * 4 + 2, none⟩) hg).trans c2, (hb.cell (p := ⟨g, o + i * 4 + 3, none⟩) hg).trans c3⟩

/-- the cells of records, one behind the other -/
def rowOf : List R → List Value
  | [] => []
  | r :: t => .bool r.hk :: .string r.key :: .bool r.tb :: .string r.val :: rowOf t
theorem rowOf_len : ∀ l, (rowOf l).length = l.length * 4
  | [] => rfl
  | r :: t => by show (rowOf t).length + 1 + 1 + 1 + 1 = (t.length + 1) * 4; rw [rowOf_len t]; omega
theorem rowOf_app : ∀ a b, rowOf (a ++ b) = rowOf a ++ rowOf b
  | [], b => rfl
  | r :: t, b => by show _ :: _ :: _ :: _ :: rowOf (t ++ b) = _; rw [rowOf_app t b]; rfl
theorem rowOf_at : ∀ (l : List R) (i : Nat) (r : R), l[i]? = some r → (rowOf l)[i * 4]? = some (.bool r.hk) ∧ (rowOf l)[i * 4 + 1]? = some (.string r.key) ∧ (rowOf l)[i * 4 + 2]? = some (.bool r.tb) ∧ (rowOf l)[i * 4 + 3]? = some (.string r.val)
  | [], i, r, h => by simp at h
  | q :: t, 0, r, h => by
    have e : q = r := by simpa using h
    subst e
    exact ⟨rfl, rfl, rfl, rfl⟩
  | q :: t, i + 1, r, h => by
    have h' : t[i]? = some r := by simpa using h
    obtain ⟨a, b, c, d⟩ := rowOf_at t i r h'
    have e : (i + 1) * 4 = i * 4 + 1 + 1 + 1 + 1 := by omega
    rw [e]
    exact ⟨a, b, c, d⟩
theorem rowOf_one : ∀ (l : List R), ∀ u ∈ rowOf l, u.oneCell' = true
  | [], u, h => by simp [rowOf] at h
  | r :: t, u, h => by
    simp only [rowOf, List.mem_cons] at h
    rcases h with rfl | rfl | rfl | rfl | h
    · rfl
    · rfl
    · rfl
    · rfl
    · exact rowOf_one t u h

/-- a row of the call's own reads as its records -/
theorem Reads.own {w : World} {base : Nat} {T : TypeId} {A : Option Addr} {cap : Nat} {l : List R} (h : w.ownsRow base T 4 (.slice A l.length cap) l.length (rowOf l)) : Reads w w.heap.size A l := fun h0 => by
  rcases h.2 with ⟨_, e⟩ | ⟨g, cap', cur, e, hb, hh, _⟩
  · omega
  · injection e with e1 e2 e3
    refine ⟨g, e1, ?_, fun i r hr => ?_⟩
    · rcases Nat.lt_or_ge g w.heap.size with hlt | hge
      · exact hlt
      · rw [Array.getElem?_eq_none hge] at hh; cases hh
    · obtain ⟨a, b, c, d⟩ := rowOf_at l i r hr
      have hc := h.cells (g := g) (by rw [e1]; rfl)
      have ad : ∀ j, (⟨g, 0, none⟩ : Addr).add j = ⟨g, j, none⟩ := fun j => by unfold Addr.add; split <;> simp_all
      refine ⟨?_, ?_, ?_, ?_⟩
      · have := hc _ _ a; rwa [ad] at this
      · have := hc _ _ b; rwa [ad] at this
      · have := hc _ _ c; rwa [ad] at this
      · have := hc _ _ d; rwa [ad] at this

/-- a row of the call's own stays as long as what stood then is as it was -/
theorem own_below {w w' : World} {base : Nat} {T : TypeId} {v : Value} {n m : Nat} {xs : List Value} (h : w.ownsRow base T m v n xs) (hb : Below w.heap.size w w') : w'.ownsRow base T m v n xs := by
  refine ⟨h.1, ?_⟩
  rcases h.2 with e | ⟨g, cap, cur, e, h1, hh, h2⟩
  · exact .inl e
  · have hlt : g < w.heap.size := by
      rcases Nat.lt_or_ge g w.heap.size with hlt | hge
      · exact hlt
      · rw [Array.getElem?_eq_none hge] at hh; cases hh
    exact .inr ⟨g, cap, cur, e, h1, (hb.block g hlt).trans hh, h2⟩
end Go.Proofs.YtijofikpdhapoaaGreat.L3
/-
  Contracts: the document's names, letters, and which text stands ahead.
-/
namespace Go.Proofs.YtijofikpdhapoaaGreat.L4
open Go.RowKit
open L3

/-! ### A name -/
def nameC (c : Nat) : Bool := (decide (97 ≤ c) && decide (c ≤ 122)) || (decide (48 ≤ c) && decide (c ≤ 57)) || decide (c = 45)
def nameB (s : ByteArray) : Bool := decide (1 ≤ s.size ∧ s.size ≤ 16) && (V.nats s).all nameC

theorem nats_at {s : ByteArray} {k : Nat} (h : k < s.size) : (V.nats s)[k]? = some s[k].toNat := by
  have e := V.drop_at s k h
  have : (V.nats s)[k]? = ((V.nats s).drop k)[0]? := by rw [List.getElem?_drop]; rfl
  rw [this, e]
  rfl
theorem all_next {l : List Nat} {p : Nat → Bool} {k c : Nat} (h : (l.take k).all p = true) (hc : l[k]? = some c) (hp : p c = true) : (l.take (k + 1)).all p = true := by
  rw [List.take_add_one, hc, List.all_append, h]
  simp [hp]
theorem all_not {l : List Nat} {p : Nat → Bool} {k c : Nat} (hc : l[k]? = some c) (hp : p c = false) : l.all p = false := by
  rw [List.all_eq_false]
  exact ⟨c, List.mem_of_getElem? hc, by simp [hp]⟩

theorem name_ways (b : Nat) : ((b : Int) < 97 ∧ (b : Int) < 48 ∧ ((b : Int) == 45) = false ∧ nameC b = false) ∨ ((b : Int) < 97 ∧ (b : Int) < 48 ∧ ((b : Int) == 45) = true ∧ nameC b = true) ∨ ((b : Int) < 97 ∧ (48 : Int) ≤ b ∧ (b : Int) ≤ 57 ∧ nameC b = true) ∨
    ((b : Int) < 97 ∧ (48 : Int) ≤ b ∧ ¬ (b : Int) ≤ 57 ∧ ((b : Int) == 45) = false ∧ nameC b = false) ∨ ((97 : Int) ≤ b ∧ (b : Int) ≤ 122 ∧ nameC b = true) ∨ ((97 : Int) ≤ b ∧ ¬ (b : Int) ≤ 122 ∧ (48 : Int) ≤ b ∧ ¬ (b : Int) ≤ 57 ∧ ((b : Int) == 45) = false ∧ nameC b = false) := by
  simp only [nameC, beq_iff_eq, beq_eq_false_iff_ne, Bool.or_eq_true, Bool.and_eq_true, decide_eq_true_eq, Bool.or_eq_false_iff, Bool.and_eq_false_iff, decide_eq_false_iff_not]
  omega
set_option maxRecDepth 100000 in
set_option maxHeartbeats 2000000 in
theorem rname_any (s : ByteArray) (w : World) (hs : s.size ≤ maxLen) :
    Calls Tryz.prog 53 #[.string s] w fun e w' => e = .returned (.bool (nameB s)) ∧ w = w' := by
  unfold maxLen at hs
  by_cases hn : 1 ≤ s.size ∧ s.size ≤ 16
  · have n1 : ((1 : Int)) ≤ (s.size : Int) := by omega
    have n2 : (s.size : Int) ≤ 16 := by omega
    have hb : nameB s = (V.nats s).all nameC := by unfold nameB; rw [decide_eq_true hn, Bool.true_and]
    rw [hb]
    clear hb hn hs
    go_enter Tryz.func53, Tryz.ntmps53
    go_wp2_with fail
    go_loop [3] (fun i => ∃ k : Nat, k ≤ s.size ∧ i = .int .i64 k ∧ Hid (((V.nats s).take k).all nameC = true)) (fun i => s.size - (intOf i).toNat)
    case atStart => exact ⟨0, by omega, rfl, Lib.hid (by simp)⟩
    case round =>
      obtain ⟨k, hk, rfl, hall⟩ := hrel
      by_cases hlt : k < s.size
      · have hat := nats_at hlt
        obtain ⟨b, hb⟩ : ∃ b, s[k].toNat = b := ⟨_, rfl⟩
        rw [hb] at hat
        have hb2 : (s[k].toNat : Int) = (b : Int) := by rw [hb]
        have HA := Lib.hid hat
        have kl : (k : Int) < (s.size : Int) := by omega
        clear hat hb
        have hc : ((b : Int) < 97 ∧ (b : Int) < 48 ∧ ((b : Int) == 45) = false ∧ nameC b = false) ∨ ((b : Int) < 97 ∧ (b : Int) < 48 ∧ ((b : Int) == 45) = true ∧ nameC b = true) ∨ ((b : Int) < 97 ∧ (48 : Int) ≤ b ∧ (b : Int) ≤ 57 ∧ nameC b = true) ∨
            ((b : Int) < 97 ∧ (48 : Int) ≤ b ∧ ¬ (b : Int) ≤ 57 ∧ ((b : Int) == 45) = false ∧ nameC b = false) ∨ ((97 : Int) ≤ b ∧ (b : Int) ≤ 122 ∧ nameC b = true) ∨ ((97 : Int) ≤ b ∧ ¬ (b : Int) ≤ 122 ∧ (48 : Int) ≤ b ∧ ¬ (b : Int) ≤ 57 ∧ ((b : Int) == 45) = false ∧ nameC b = false) := name_ways b
        rcases hc with ⟨c1, c2, c3, hg⟩ | ⟨c1, c2, c3, hg⟩ | ⟨c1, c2, c3, hg⟩ | ⟨c1, c2, c3, c4, hg⟩ | ⟨c1, c2, hg⟩ | ⟨c1, c2, c3, c4, c5, hg⟩
        all_goals first
          | (have HNX := Lib.hid (all_next hall.out HA.out hg)
             clear hg
             go_wp2_with fail
             go_round
             case rel => exact ⟨k + 1, by omega, by go_num, HNX⟩
             case measure => simp [intOf]; omega)
          | (have HNX := Lib.hid (all_not HA.out hg)
             clear hg
             go_wp2_with fail
             go_ret
             exact ⟨congrArg Ending.returned (congrArg Value.bool HNX.out.symm), rfl⟩)
      · obtain rfl : k = s.size := by omega
        go_wp2_with fail
        go_ret
        have := hall.out
        rw [List.take_of_length_le (by rw [V.nats_len]; omega)] at this
        exact ⟨congrArg Ending.returned (congrArg Value.bool this.symm), rfl⟩
  · have hb : nameB s = false := by unfold nameB; rw [decide_eq_false hn, Bool.false_and]
    rw [hb]
    have hc : (s.size : Int) < 1 ∨ (1 : Int) ≤ s.size ∧ 16 < (s.size : Int) := by omega
    clear hb hn
    rcases hc with c1 | ⟨c1, c2⟩
    all_goals
      go_enter Tryz.func53, Tryz.ntmps53
      go_wp2_with fail
      go_ret
      exact ⟨rfl, rfl⟩

/-- is a byte among a text's? -/
def amB (s : ByteArray) (c : Nat) : Bool := decide (c ∈ V.nats s)
set_option maxRecDepth 100000 in
set_option maxHeartbeats 2000000 in
theorem ramong_is (s : ByteArray) (c : Nat) (v : Bool) (w : World) (hs : s.size ≤ maxLen) (HV : Hid (amB s c = v)) :
    Calls Tryz.prog 52 #[.string s, .int .u8 c] w fun e w' => e = .returned (.bool v) ∧ w = w' := by
  unfold maxLen at hs
  go_enter Tryz.func52, Tryz.ntmps52
  go_wp2_with fail
  go_loop [5] (fun i => ∃ k : Nat, k ≤ s.size ∧ i = .int .i64 k ∧ Hid (¬ c ∈ (V.nats s).take k)) (fun i => s.size - (intOf i).toNat)
  case atStart => exact ⟨0, by omega, rfl, Lib.hid (by simp)⟩
  case round =>
    obtain ⟨k, hk, rfl, hall⟩ := hrel
    by_cases hlt : k < s.size
    · have hat := nats_at hlt
      obtain ⟨b, hb⟩ : ∃ b, s[k].toNat = b := ⟨_, rfl⟩
      rw [hb] at hat
      have HA := Lib.hid hat
      have kl : (k : Int) < (s.size : Int) := by omega
      have hb2 : (s[k].toNat : Int) = (b : Int) := by rw [hb]
      clear hat hb
      by_cases hc : b = c
      · subst hc
        have HC : Hid (v = true) := Lib.hid (by rw [← HV.out]; exact decide_eq_true (List.mem_of_getElem? HA.out))
        clear HV
        go_wp2_with fail
        go_ret
        exact ⟨congrArg Ending.returned (congrArg Value.bool HC.out.symm), rfl⟩
      · have hne : ((b : Int) == (c : Int)) = false := by simpa using (by omega : (b : Int) ≠ c)
        have HNX : Hid (¬ c ∈ (V.nats s).take (k + 1)) := Lib.hid (by
          rw [List.take_add_one, HA.out]
          intro h
          rcases List.mem_append.1 h with h | h
          · exact hall.out h
          · simp at h
            exact hc h.symm)
        clear hc
        go_wp2_with fail
        go_round
        case rel => exact ⟨k + 1, by omega, by go_num, HNX⟩
        case measure => simp [intOf]; omega
    · obtain rfl : k = s.size := by omega
      have H : Hid (v = false) := Lib.hid (by
        have := hall.out
        rw [List.take_of_length_le (by rw [V.nats_len]; omega)] at this
        rw [← HV.out]
        exact decide_eq_false this)
      go_wp2_with fail
      go_ret
      exact ⟨congrArg Ending.returned (congrArg Value.bool H.out.symm), rfl⟩

/-! ### What a kind has -/
def hasS : Nat → ByteArray
  | 0 => ⟨#[116, 110]⟩
  | 1 => ⟨#[110]⟩
  | 2 => ⟨#[112, 98]⟩
  | 3 => ⟨#[112, 111, 110]⟩
  | 4 => ⟨#[112, 111]⟩
  | 5 => ⟨#[112]⟩
  | 6 => ⟨#[103, 109, 110, 114, 108]⟩
  | 7 => ⟨#[103, 109, 101]⟩
  | 8 => ⟨#[103, 109, 101]⟩
  | 9 => ⟨#[103, 109, 101]⟩
  | 10 => ⟨#[103, 109, 101, 112, 111]⟩
  | 11 => ⟨#[103, 112]⟩
  | _ => ⟨#[110]⟩
set_option maxRecDepth 100000 in
set_option maxHeartbeats 4000000 in
theorem rhas_is (k : Nat) (w : World) (hk : k ≤ 12) :
    Calls Tryz.prog 9 #[.int .i64 k] w fun e w' => e = .returned (.string (hasS k)) ∧ Below w.heap.size w w' := by
  have hc : k = 0 ∨ k = 1 ∨ k = 2 ∨ k = 3 ∨ k = 4 ∨ k = 5 ∨ k = 6 ∨ k = 7 ∨ k = 8 ∨ k = 9 ∨ k = 10 ∨ k = 11 ∨ k = 12 := by omega
  clear hk
  rcases hc with rfl | rfl | rfl | rfl | rfl | rfl | rfl | rfl | rfl | rfl | rfl | rfl | rfl
  all_goals
    go_enter Tryz.func9, Tryz.ntmps9
    go_wp2_with fail
    go_ret
    exact ⟨rfl, (Below.refl _ _).alloc (Nat.le_refl _) _⟩

end Go.Proofs.YtijofikpdhapoaaGreat.L4
/-
  Contracts: whether two batches are the same.
-/
namespace Go.Proofs.YtijofikpdhapoaaGreat.L3
open Go.RowKit

theorem R.same_parts {a b : R} : a = b ↔ a.hk = b.hk ∧ a.key = b.key ∧ a.tb = b.tb ∧ a.val = b.val := by
  cases a; cases b; simp

set_option maxRecDepth 100000 in
set_option maxHeartbeats 1000000 in
theorem records_len (A A' : Option Addr) (n m cap cap' : Nat) (w : World) (h : n ≠ m) :
    Calls Tryz.prog 35 #[.slice A n cap, .slice A' m cap'] w fun e w' => e = .returned (.bool false) ∧ w = w' := by
  have h1 : ((n : Int) != (m : Int)) = true := by simp; omega
  clear h
  go_enter Tryz.func35, Tryz.ntmps35
  go_wp2_with fail
  go_ret
  exact ⟨rfl, rfl⟩

theorem drewN_below {B : Nat} {w w1 : World} (h : Below B w w1) (n : Nat) : Below B w (w1.drewN n) := ⟨h.os, h.tape, h.output, h.size, h.block⟩

set_option maxRecDepth 100000 in
set_option maxHeartbeats 2000000 in
theorem records_same (A A' : Option Addr) (l : List R) (cap cap' B : Nat) (w : World) (hR : Hid (Reads w B A l)) (hR' : Hid (Reads w B A' l)) (hB : B ≤ w.heap.size) (hl : l.length ≤ maxLen) :
    Calls Tryz.prog 35 #[.slice A l.length cap, .slice A' l.length cap'] w fun e w' => e = .returned (.bool true) ∧ Below w.heap.size w w' := by
  unfold maxLen at hl
  go_enter Tryz.func35, Tryz.ntmps35
  go_wp2_with fail
  go_loopw [5] (fun i wr => ∃ k : Nat, k ≤ l.length ∧ i = .int .i64 k ∧ Below w.heap.size w wr) (fun i _ => l.length - (intOf i).toNat)
  case atStart => exact ⟨0, by omega, rfl, Below.refl _ _⟩
  case round =>
    obtain ⟨k, hk, rfl, hbel⟩ := hrel
    by_cases hlt : k < l.length
    · obtain ⟨g, rfl, hg, hcells⟩ := hR.out (by omega)
      obtain ⟨g', rfl, hg', hcells'⟩ := hR'.out (by omega)
      obtain ⟨⟨rk, key, tb, val⟩, hr⟩ : ∃ r, l[k]? = some r := ⟨l[k], List.getElem?_eq_getElem hlt⟩
      obtain ⟨c0, c1, c2, c3⟩ := hcells k _ hr
      obtain ⟨b0, b1, b2, b3⟩ := hcells' k _ hr
      have d0 := (hbel.cell (p := ⟨g, k * 4, none⟩) (by show g < _; omega)).trans c0
      have d1 := (hbel.cell (p := ⟨g, k * 4 + 1, none⟩) (by show g < _; omega)).trans c1
      have d2 := (hbel.cell (p := ⟨g, k * 4 + 2, none⟩) (by show g < _; omega)).trans c2
      have d3 := (hbel.cell (p := ⟨g, k * 4 + 3, none⟩) (by show g < _; omega)).trans c3
      have e0 := (hbel.cell (p := ⟨g', k * 4, none⟩) (by show g' < _; omega)).trans b0
      have e1 := (hbel.cell (p := ⟨g', k * 4 + 1, none⟩) (by show g' < _; omega)).trans b1
      have e2 := (hbel.cell (p := ⟨g', k * 4 + 2, none⟩) (by show g' < _; omega)).trans b2
      have e3 := (hbel.cell (p := ⟨g', k * 4 + 3, none⟩) (by show g' < _; omega)).trans b3
      clear c0 c1 c2 c3 b0 b1 b2 b3 hcells hcells' hr
      dsimp only at d0 d1 d2 d3 e0 e1 e2 e3
      have k0 : (0 : Int) ≤ (k : Int) := by omega
      have k1 : (k : Int) < (l.length : Int) := by omega
      go_wp2_with fail
      go_quiet (fail)
      go_wp2_with fail
      exact ⟨⟨k + 1, by omega, by go_num, drewN_below hbel nq⟩, by simp [intOf]; omega⟩
    · obtain rfl : k = l.length := by omega
      go_wp2_with fail
      go_ret
      exact ⟨rfl, hbel⟩

set_option maxRecDepth 100000 in
set_option maxHeartbeats 2000000 in
theorem same_yes (p e q : Int) (A A' : Option Addr) (l : List R) (cap cap' B : Nat) (w : World) (hR : Hid (Reads w B A l)) (hR' : Hid (Reads w B A' l)) (hB : B ≤ w.heap.size) (hl : l.length ≤ maxLen) :
    Calls Tryz.prog 16 #[.agg #[.int .i64 p, .int .i64 e, .int .i64 q, .slice A l.length cap], .agg #[.int .i64 p, .int .i64 e, .int .i64 q, .slice A' l.length cap']] w fun e' w' => e' = .returned (.bool true) ∧ Below w.heap.size w w' := by
  have HL := Lib.hid hl
  clear hl
  go_enter Tryz.func16, Tryz.ntmps16
  go_wp2_with (go_at_call 35; refine (records_same _ _ _ _ _ B _ (Lib.hid (hR.out.below ((L3.two_box _ _).mono hB))) (Lib.hid (hR'.out.below ((L3.two_box _ _).mono hB))) (by simp; omega) HL.out).mono ?_; rintro e w1 ⟨rfl, hb1⟩)
  go_ret
  exact ⟨rfl, (L3.two_box _ _).trans (hb1.mono (by simp; omega))⟩
end Go.Proofs.YtijofikpdhapoaaGreat.L3
