/-
  Contracts: a segment's small calls.
-/
import Derived.Test.YtflcggpeflagiaaSegMath
import Derived.Test.YtflcggpeflagiaaMRecRall
import Derived.Test.YtflcggpeflagiaaMSmall
import Derived.LoopTactic
import Derived.BigQuiet
import Derived.Deep.QuietTactic
namespace Go.Proofs.Ytflcggpeflagiaa.L5
open Go.RowKit
open L3 L4

theorem offset_is (n : Int) (b : Bool) (w : World) (HB : Hid (numB n = b)) :
    Calls Try.prog 64 #[.int .i64 n] w fun e w' => e = .returned (.bool b) ∧ w = w' := by
  go_enter Try.func64, Try.ntmps64
  go_wp2_with fail
  all_goals
    go_ret
    refine ⟨congrArg (fun b => Ending.returned (.bool b)) ?_, rfl⟩
    rw [← HB.out]
    unfold numB
    simp [*]
    try omega

set_option maxHeartbeats 1000000 in
theorem marks_is {T : TypeId} {w : World} {g : Nat} {A : Option Addr} {cap : Nat} {base next : Int} {L : List L4.Fd} (n m : Nat) (h : Hid (Seg T w g A cap base next L)) (hn : L.length = n) (hl : n ≤ 64) (hm : (n + 7) / 8 = m) :
    Calls Try.prog 68 #[.pointer (some ⟨g, 0, none⟩)] w fun e w' => e = .returned (.int .i64 m) ∧ w = w' := by
  have c2 := h.out.c2
  rw [hn] at c2
  have e1 : wrap64 (wrap64 ((n : Int) + 8) - 1) = (n : Int) + 7 := by simp only [wrap64]; omega
  have e2 : wrap64 (((n : Int) + 7).tdiv 8) = (m : Int) := by
    rw [Int.tdiv_eq_ediv_of_nonneg (by omega)]
    simp only [wrap64]; omega
  clear hn
  go_enter Try.func68, Try.ntmps68
  go_wp2_with fail
  go_ret
  refine ⟨ret_int ?_, rfl⟩
  first | rfl | omega | simp [*]

theorem len_is {T : TypeId} {w : World} {g : Nat} {A : Option Addr} {cap : Nat} {base next : Int} {L : List L4.Fd} (h : Hid (Seg T w g A cap base next L)) :
    Calls Try.prog 27 #[.pointer (some ⟨g, 0, none⟩)] w fun e w' => e = .returned (.int .i64 L.length) ∧ w = w' := by
  have c2 := h.out.c2
  go_enter Try.func27, Try.ntmps27
  go_wp2_with fail
  go_ret
  exact ⟨rfl, rfl⟩

set_option maxHeartbeats 1000000 in
theorem span_is {T : TypeId} {w : World} {g : Nat} {A : Option Addr} {cap : Nat} {base next : Int} {L : List L4.Fd} (h : Hid (Seg T w g A cap base next L)) :
    Calls Try.prog 52 #[.pointer (some ⟨g, 0, none⟩)] w fun e w' => e = .returned (.tuple #[.int .i64 base, .int .i64 next]) ∧ Below w.heap.size w w' := by
  have c0 := h.out.c0
  have c1 := h.out.c1
  go_enter Try.func52, Try.ntmps52
  go_wp2_with fail
  go_quiet (fail)
  go_wp2_with fail
  refine bodyPost_ret (v := .tuple #[.int .i64 base, .int .i64 next]) (by simp [results, Try.results52, go_sem]) rfl ⟨rfl, ?_⟩
  exact drewN_below (Below.refl _ _) _

set_option maxRecDepth 100000 in
set_option maxHeartbeats 2000000 in
theorem rise_is (a n : Int) (A : Option Addr) (l : List L4.Fd) (cap B : Nat) (b : Bool) (w : World) (hR : Hid (ReadsF w B A l)) (hB : B ≤ w.heap.size) (hl : l.length ≤ maxLen) (h0 : 0 ≤ a) (hn : n ≤ 1099511627776) (HB : Hid (riseB a n l = b)) :
    Calls Try.prog 65 #[.int .i64 a, .int .i64 n, .slice A l.length cap] w fun e w' => e = .returned (.bool b) ∧ Below w.heap.size w w' := by
  unfold maxLen at hl
  go_enter Try.func65, Try.ntmps65
  go_wp2_with fail
  go_loopw [0, 11] (fun s i wr => ∃ (k : Nat) (a' : Int), k ≤ l.length ∧ 0 ≤ a' ∧ i = .int .i64 k ∧ s = .int .i64 a' ∧ Hid (riseB a' n (l.drop k) = b) ∧ Below w.heap.size w wr) (fun _ i _ => l.length - (intOf i).toNat)
  case atStart => exact ⟨0, a, by omega, h0, rfl, rfl, Lib.hid (by simpa using HB.out), Below.refl _ _⟩
  case round =>
    obtain ⟨k, a', hk, ha0, rfl, rfl, hb, hbel⟩ := hrel
    by_cases hlt : k < l.length
    · obtain ⟨g, rfl, hg, hcells⟩ := hR.out (by omega)
      obtain ⟨⟨o, ⟨rk, key, tb, val⟩⟩, hs⟩ : ∃ s, l[k]? = some s := ⟨l[k], List.getElem?_eq_getElem hlt⟩
      obtain ⟨c0, c1, c2, c3, c4⟩ := hcells k _ hs
      have d0 := (hbel.cell (p := ⟨g, k * 5, none⟩) (by show g < _; omega)).trans c0
      have d1 := (hbel.cell (p := ⟨g, k * 5 + 1, none⟩) (by show g < _; omega)).trans c1
      have d2 := (hbel.cell (p := ⟨g, k * 5 + 2, none⟩) (by show g < _; omega)).trans c2
      have d3 := (hbel.cell (p := ⟨g, k * 5 + 3, none⟩) (by show g < _; omega)).trans c3
      have d4 := (hbel.cell (p := ⟨g, k * 5 + 4, none⟩) (by show g < _; omega)).trans c4
      have k0 : (0 : Int) ≤ (k : Int) := by omega
      have k1 : (k : Int) < (l.length : Int) := by omega
      have hnx := rise_next (a := a') (n := n) hs
      rw [hb.out] at hnx
      have HNX := Lib.hid hnx
      clear c0 c1 c2 c3 c4 hcells hs hb hnx
      dsimp only at d0 d1 d2 d3 d4
      by_cases h1 : o < a'
      · have HF : Hid (b = false) := Lib.hid (by rw [HNX.out]; simp; intro h; omega)
        clear HNX
        go_wp2_with fail
        go_ret
        exact ⟨congrArg Ending.returned (congrArg Value.bool HF.out.symm), hbel.alloc hbel.size _⟩
      · by_cases h2 : n ≤ o
        · have HF : Hid (b = false) := Lib.hid (by rw [HNX.out]; simp; intro _ h; omega)
          clear HNX
          have h2' : ¬ o < n := by omega
          go_wp2_with fail
          go_ret
          exact ⟨congrArg Ending.returned (congrArg Value.bool HF.out.symm), hbel.alloc hbel.size _⟩
        · have HX : Hid (riseB (o + 1) n (l.drop (k + 1)) = b) := Lib.hid (by
            have := HNX.out
            rw [show decide (a' ≤ o) = true by simp; omega, show decide (o < n) = true by simp; omega] at this
            simpa using this.symm)
          have e1 : wrap64 (o + 1) = o + 1 := by simp only [wrap64]; omega
          clear HNX
          have h2' : o < n := by omega
          go_wp2_with fail
          go_roundw
          case rel => exact ⟨k + 1, o + 1, by omega, by omega, by go_num, by first | rfl | rw [e1], HX, hbel.alloc hbel.size _⟩
          case measure => simp [intOf]; omega
    · obtain rfl : k = l.length := by omega
      have HT : Hid (b = true) := Lib.hid (by have := hb.out; rw [List.drop_length] at this; exact this.symm)
      go_wp2_with fail
      go_ret
      exact ⟨congrArg Ending.returned (congrArg Value.bool HT.out.symm), hbel⟩
end Go.Proofs.Ytflcggpeflagiaa.L5
