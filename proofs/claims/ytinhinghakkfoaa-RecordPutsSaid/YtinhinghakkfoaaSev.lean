/-
  The contract of a number's sevens: what the loop over them is handed, and how many they are.
-/
import Derived.RangeFuncNested
import Derived.RangeFuncBound
import Derived.RangeFuncCalls
import Derived.RangeFuncLeaves
import Derived.RangeFuncBox
import Derived.RangeFuncMany
import Derived.Shelf.Abstract
import Derived.Shelf.RegionOpen
import Derived.WalkKit
import Derived.OwnWalkIn
import Derived.TacticsInMore
import Derived.LoopNIn
import Derived.LoopIn
import Derived.Maps.AppendAt
import Derived.Outline
import Derived.Lib.Hide
import Derived.Test.YtinhinghakkfoaaProg
import Derived.Test.YtinhinghakkfoaaBits
namespace Go.Proofs.Ytinhinghakkfoaa
open Go.RowKit Go.Shelf

attribute [local go_sem] Oper.semAt_some

/-- the sevens of a number, the lowest first, each with whether it is the last one -/
def svs (n : Nat) : List (Int × Bool) := if n < 128 then [((n : Int), true)] else (((n % 128 : Nat) : Int), false) :: svs (n / 128)
termination_by n
decreasing_by omega
theorem svs_small {n : Nat} (h : n < 128) : svs n = [((n : Int), true)] := by rw [svs, if_pos h]
theorem svs_big {n : Nat} (h : ¬ n < 128) : svs n = (((n % 128 : Nat) : Int), false) :: svs (n / 128) := by rw [svs, if_neg h]

abbrev encs (x : Int × Bool) : Array Value := #[.int .u8 x.1, .bool x.2]

set_option maxRecDepth 100000 in
set_option maxHeartbeats 1000000 in
theorem sevens1_in (F : Fence) (k : Nat) (hf : F.fn 44) (hro : F.round = none) (hk : 1 ≤ k) (l Bn n₀ n : Nat) (hn : n < 18446744073709551616) (J Jx : List (Int × Bool) → World → Prop)
    (hY : ∀ pre x W, J pre W → pre.length < (svs n).length → YieldAt F (k - 1) Try.prog l (encs x) W fun e W' =>
      (e = .returned (.bool true) ∧ J (pre ++ [x]) W' ∧ Below n₀ W W') ∨ (e = .returned (.bool false) ∧ Jx (pre ++ [x]) W'))
    (W : World) (hBn : W.cell? ⟨Bn, 0, none⟩ = some (.int .u64 n)) (h0 : J [] W) :
    CallsIn F k Try.prog 44 #[.func (.yield l) #[] #[], .pointer (some ⟨Bn, 0, none⟩)] W fun e W' => (∃ v, e = .returned v) ∧
      ((∃ ys, ys = svs n ∧ J ys W') ∨ (∃ pre, pre <+: svs n ∧ Jx pre W')) := by
  refine callsIn_of_wp Try.func44 rfl hf ?_ hro
  simp only [Try.ntmps44, List.size_toArray, List.length_cons, List.length_nil, Nat.reduceAdd, Nat.reduceSub, Array.replicate_succ, Array.replicate_zero, List.push_toArray, List.append_toArray, List.nil_append, List.cons_append]
  gi_wp2
  gi_loopw [3] (fun p wr => ∃ (pre : List (Int × Bool)) (m : Nat), p = .int .u64 m ∧ m < 18446744073709551616 ∧ svs n = pre ++ svs m ∧ J pre wr)
    (fun p _ => (intOf p).toNat)
  case atStart =>
    exact ⟨[], n, rfl, hn, rfl, h0⟩
  case round =>
    obtain ⟨pre, m, rfl, hm, hx, hJs⟩ := hrel
    by_cases hlt : m < 128
    · rw [svs_small hlt] at hx
      have hlow : ((bits .andNot .u8 (m : Int) 128, decide ((m : Int) < 128)) : Int × Bool) = ((m : Int), true) := by
        rw [V.u8_low _ (by omega) (by omega), decide_eq_true (by omega)]
        congr 1; omega
      obtain ⟨fn, tmps, assign, body, hy, hR⟩ := hY pre (bits .andNot .u8 (m : Int) 128, decide ((m : Int) < 128)) wr hJs (by rw [hx]; simp)
      rw [hlow] at hR
      dsimp only [encs] at hy
      have HX := Lib.hid hx
      clear hx hlow
      gi_wp2
      refine hR.mono ?_
      rintro e W3 (⟨rfl, hJ3, hk3⟩ | ⟨rfl, hJx3⟩)
      · gi_wp2
        refine bodyPost_ret (results_none rfl _ _ _) rfl ?_
        exact ⟨⟨_, rfl⟩, .inl ⟨_, HX.out.symm, hJ3⟩⟩
      · gi_wp2
        refine bodyPost_ret (results_none rfl _ _ _) rfl ?_
        exact ⟨⟨_, rfl⟩, .inr ⟨_, by rw [HX.out]; exact List.prefix_refl _, hJx3⟩⟩
    · rw [svs_big hlt] at hx
      have hx0 : svs n = (pre ++ [(((m % 128 : Nat) : Int), false)]) ++ svs (m / 128) := by rw [hx]; simp
      have hlow : ((bits .andNot .u8 ((m : Int) % 256) 128, decide ((m : Int) < 128)) : Int × Bool) = (((m % 128 : Nat) : Int), false) := by
        rw [V.u8_low _ (by omega) (by omega), decide_eq_false (by omega)]
        congr 1; omega
      obtain ⟨fn, tmps, assign, body, hy, hR⟩ := hY pre (bits .andNot .u8 ((m : Int) % 256) 128, decide ((m : Int) < 128)) wr hJs (by rw [hx]; simp)
      rw [hlow] at hR
      dsimp only [encs] at hy
      have HX := Lib.hid hx0
      clear hx hx0 hlow
      gi_wp2
      refine hR.mono ?_
      rintro e W3 (⟨rfl, hJ3, hk3⟩ | ⟨rfl, hJx3⟩)
      · gi_wp2
        go_roundw
        case rel => exact ⟨_, m / 128, by simp, by omega, HX.out, hJ3⟩
        case measure => simp [intOf]; omega
      · gi_wp2
        refine bodyPost_ret (results_none rfl _ _ _) rfl ?_
        exact ⟨⟨_, rfl⟩, .inr ⟨_, ⟨_, HX.out.symm⟩, hJx3⟩⟩

set_option maxHeartbeats 1000000 in
theorem sevens_in (F : Fence) (k : Nat) (hf : F.fn 41) (hro : F.round = none) (n : Int) (w : World) :
    CallsIn F k Try.prog 41 #[.int .u64 n] w fun e w' => e = .returned (.func (.func 44) #[] #[.pointer (some ⟨w.heap.size, 0, none⟩)]) ∧ w' = w.alloc (.cells #[.int .u64 n] 51) := by
  refine callsIn_of_wp Try.func41 rfl hf ?_ hro
  simp only [Try.ntmps41, List.size_toArray, List.length_cons, List.length_nil, Nat.reduceAdd, Nat.reduceSub, Array.replicate_succ, Array.replicate_zero, List.push_toArray, List.append_toArray, List.nil_append, List.cons_append]
  gi_wp2
  go_ret
  exact ⟨rfl, rfl⟩

/-- the iterator's contract -/
theorem sevens_stops (F : Fence) (k : Nat) (hf : F.fn 44) (hro : F.round = none) (hk : 1 ≤ k) (Bn n₀ n : Nat) (hn : n < 18446744073709551616) (w : World) (hBn : Bn < w.heap.size)
    (hc : w.cell? ⟨Bn, 0, none⟩ = some (.int .u64 n)) :
    SeqStopsK F k Try.prog 44 #[.pointer (some ⟨Bn, 0, none⟩)] encs (Below n₀) (fun ys => ys = svs n) (fun pre => pre <+: svs n) (svs n).length w := fun l J Jx W hW _ _ hY h0 =>
  sevens1_in F k hf hro hk l Bn n₀ n hn J Jx hY W ((hW.cell (p := ⟨Bn, 0, none⟩) hBn).trans hc) h0
end Go.Proofs.Ytinhinghakkfoaa
