/-
  Contracts: a batch's numbers at a place.
-/
import Derived.Test.YtijofikpdhapoaaGreatMSmall
import Derived.Test.YtijofikpdhapoaaGreatMText
import Derived.Test.YtijofikpdhapoaaGreatRecGet
import Derived.LoopTactic
import Derived.LoopNIn
import Derived.Outline
namespace Go.Proofs.YtijofikpdhapoaaGreat.L3
open Go.RowKit

/-- numbers in a row of four -/
def rowN (l : List Nat) : Array Value := #[.int .u64 (l.getD 0 0 : Nat), .int .u64 (l.getD 1 0 : Nat), .int .u64 (l.getD 2 0 : Nat), .int .u64 (l.getD 3 0 : Nat)]

set_option maxRecDepth 100000 in
set_option maxHeartbeats 4000000 in
theorem nums_any (s : ByteArray) (a : Int) (w : World) (hs : s.size ≤ 140737488355328) (x0' x1' x2' x3' : Nat) (to' x : Int) (HP : Hid (numP s a = ((x0', x1', x2', x3'), to', x))) :
    Calls Tryz.prog 108 #[.string s, .int .i64 a] w fun e w' => e = .returned (.tuple #[.agg #[.int .u64 x0', .int .u64 x1', .int .u64 x2', .int .u64 x3'], .int .i64 to', .int .i64 x]) ∧ Below w.heap.size w w' := by
  have HS : Hid (s.size ≤ maxLen) := Lib.hid (by unfold maxLen; omega)
  clear hs
  go_enter Tryz.func108, Tryz.ntmps108
  go_wp2_with fail
  go_loopw [8, 9, 14] (fun t e i wr => ∃ (k : Nat) (l : List Nat) (to : Int), k ≤ 4 ∧ i = .int .i64 k ∧ t = .int .i64 to ∧ e = .int .i64 0 ∧ Hid (run (V.get s) a k = (l, to, 0)) ∧ l.length = k ∧ wr = (w.alloc (.cells #[.int .u64 0, .int .u64 0, .int .u64 0, .int .u64 0] 150)).alloc (.cells (rowN l) 150)) (fun _ _ i _ => 4 - (intOf i).toNat)
  case atStart => exact ⟨0, [], a, by omega, rfl, rfl, rfl, Lib.hid rfl, rfl, rfl⟩
  case round =>
    obtain ⟨k, l, to, hk, rfl, rfl, rfl, hrun, hlen, hw⟩ := hrel
    have hk4 : k = 0 ∨ k = 1 ∨ k = 2 ∨ k = 3 ∨ k = 4 := by omega
    rcases hk4 with rfl | rfl | rfl | rfl | rfl
    · obtain rfl : l = [] := by simpa using hlen
      have hrow : rowN [] = #[.int .u64 0, .int .u64 0, .int .u64 0, .int .u64 0] := rfl
      rw [hrow] at hw
      subst hw
      clear hrow hlen
      obtain ⟨n, t, e, hg⟩ : ∃ n t e, V.get s to = (n, t, e) := ⟨_, _, _, rfl⟩
      by_cases he : e = 0
      · subst he
        have hnx := run_next hrun.out hg
        have HN := Lib.hid hnx
        have HG := Lib.hid hg
        clear hg hnx
        go_wp2_with (go_at_call 31; refine (get_is _ _ _ HS.out _ _ _ HG).mono ?_; rintro e2 w2 ⟨rfl, rfl⟩)
        go_roundw
        case rel => exact ⟨1, [] ++ [n], t, by omega, rfl, rfl, rfl, HN, rfl, rfl⟩
        case measure => simp [intOf]
      · have hp := numP_err (run_stop hrun.out hg he (by omega : 0 < 4)) he
        rw [HP.out] at hp
        simp only [Prod.mk.injEq] at hp
        obtain ⟨⟨rfl, rfl, rfl, rfl⟩, rfl, rfl⟩ := hp
        have he1 : (x != 0) = true := by simpa using he
        have HG := Lib.hid hg
        clear hg he
        go_wp2_with (go_at_call 31; refine (get_is _ _ _ HS.out _ _ _ HG).mono ?_; rintro e2 w2 ⟨rfl, rfl⟩)
        refine bodyPost_ret (v := .tuple #[.agg #[.int .u64 0, .int .u64 0, .int .u64 0, .int .u64 0], .int .i64 0, .int .i64 x]) (by simp [results, Tryz.results108, go_sem]) rfl ⟨rfl, ?_⟩
        exact two_box _ _
    · obtain ⟨x0, rfl⟩ : ∃ x0, l = [x0] := by match l, hlen with | [x0], _ => exact ⟨_, rfl⟩
      have hrow : rowN [x0] = #[.int .u64 x0, .int .u64 0, .int .u64 0, .int .u64 0] := rfl
      rw [hrow] at hw
      subst hw
      clear hrow hlen
      obtain ⟨n, t, e, hg⟩ : ∃ n t e, V.get s to = (n, t, e) := ⟨_, _, _, rfl⟩
      by_cases he : e = 0
      · subst he
        have hnx := run_next hrun.out hg
        have HN := Lib.hid hnx
        have HG := Lib.hid hg
        clear hg hnx
        go_wp2_with (go_at_call 31; refine (get_is _ _ _ HS.out _ _ _ HG).mono ?_; rintro e2 w2 ⟨rfl, rfl⟩)
        go_roundw
        case rel => exact ⟨2, [x0] ++ [n], t, by omega, rfl, rfl, rfl, HN, rfl, rfl⟩
        case measure => simp [intOf]
      · have hp := numP_err (run_stop hrun.out hg he (by omega : 1 < 4)) he
        rw [HP.out] at hp
        simp only [Prod.mk.injEq] at hp
        obtain ⟨⟨rfl, rfl, rfl, rfl⟩, rfl, rfl⟩ := hp
        have he1 : (x != 0) = true := by simpa using he
        have HG := Lib.hid hg
        clear hg he
        go_wp2_with (go_at_call 31; refine (get_is _ _ _ HS.out _ _ _ HG).mono ?_; rintro e2 w2 ⟨rfl, rfl⟩)
        refine bodyPost_ret (v := .tuple #[.agg #[.int .u64 0, .int .u64 0, .int .u64 0, .int .u64 0], .int .i64 0, .int .i64 x]) (by simp [results, Tryz.results108, go_sem]) rfl ⟨rfl, ?_⟩
        exact two_box _ _
    · obtain ⟨x0, x1, rfl⟩ : ∃ x0 x1, l = [x0, x1] := by match l, hlen with | [x0, x1], _ => exact ⟨_, _, rfl⟩
      have hrow : rowN [x0, x1] = #[.int .u64 x0, .int .u64 x1, .int .u64 0, .int .u64 0] := rfl
      rw [hrow] at hw
      subst hw
      clear hrow hlen
      obtain ⟨n, t, e, hg⟩ : ∃ n t e, V.get s to = (n, t, e) := ⟨_, _, _, rfl⟩
      by_cases he : e = 0
      · subst he
        have hnx := run_next hrun.out hg
        have HN := Lib.hid hnx
        have HG := Lib.hid hg
        clear hg hnx
        go_wp2_with (go_at_call 31; refine (get_is _ _ _ HS.out _ _ _ HG).mono ?_; rintro e2 w2 ⟨rfl, rfl⟩)
        go_roundw
        case rel => exact ⟨3, [x0, x1] ++ [n], t, by omega, rfl, rfl, rfl, HN, rfl, rfl⟩
        case measure => simp [intOf]
      · have hp := numP_err (run_stop hrun.out hg he (by omega : 2 < 4)) he
        rw [HP.out] at hp
        simp only [Prod.mk.injEq] at hp
        obtain ⟨⟨rfl, rfl, rfl, rfl⟩, rfl, rfl⟩ := hp
        have he1 : (x != 0) = true := by simpa using he
        have HG := Lib.hid hg
        clear hg he
        go_wp2_with (go_at_call 31; refine (get_is _ _ _ HS.out _ _ _ HG).mono ?_; rintro e2 w2 ⟨rfl, rfl⟩)
        refine bodyPost_ret (v := .tuple #[.agg #[.int .u64 0, .int .u64 0, .int .u64 0, .int .u64 0], .int .i64 0, .int .i64 x]) (by simp [results, Tryz.results108, go_sem]) rfl ⟨rfl, ?_⟩
        exact two_box _ _
    · obtain ⟨x0, x1, x2, rfl⟩ : ∃ x0 x1 x2, l = [x0, x1, x2] := by match l, hlen with | [x0, x1, x2], _ => exact ⟨_, _, _, rfl⟩
      have hrow : rowN [x0, x1, x2] = #[.int .u64 x0, .int .u64 x1, .int .u64 x2, .int .u64 0] := rfl
      rw [hrow] at hw
      subst hw
      clear hrow hlen
      obtain ⟨n, t, e, hg⟩ : ∃ n t e, V.get s to = (n, t, e) := ⟨_, _, _, rfl⟩
      by_cases he : e = 0
      · subst he
        have hnx := run_next hrun.out hg
        have HN := Lib.hid hnx
        have HG := Lib.hid hg
        clear hg hnx
        go_wp2_with (go_at_call 31; refine (get_is _ _ _ HS.out _ _ _ HG).mono ?_; rintro e2 w2 ⟨rfl, rfl⟩)
        go_roundw
        case rel => exact ⟨4, [x0, x1, x2] ++ [n], t, by omega, rfl, rfl, rfl, HN, rfl, rfl⟩
        case measure => simp [intOf]
      · have hp := numP_err (run_stop hrun.out hg he (by omega : 3 < 4)) he
        rw [HP.out] at hp
        simp only [Prod.mk.injEq] at hp
        obtain ⟨⟨rfl, rfl, rfl, rfl⟩, rfl, rfl⟩ := hp
        have he1 : (x != 0) = true := by simpa using he
        have HG := Lib.hid hg
        clear hg he
        go_wp2_with (go_at_call 31; refine (get_is _ _ _ HS.out _ _ _ HG).mono ?_; rintro e2 w2 ⟨rfl, rfl⟩)
        refine bodyPost_ret (v := .tuple #[.agg #[.int .u64 0, .int .u64 0, .int .u64 0, .int .u64 0], .int .i64 0, .int .i64 x]) (by simp [results, Tryz.results108, go_sem]) rfl ⟨rfl, ?_⟩
        exact two_box _ _
    · obtain ⟨x0, x1, x2, x3, rfl⟩ : ∃ x0 x1 x2 x3, l = [x0, x1, x2, x3] := by match l, hlen with | [x0, x1, x2, x3], _ => exact ⟨_, _, _, _, rfl⟩
      have hrow : rowN [x0, x1, x2, x3] = #[.int .u64 x0, .int .u64 x1, .int .u64 x2, .int .u64 x3] := rfl
      rw [hrow] at hw
      subst hw
      clear hrow hlen
      rw [show ((4 : Nat) : Int) = 4 from rfl]
      go_wp2_with fail
      go_loop [33] (fun i => ∃ k : Nat, k ≤ 3 ∧ i = .int .i64 k ∧ Hid ((0 < k → (x0 : Int) ≤ 1099511627776) ∧ (1 < k → (x1 : Int) ≤ 1099511627776) ∧ (2 < k → (x2 : Int) ≤ 1099511627776))) (fun i => 3 - (intOf i).toNat)
      case atStart => exact ⟨0, by omega, rfl, Lib.hid ⟨fun h => absurd h (by omega), fun h => absurd h (by omega), fun h => absurd h (by omega)⟩⟩
      case round =>
        obtain ⟨k, hk, rfl, hok⟩ := hrel
        have hk4 : k = 0 ∨ k = 1 ∨ k = 2 ∨ k = 3 := by omega
        rcases hk4 with rfl | rfl | rfl | rfl
        · have hb : (1099511627776 : Int) < (x0 : Int) ∨ (x0 : Int) ≤ 1099511627776 := by omega
          rcases hb with hb | hb
          · have hp := numP_bad (x := 1) hrun.out (by unfold numE; rw [if_pos (by omega)]) (by decide)
            rw [HP.out] at hp
            simp only [Prod.mk.injEq] at hp
            obtain ⟨⟨rfl, rfl, rfl, rfl⟩, rfl, rfl⟩ := hp
            go_wp2_with fail
            refine bodyPost_ret (v := .tuple #[.agg #[.int .u64 0, .int .u64 0, .int .u64 0, .int .u64 0], .int .i64 0, .int .i64 1]) (by simp [results, Tryz.results108, go_sem]) rfl ⟨rfl, ?_⟩
            exact two_box _ _
          · go_wp2_with fail
            go_round
            case rel => exact ⟨1, by omega, rfl, Lib.hid ⟨fun _ => hb, fun h => absurd h (by omega), fun h => absurd h (by omega)⟩⟩
            case measure => simp [intOf]
        · have hb : (1099511627776 : Int) < (x1 : Int) ∨ (x1 : Int) ≤ 1099511627776 := by omega
          rcases hb with hb | hb
          · have hp := numP_bad (x := 1) hrun.out (by unfold numE; rw [if_pos (by omega)]) (by decide)
            rw [HP.out] at hp
            simp only [Prod.mk.injEq] at hp
            obtain ⟨⟨rfl, rfl, rfl, rfl⟩, rfl, rfl⟩ := hp
            go_wp2_with fail
            refine bodyPost_ret (v := .tuple #[.agg #[.int .u64 0, .int .u64 0, .int .u64 0, .int .u64 0], .int .i64 0, .int .i64 1]) (by simp [results, Tryz.results108, go_sem]) rfl ⟨rfl, ?_⟩
            exact two_box _ _
          · go_wp2_with fail
            go_round
            case rel => exact ⟨2, by omega, rfl, Lib.hid ⟨fun _ => hok.out.1 (by omega), fun _ => hb, fun h => absurd h (by omega)⟩⟩
            case measure => simp [intOf]
        · have hb : (1099511627776 : Int) < (x2 : Int) ∨ (x2 : Int) ≤ 1099511627776 := by omega
          rcases hb with hb | hb
          · have hp := numP_bad (x := 1) hrun.out (by unfold numE; rw [if_pos (by omega)]) (by decide)
            rw [HP.out] at hp
            simp only [Prod.mk.injEq] at hp
            obtain ⟨⟨rfl, rfl, rfl, rfl⟩, rfl, rfl⟩ := hp
            go_wp2_with fail
            refine bodyPost_ret (v := .tuple #[.agg #[.int .u64 0, .int .u64 0, .int .u64 0, .int .u64 0], .int .i64 0, .int .i64 1]) (by simp [results, Tryz.results108, go_sem]) rfl ⟨rfl, ?_⟩
            exact two_box _ _
          · go_wp2_with fail
            go_round
            case rel => exact ⟨3, by omega, rfl, Lib.hid ⟨fun _ => hok.out.1 (by omega), fun _ => hok.out.2.1 (by omega), fun _ => hb⟩⟩
            case measure => simp [intOf]
        · have h0 := hok.out.1 (by omega)
          have h1 := hok.out.2.1 (by omega)
          have h2 := hok.out.2.2 (by omega)
          have hE : numE x0 x1 x2 x3 = cnt x3 := by unfold numE; rw [if_neg (by omega)]
          obtain ⟨c, hc⟩ : ∃ c, cnt (x3 : Int) = c := ⟨_, rfl⟩
          rw [hc] at hE
          have HC := Lib.hid hc
          have HE := Lib.hid hE
          clear hc hE h0 h1 h2
          by_cases c0 : c = 0
          · subst c0
            have hp := numP_ok hrun.out HE.out
            rw [HP.out] at hp
            simp only [Prod.mk.injEq] at hp
            obtain ⟨⟨rfl, rfl, rfl, rfl⟩, rfl, rfl⟩ := hp
            go_wp2_with (go_at_call 109; refine (count_any _ _).mono ?_; rw [HC.out]; rintro e2 w2 ⟨rfl, rfl⟩)
            refine bodyPost_ret (v := .tuple #[.agg #[.int .u64 x0', .int .u64 x1', .int .u64 x2', .int .u64 x3'], .int .i64 to', .int .i64 0]) (by simp [results, Tryz.results108, go_sem]) rfl ⟨rfl, ?_⟩
            exact two_box _ _
          · have hp := numP_bad hrun.out HE.out c0
            rw [HP.out] at hp
            simp only [Prod.mk.injEq] at hp
            obtain ⟨⟨rfl, rfl, rfl, rfl⟩, rfl, rfl⟩ := hp
            have c1 : (x != 0) = true := by simpa using c0
            clear c0
            go_wp2_with (go_at_call 109; refine (count_any _ _).mono ?_; rw [HC.out]; rintro e2 w2 ⟨rfl, rfl⟩)
            refine bodyPost_ret (v := .tuple #[.agg #[.int .u64 0, .int .u64 0, .int .u64 0, .int .u64 0], .int .i64 0, .int .i64 x]) (by simp [results, Tryz.results108, go_sem]) rfl ⟨rfl, ?_⟩
            exact two_box _ _
end Go.Proofs.YtijofikpdhapoaaGreat.L3
