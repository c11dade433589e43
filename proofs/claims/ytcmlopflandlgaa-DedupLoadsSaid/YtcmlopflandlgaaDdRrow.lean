/-
  The document's row: may batches be remembered?
-/
import Derived.Test.YtcmlopflandlgaaDdRef
namespace Go.Proofs.Ytcmlopflandlgaa.L8
open Go.RowKit
open Go.Maps
open L3 L4

/-- what the next batch's number must be -/
def prevQ (l : List Did) : Nat → Option Int
  | 0 => none
  | j + 1 => (l[j]?).map (fun d => wrap64 (d.s + d.n))
theorem rowB_at {l : List Did} {j : Nat} {d : Did} (h : l[j]? = some d) : rowB (prevQ l j) (l.drop j) = ((numB8 d.s && (numB8 d.o && (decide (1 ≤ d.n) && decide (d.n ≤ 1099511627776)))) && ((match prevQ l j with | none => true | some x => decide (d.s = x)) && rowB (prevQ l (j + 1)) (l.drop (j + 1)))) := by
  rw [drop_at h]
  have e : prevQ l (j + 1) = some (wrap64 (d.s + d.n)) := by show Option.map (fun d => wrap64 (d.s + d.n)) l[j]? = _; rw [h]; rfl
  rw [e]
  rfl
set_option maxRecDepth 100000 in
set_option maxHeartbeats 4000000 in
theorem rrow_is (X : Option Addr) (l : List Did) (L c : Nat) (v : Bool) (w : World) (hR : Hid (RowD w X l)) (HL : Hid (l.length = L)) (hl : L ≤ 1000000) (HV : Hid (((decide (1 ≤ L) && decide (L ≤ 5)) && rowB none l) = v)) :
    Calls Try.prog 42 #[.slice X L c] w fun e w' => e = .returned (.bool v) ∧ Below w.heap.size w w' := by
  have hv := HV.out
  by_cases h1 : L < 1
  · obtain rfl : L = 0 := by omega
    rw [decide_eq_false (by omega), Bool.false_and, Bool.false_and] at hv
    subst hv
    clear h1
    go_enter Try.func42, Try.ntmps42
    go_wp2_with fail
    go_ret
    exact ⟨rfl, Below.refl _ _⟩
  · by_cases h2 : 5 < L
    · rw [decide_eq_true (by omega), decide_eq_false (by omega), Bool.true_and, Bool.false_and] at hv
      subst hv
      have t1 : ¬ (L : Int) < 1 := by omega
      have t2 : (5 : Int) < (L : Int) := by omega
      have t3 : decide ((L : Int) < 1) = false := decide_eq_false t1
      have t4 : decide ((5 : Int) < (L : Int)) = true := decide_eq_true t2
      have t5 : decide (L < 1) = false := decide_eq_false h1
      have t6 : decide (5 < L) = true := decide_eq_true h2
      have t7 : decide (L = 0) = false := decide_eq_false (by omega)
      clear h1 h2
      go_enter Try.func42, Try.ntmps42
      go_wp2_with fail
      go_ret
      exact ⟨rfl, Below.refl _ _⟩
    · rw [decide_eq_true (by omega), decide_eq_true (by omega), Bool.true_and, Bool.true_and] at hv
      have HRV : Hid (rowB none l = v) := Lib.hid hv
      have HL5 : Hid (1 ≤ L ∧ L ≤ 5) := Lib.hid (by omega)
      have t1 : ¬ (L : Int) < 1 := by omega
      have t2 : ¬ (5 : Int) < (L : Int) := by omega
      have t3 : decide ((L : Int) < 1) = false := decide_eq_false t1
      have t4 : decide ((5 : Int) < (L : Int)) = false := decide_eq_false t2
      have t5 : decide (L < 1) = false := decide_eq_false h1
      have t6 : decide (5 < L) = false := decide_eq_false h2
      have t7 : decide (L = 0) = false := decide_eq_false (by omega)
      clear hv h1 h2
      go_enter Try.func42, Try.ntmps42
      go_wp2_with fail
      clear t1 t2 t3 t4 t5 t6 t7
      go_loopw [3] (fun i wr => ∃ j : Nat, j ≤ L ∧ i = .int .i64 j ∧ Hid (rowB (prevQ l j) (l.drop j) = v) ∧ Hid (Below w.heap.size w wr)) (fun i _ => L - (intOf i).toNat)
      case atStart => exact ⟨0, by omega, rfl, HRV, Lib.hid (Below.refl _ _)⟩
      case round =>
        obtain ⟨j, hj, rfl, HJ, HB⟩ := hrel
        by_cases hlt : j < L
        · obtain ⟨g, o, s, n, f, rfl, hd, c0, c1, c2⟩ := row_did (hR.out.below HB.out) (i := j) (by rw [HL.out]; exact hlt)
          have hst := HJ.out
          rw [rowB_at hd] at hst
          dsimp only at hst
          have HD := Lib.hid hd
          have k0 : (0 : Int) ≤ (j : Int) := by omega
          have k1 : (j : Int) < (L : Int) := by omega
          have B0 := Lib.hid c0
          have B1 := Lib.hid c1
          clear hd hlt
          cases b1 : numB8 s with
          | false =>
            rw [b1] at hst
            obtain rfl : false = v := by simpa using hst
            have HS := Lib.hid b1
            clear hst b1
            go_wp2_with (go_at_call 34; (with_reducible refine (num8_is s false _ HS).mono ?_); rintro e w2 ⟨rfl, rfl⟩)
            go_ret
            exact ⟨rfl, HB.out⟩
          | true =>
            have HS := Lib.hid b1
            by_cases hn : n < 1
            · have hf : decide (1 ≤ n) = false := decide_eq_false (by omega)
              rw [b1, hf] at hst
              obtain rfl : false = v := by simpa using hst
              clear hst b1 hf
              go_wp2_with (go_at_call 34; (with_reducible refine (num8_is s true _ HS).mono ?_); rintro e w2 ⟨rfl, rfl⟩)
              go_ret
              exact ⟨rfl, HB.out⟩
            · have hf : decide (1 ≤ n) = true := decide_eq_true (by omega)
              have hn1 : ¬ n < 1 := hn
              have hn2 : decide (n < 1) = false := decide_eq_false hn
              have hnb : numB8 n = decide (n ≤ 1099511627776) := by unfold numB8; rw [decide_eq_true (by omega : 0 ≤ n), Bool.true_and]
              rw [b1, hf, ← hnb] at hst
              clear b1 hf hnb hn
              cases b2 : numB8 n with
              | false =>
                rw [b2] at hst
                obtain rfl : false = v := by simpa using hst
                have HN := Lib.hid b2
                clear hst b2
                go_wp2_with (go_at_call 34; (first | (with_reducible refine (num8_is s true _ HS).mono ?_) | (with_reducible refine (num8_is n false _ HN).mono ?_)); rintro e w2 ⟨rfl, rfl⟩)
                go_ret
                exact ⟨rfl, HB.out⟩
              | true =>
                have HN := Lib.hid b2
                rw [b2] at hst
                clear b2
                cases b3 : numB8 f with
                | false =>
                  rw [b3] at hst
                  obtain rfl : false = v := by simpa using hst
                  have HF := Lib.hid b3
                  clear hst b3
                  go_wp2_with (go_at_call 34; (first | (with_reducible refine (num8_is s true _ HS).mono ?_) | (with_reducible refine (num8_is n true _ HN).mono ?_) | (with_reducible refine (num8_is f false _ HF).mono ?_)); rintro e w2 ⟨rfl, rfl⟩)
                  go_ret
                  exact ⟨rfl, HB.out⟩
                | true =>
                  have HF := Lib.hid b3
                  rw [b3, Bool.true_and, Bool.true_and, Bool.true_and, Bool.true_and] at hst
                  have HST := Lib.hid hst
                  clear hst b3
                  go_upto_region 8 with (go_at_call 34; (first | (with_reducible refine (num8_is s true _ HS).mono ?_) | (with_reducible refine (num8_is n true _ HN).mono ?_) | (with_reducible refine (num8_is f true _ HF).mono ?_)); rintro e w2 ⟨rfl, rfl⟩)
                  clear hn1 hn2
                  by_cases hj0 : j = 0
                  · have HNX : Hid (rowB (prevQ l (j + 1)) (l.drop (j + 1)) = v) := Lib.hid (by
                      have e := HST.out
                      subst hj0
                      simpa [prevQ] using e)
                    have z1 : decide ((0 : Int) < (j : Int)) = false := decide_eq_false (by omega)
                    have z2 : decide (0 < j) = false := decide_eq_false (by omega)
                    clear hj0
                    go_quiet (fail)
                    go_wp2_with fail
                    go_roundw
                    case rel => exact ⟨j + 1, by omega, by go_num, HNX, Lib.hid (drewN_below HB.out _)⟩
                    case measure => simp [intOf]; omega
                  · obtain ⟨j', rfl⟩ : ∃ x, j = x + 1 := ⟨j - 1, by omega⟩
                    obtain ⟨g', o', s', n', f', he, hd', p0, p1, _⟩ := row_did (hR.out.below HB.out) (i := j') (by rw [HL.out]; omega)
                    injection he with he; injection he with e1 e2; subst e1; subst e2
                    obtain ⟨q, hq⟩ : ∃ q, wrap64 (s' + n') = q := ⟨_, rfl⟩
                    have hq2 : IntKind.i64.wrap (s' + n') = q := by rw [← hq, IntKind.wrap_i64]; simp only [wrap64]
                    have hpq : prevQ l (j' + 1) = some q := by show Option.map (fun d => wrap64 (d.s + d.n)) l[j']? = _; rw [hd', ← hq]; rfl
                    have hst := HST.out
                    rw [hpq] at hst
                    dsimp only at hst
                    have z1 : decide ((0 : Int) < ((j' + 1 : Nat) : Int)) = true := decide_eq_true (by omega)
                    have z2 : decide (0 < j' + 1) = true := decide_eq_true (by omega)
                    have z3 : decide ((0 : Int) < (j' : Int) + 1) = true := decide_eq_true (by omega)
                    have w3_ : wrap64 (((j' + 1 : Nat) : Int) - 1) = (j' : Int) := by simp only [wrap64]; have := HL5.out; omega
                    have w4_ : IntKind.i64.wrap (((j' + 1 : Nat) : Int) - 1) = (j' : Int) := by rw [IntKind.wrap_i64]; have := HL5.out; omega
                    have w5_ : IntKind.i64.wrap (j' : Int) = (j' : Int) := by rw [IntKind.wrap_i64]; have := HL5.out; omega
                    have i1 : (0 : Int) ≤ (j' : Int) := by omega
                    have i2 : (j' : Int) < (L : Int) := by omega
                    have i3 : (0 : Int) ≤ (j' : Int) + 1 := by omega
                    have i4 : (j' : Int) + 1 < (L : Int) := by omega
                    by_cases hsq : s = q
                    · have HNX : Hid (rowB (prevQ l (j' + 1 + 1)) (l.drop (j' + 1 + 1)) = v) := Lib.hid (by
                        rw [decide_eq_true hsq, Bool.true_and] at hst
                        exact hst)
                      have y1 : (s != q) = false := by simpa using hsq
                      clear hst hsq hpq hd' hj0
                      go_quiet (fail)
                      go_wp2_with fail
                      go_roundw
                      case rel => exact ⟨j' + 2, by omega, by go_num, HNX, Lib.hid (drewN_below HB.out _)⟩
                      case measure => simp [intOf]; omega
                    · obtain rfl : false = v := by
                        rw [decide_eq_false hsq, Bool.false_and] at hst
                        exact hst
                      have y1 : (s != q) = true := by simpa using hsq
                      clear hst hsq hpq hd' hj0
                      go_quiet (fail)
                      go_wp2_with fail
                      go_ret
                      exact ⟨rfl, drewN_below HB.out _⟩
        · obtain rfl : j = L := by omega
          have hv : v = true := by
            have e := HJ.out
            rw [List.drop_of_length_le (by rw [HL.out]; exact Nat.le_refl _)] at e
            rw [← e]; cases prevQ l j <;> rfl
          subst hv
          have k1 : ¬ (j : Int) < (j : Int) := by omega
          clear hlt
          go_wp2_with fail
          go_ret
          exact ⟨rfl, HB.out⟩
end Go.Proofs.Ytcmlopflandlgaa.L8
