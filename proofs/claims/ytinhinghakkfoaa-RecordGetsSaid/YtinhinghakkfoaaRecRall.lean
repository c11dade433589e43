/-
  Contracts: whether a batch may be, by the document.
-/
import Derived.Test.YtinhinghakkfoaaRecAll
namespace Go.Proofs.Ytinhinghakkfoaa.L3
open Go.RowKit

theorem num_is (n : Int) (v : Bool) (w : World) (h : Hid (numB n = v)) :
    Calls Try.prog 32 #[.int .i64 n] w fun e w' => e = .returned (.bool v) ∧ w = w' := by
  have k := num_any n w
  rw [h.out] at k
  exact k

set_option maxRecDepth 100000 in
set_option maxHeartbeats 1000000 in
theorem rall_arg (p e q : Int) (A : Option Addr) (n cap : Nat) (w : World) (hbad : Hid ((numB p && numB e && numB q) = false)) :
    Calls Try.prog 18 #[.agg #[.int .i64 p, .int .i64 e, .int .i64 q, .slice A n cap]] w fun e w' => e = .returned (.int .i64 1) ∧ Below w.heap.size w w' := by
  cases hp : numB p with
  | false =>
    have HP := Lib.hid hp
    clear hp hbad
    go_enter Try.func18, Try.ntmps18
    go_wp2_with (go_at_call 32; (with_reducible refine (num_is _ _ _ HP).mono ?_); rintro e w' ⟨rfl, rfl⟩)
    go_ret
    exact ⟨rfl, one_box _⟩
  | true =>
    cases he : numB e with
    | false =>
      have HP := Lib.hid hp
      have HE := Lib.hid he
      clear hp he hbad
      go_enter Try.func18, Try.ntmps18
      go_wp2_with (go_at_call 32; (first | (with_reducible refine (num_is _ _ _ HP).mono ?_) | (with_reducible refine (num_is _ _ _ HE).mono ?_)); rintro e w' ⟨rfl, rfl⟩)
      go_ret
      exact ⟨rfl, one_box _⟩
    | true =>
      have HQ : Hid (numB q = false) := Lib.hid (by have := hbad.out; rw [hp, he] at this; simpa using this)
      have HP := Lib.hid hp
      have HE := Lib.hid he
      clear hp he hbad
      go_enter Try.func18, Try.ntmps18
      go_wp2_with (go_at_call 32; (first | (with_reducible refine (num_is _ _ _ HP).mono ?_) | (with_reducible refine (num_is _ _ _ HE).mono ?_) | (with_reducible refine (num_is _ _ _ HQ).mono ?_)); rintro e w' ⟨rfl, rfl⟩)
      go_ret
      exact ⟨rfl, one_box _⟩

set_option maxRecDepth 100000 in
set_option maxHeartbeats 1000000 in
theorem rall_none (p e q : Int) (A : Option Addr) (n cap : Nat) (w : World) (HP : Hid (numB p = true)) (HE : Hid (numB e = true)) (HQ : Hid (numB q = true)) (hc : n = 0 ∨ (16 < n ∧ n ≤ maxLen)) :
    Calls Try.prog 18 #[.agg #[.int .i64 p, .int .i64 e, .int .i64 q, .slice A n cap]] w fun e w' => e = .returned (.int .i64 (if n = 0 then 30 else 2)) ∧ Below w.heap.size w w' := by
  rcases hc with rfl | ⟨h1, h2⟩
  · rw [if_pos rfl]
    go_enter Try.func18, Try.ntmps18
    go_wp2_with (go_at_call 32; (first | (with_reducible refine (num_is _ _ _ HP).mono ?_) | (with_reducible refine (num_is _ _ _ HE).mono ?_) | (with_reducible refine (num_is _ _ _ HQ).mono ?_)); rintro e w' ⟨rfl, rfl⟩)
    go_ret
    exact ⟨rfl, one_box _⟩
  · rw [if_neg (by omega)]
    unfold maxLen at h2
    have h3 : ((n : Int) == 0) = false := by simp; omega
    go_enter Try.func18, Try.ntmps18
    go_wp2_with (go_at_call 32; (first | (with_reducible refine (num_is _ _ _ HP).mono ?_) | (with_reducible refine (num_is _ _ _ HE).mono ?_) | (with_reducible refine (num_is _ _ _ HQ).mono ?_)); rintro e w' ⟨rfl, rfl⟩)
    go_ret
    exact ⟨rfl, one_box _⟩

set_option maxRecDepth 100000 in
set_option maxHeartbeats 1000000 in
theorem rall_ok (p e q : Int) (A : Option Addr) (l : List R) (cap B : Nat) (x : Int) (w : World) (hR : Hid (Reads w B A l)) (hB : B ≤ w.heap.size) (hl : l.length ≤ 20) (hs : Hid (∀ r ∈ l, r.key.size ≤ maxLen ∧ r.val.size ≤ maxLen))
    (HP : Hid (numB p = true)) (HE : Hid (numB e = true)) (HQ : Hid (numB q = true)) (h7 : 0 < l.length) (h8 : l.length ≤ 16) (HX : Hid (chkL l = x)) :
    Calls Try.prog 18 #[.agg #[.int .i64 p, .int .i64 e, .int .i64 q, .slice A l.length cap]] w fun e w' => e = .returned (.int .i64 x) ∧ Below w.heap.size w w' := by
  obtain ⟨g, rfl, hg, hcells⟩ := hR.out h7
  have HC := Lib.hid hcells
  clear hcells
  have h9 : ((l.length : Int) == 0) = false := by rw [beq_eq_false_iff_ne]; omega
  go_enter Try.func18, Try.ntmps18
  go_wp2_with (go_at_call 32; (first | (with_reducible refine (num_is _ _ _ HP).mono ?_) | (with_reducible refine (num_is _ _ _ HE).mono ?_) | (with_reducible refine (num_is _ _ _ HQ).mono ?_)); rintro e w' ⟨rfl, rfl⟩)
  go_loopw [3] (fun i wr => ∃ k : Nat, k ≤ l.length ∧ i = .int .i64 k ∧ Below (w.heap.size + 1) (w.alloc (.cells #[.int .i64 p, .int .i64 e, .int .i64 q, .slice (some ⟨g, 0, none⟩) l.length cap] 26)) wr ∧ Hid (chkL (l.drop k) = x)) (fun i _ => l.length - (intOf i).toNat)
  case atStart => exact ⟨0, by omega, rfl, Below.refl _ _, by simpa using HX⟩
  case round =>
    obtain ⟨k, hk, rfl, hbel, hX⟩ := hrel
    have hbox : wr.cell? ⟨w.heap.size, 3, none⟩ = some (.slice (some ⟨g, 0, none⟩) l.length cap) := (hbel.cell (p := ⟨w.heap.size, 3, none⟩) (by show w.heap.size < _; omega)).trans (by simp [go_sem])
    have hbel0 : Below w.heap.size w wr := (one_box _).trans (hbel.mono (by omega))
    have hsz : w.heap.size + 1 ≤ wr.heap.size := by have := hbel.size; simpa using this
    by_cases hlt : k < l.length
    · obtain ⟨⟨rk, key, tb, val⟩, hr⟩ : ∃ r, l[k]? = some r := ⟨l[k], List.getElem?_eq_getElem hlt⟩
      obtain ⟨z1, z2⟩ := hs.out _ (List.mem_of_getElem? hr)
      have Z1 := Lib.hid z1
      have Z2 := Lib.hid z2
      obtain ⟨c0, c1, c2, c3⟩ := HC.out k _ hr
      have d0 := (hbel0.cell (p := ⟨g, k * 4, none⟩) (by show g < _; omega)).trans c0
      have d1 := (hbel0.cell (p := ⟨g, k * 4 + 1, none⟩) (by show g < _; omega)).trans c1
      have d2 := (hbel0.cell (p := ⟨g, k * 4 + 2, none⟩) (by show g < _; omega)).trans c2
      have d3 := (hbel0.cell (p := ⟨g, k * 4 + 3, none⟩) (by show g < _; omega)).trans c3
      have HR := Lib.hid hr
      clear c0 c1 c2 c3 hr z1 z2
      dsimp only at d0 d1 d2 d3 Z1 Z2
      obtain ⟨y, hy⟩ : ∃ y, chk rk key tb val = y := ⟨_, rfl⟩
      have HY := Lib.hid hy
      have hnext := chkL_next HR.out hy
      clear hy
      by_cases hy0 : y = 0
      · subst hy0
        have hX' : Hid (chkL (l.drop (k + 1)) = x) := Lib.hid ((hnext.2 rfl).symm.trans hX.out)
        clear hnext
        go_wp2_with (go_at_call 16; refine (refcheck_any _ _ _ _ _ Z1.out Z2.out).mono ?_; rw [HY.out]; rintro e w1 ⟨rfl, hb1⟩)
        go_roundw
        case rel => exact ⟨k + 1, by omega, by go_num, hbel.trans (hb1.mono hsz), hX'⟩
        case measure => simp [intOf]; omega
      · have hy1 : (y != 0) = true := by simpa using hy0
        obtain rfl : x = y := hX.out.symm.trans (hnext.1 hy0)
        clear hnext hy0
        go_wp2_with (go_at_call 16; refine (refcheck_any _ _ _ _ _ Z1.out Z2.out).mono ?_; rw [HY.out]; rintro e w1 ⟨rfl, hb1⟩)
        go_ret
        exact ⟨rfl, hbel0.trans (hb1.mono (by omega))⟩
    · obtain rfl : k = l.length := by omega
      have hx0 : x = 0 := by have := hX.out; rw [List.drop_length] at this; exact this.symm
      subst hx0
      go_wp2_with fail
      go_ret
      exact ⟨rfl, hbel0⟩

theorem rall_is (p e q : Int) (A : Option Addr) (l : List R) (cap B : Nat) (x : Int) (w : World) (hR : Hid (Reads w B A l)) (hB : B ≤ w.heap.size) (hl : l.length ≤ 20) (hs : Hid (∀ r ∈ l, r.key.size ≤ maxLen ∧ r.val.size ≤ maxLen)) (HX : Hid (allN p e q l = x)) :
    Calls Try.prog 18 #[.agg #[.int .i64 p, .int .i64 e, .int .i64 q, .slice A l.length cap]] w fun e w' => e = .returned (.int .i64 x) ∧ Below w.heap.size w w' := by
  have hx := HX.out
  unfold allN at hx
  cases hn : (numB p && numB e && numB q) with
  | false =>
    rw [if_pos hn] at hx
    subst hx
    exact rall_arg p e q A l.length cap w (Lib.hid hn)
  | true =>
    rw [hn, if_neg (by decide)] at hx
    simp only [Bool.and_eq_true] at hn
    by_cases h0 : l.length = 0
    · rw [if_pos h0] at hx
      have k := rall_none p e q A l.length cap w (Lib.hid hn.1.1) (Lib.hid hn.1.2) (Lib.hid hn.2) (.inl h0)
      rw [if_pos h0, hx] at k
      exact k
    · rw [if_neg h0] at hx
      by_cases h1 : 16 < l.length
      · rw [if_pos h1] at hx
        have k := rall_none p e q A l.length cap w (Lib.hid hn.1.1) (Lib.hid hn.1.2) (Lib.hid hn.2) (.inr ⟨h1, by unfold maxLen; omega⟩)
        rw [if_neg h0, hx] at k
        exact k
      · rw [if_neg h1] at hx
        exact rall_ok p e q A l cap B x w hR hB hl hs (Lib.hid hn.1.1) (Lib.hid hn.1.2) (Lib.hid hn.2) (by omega) (by omega) (Lib.hid hx)
end Go.Proofs.Ytinhinghakkfoaa.L3
