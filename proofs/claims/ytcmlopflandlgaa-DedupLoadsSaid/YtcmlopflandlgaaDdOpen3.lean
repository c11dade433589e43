/-
  Contracts: Open, whatever it is asked.
-/
import Derived.Test.YtcmlopflandlgaaDdOpen2
namespace Go.Proofs.Ytcmlopflandlgaa.L8
open Go.RowKit
open Go.Maps
open L3 L4

set_option maxRecDepth 100000 in
set_option maxHeartbeats 2000000 in
theorem open_is {w : World} {g cap b N : Nat} {A : Option Addr} {es : List Int} {ms : List Mk} (id r1 r2 x : Int) (h : Hid (Tab w g A cap b N es ms)) (G : Hid (Good es ms)) (HX : Hid (openR es id = (r1, r2, x))) :
    Calls Try.prog 9 #[.pointer (some ⟨g, 0, none⟩), .int .i64 id] w fun e w' => e = .returned (.tuple #[.int .i64 r1, .int .i64 r2, .int .i64 x]) ∧ Turned w g A b N (openE es id) (openM es ms id) w' := by
  obtain ⟨n, hn⟩ : ∃ n, es.length = n := ⟨_, rfl⟩
  have hl : n ≤ 32 := by rw [← hn]; exact G.out.len
  have hx := HX.out
  unfold openR at hx
  unfold openE openM
  rw [hn] at hx ⊢
  by_cases h0 : id = 0
  · subst h0
    rw [if_pos rfl] at hx ⊢
    rw [if_pos rfl]
    by_cases h1 : 32 ≤ n
    · rw [if_pos h1] at hx ⊢
      obtain ⟨rfl, rfl, rfl⟩ : 0 = r1 ∧ 0 = r2 ∧ 2 = x := by simpa using hx
      clear hx
      go_enter Try.func9, Try.ntmps9
      go_wp2_with (go_at_call 26; refine (add_no n h hn h1).mono ?_; rintro e w' ⟨rfl, rfl⟩)
      go_ret3
      exact ⟨rfl, Turned.same h.out (Below.refl _ _)⟩
    · rw [if_neg h1] at hx ⊢
      obtain ⟨rfl, rfl, rfl⟩ : (n : Int) + 1 = r1 ∧ 0 = r2 ∧ 0 = x := by simpa using hx
      clear hx
      go_enter Try.func9, Try.ntmps9
      go_wp2_with (go_at_call 26; refine (add_is n h hn (by omega)).mono ?_; rintro e w' ⟨rfl, ht⟩)
      go_ret3
      exact ⟨rfl, ht⟩
  · rw [if_neg h0] at hx ⊢
    rw [if_neg h0]
    have i0 : (id == 0) = false := by simpa using h0
    by_cases h1 : ¬ (1 ≤ id ∧ id ≤ n)
    · rw [if_pos h1] at hx ⊢
      rw [if_pos h1]
      obtain ⟨rfl, rfl, rfl⟩ : 0 = r1 ∧ 0 = r2 ∧ 80 = x := by simpa using hx
      have HV : Hid (decide (1 ≤ id ∧ id ≤ es.length) = false) := Lib.hid (by rw [hn]; exact decide_eq_false h1)
      clear hx h1 hn h0
      go_enter Try.func9, Try.ntmps9
      go_wp2_with (go_at_call 27; refine (there_is id false h HV).mono ?_; rintro e w' ⟨rfl, rfl⟩)
      go_ret3
      exact ⟨rfl, Turned.same h.out (Below.refl _ _)⟩
    · rw [if_neg h1] at hx ⊢
      rw [if_neg h1]
      have h2 : 1 ≤ id ∧ id ≤ n := by omega
      obtain ⟨j, hj⟩ : ∃ j : Nat, (id - 1).toNat = j := ⟨_, rfl⟩
      have hj' : id = (j : Int) + 1 := by omega
      have hat : es[j]? = some (es.getD j 0) := at_getD (by omega)
      obtain ⟨k, rfl, _, _, _, hc, hf⟩ := own_num h.out.own hat
      rw [hj] at hx ⊢
      obtain ⟨y0, y1⟩ := G.out.at (i := j) (by omega)
      obtain ⟨y, hy⟩ : ∃ y, es.getD j 0 = y := ⟨_, rfl⟩
      rw [hy] at hx hc y0 y1 ⊢
      by_cases h3 : y = 1099511627776
      · rw [if_pos h3] at hx ⊢
        rw [if_pos h3]
        obtain ⟨rfl, rfl, rfl⟩ : 0 = r1 ∧ 0 = r2 ∧ 2 = x := by simpa using hx
        subst h3
        have HV : Hid (decide (1 ≤ id ∧ id ≤ es.length) = true) := Lib.hid (by rw [hn]; exact decide_eq_true h2)
        have c0 := h.out.c0
        rw [hn] at c0
        have e1 : wrap64 (id - 1) = (j : Int) := by simp only [wrap64]; omega
        have e2 : id - 1 = (j : Int) := by omega
        have j0 : (0 : Int) ≤ (j : Int) := by omega
        have j1 : (j : Int) < (n : Int) := by omega
        clear hx h1 hn h0 h2 hj hj' hat hy y0 y1
        go_enter Try.func9, Try.ntmps9
        go_wp2_with (go_at_call 27; refine (there_is id true h HV).mono ?_; rintro e w' ⟨rfl, rfl⟩)
        go_ret3
        exact ⟨rfl, Turned.same h.out (Below.refl _ _)⟩
      · rw [if_neg h3] at hx ⊢
        rw [if_neg h3]
        obtain ⟨rfl, rfl, rfl⟩ : id = r1 ∧ y + 1 = r2 ∧ 0 = x := by simpa using hx
        exact open_go id y n j h (Lib.hid G.out.keys) (Lib.hid hn) hl hj' (by omega) y0 (by omega) hc hf
end Go.Proofs.Ytcmlopflandlgaa.L8
