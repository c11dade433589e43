/-
  Contract: who is chosen by stretches.
-/
import Derived.Test.YthongbobopampaaAsPick
import Derived.Deep.RegionHeld3
namespace Go.Proofs.Ythongbobopampaa.L10
open Go.RowKit
open L3 L4 L9

theorem wrap_n (q : Nat) (h : q ≤ 1000000) : wrap64 (q : Int) = (q : Int) := by simp only [wrap64]; omega
set_option maxRecDepth 100000 in
set_option maxHeartbeats 1000000 in
theorem range1_is (A : Option Addr) (K c i n r : Nat) (ab : List Nat) (w : World) (hR : Hid (ReadsN w w.heap.size A ab)) (hK : Hid (ab.length = K)) (hK0 : 0 < K) (hK8 : K ≤ 8) (hn : n ≤ 8) (hi : i < n) (HX : Hid (pickR ab i n = r)) :
    Calls Try.prog 18 #[.slice A K c, .int .i64 (i : Int), .int .i64 (n : Int)] w fun e w' => e = .returned (.int .i64 (r : Int)) ∧ Below w.heap.size w w' := by
  have hi8 : i ≤ 1000000 := by omega
  have hn6 : n ≤ 1000000 := by omega
  obtain ⟨e, he⟩ : ∃ e, n / K = e := ⟨_, rfl⟩
  obtain ⟨m, hm⟩ : ∃ m, n % K = m := ⟨_, rfl⟩
  have he8 : e ≤ 8 := by have := Nat.div_le_self n K; omega
  have hm8 : m ≤ 8 := by have := Nat.mod_le n K; omega
  obtain ⟨E, hE⟩ : ∃ E, e + 1 = E := ⟨_, rfl⟩
  obtain ⟨G, hG⟩ : ∃ G, m * E = G := ⟨_, rfl⟩
  have hG8 : G ≤ 72 := by rw [← hG]; exact Nat.mul_le_mul (show m ≤ 8 by omega) (show E ≤ 9 by omega)
  have a1 := tdiv_k n K e he hn6
  have a2 := tmod_k n K m hm hn6
  have a1' := ediv_n n K e he
  have A0 : Hid (wrap64 (e : Int) = (e : Int)) := Lib.hid <| wrap_n e (Nat.le_trans he8 (by decide))
  have a2' := emod_n n K m hm
  have a3 : wrap64 ((e : Int) + 1) = (E : Int) := by simp only [wrap64]; omega
  have a4 : wrap64 ((m : Int) * (E : Int)) = (G : Int) := by
    have : (m : Int) * (E : Int) = (G : Int) := by rw [← hG]; exact (Int.natCast_mul m E).symm
    rw [this]; simp only [wrap64]; omega
  have z1 : ((K : Int) == 0) = false := nz hK0
  have z1' : (K : Int) ≠ 0 := by omega
  have hx := HX.out
  have hrk := rank_in hK0 hi
  unfold pickR rankR at hx
  unfold rankR at hrk
  rw [hK.out] at hx
  rw [he, hm, hE, hG] at hx hrk
  obtain ⟨g, rfl, hg, hc⟩ := hR.out (by rw [hK.out]; exact hK0)
  by_cases hlt : i < G
  · rw [if_pos hlt] at hx hrk
    obtain ⟨q, hq⟩ : ∃ q, i / E = q := ⟨_, rfl⟩
    rw [hq] at hx hrk
    have a5 := tdiv_w i E q hq hi8
    have a5' : wrap64 ((i : Int) / (E : Int)) = (q : Int) := by rw [ediv_n i E q hq]; exact wrap_n q (Nat.le_trans (hq ▸ Nat.div_le_self _ _) hi8)
    have z2 : ((E : Int) == 0) = false := nz (hE ▸ Nat.succ_pos e)
    have z2' : (E : Int) ≠ 0 := nz' (hE ▸ Nat.succ_pos e)
    have d0 := hc q r (by rw [← hx, List.getD_eq_getElem?_getD, List.getElem?_eq_getElem (by rw [hK.out]; exact hrk.2.2)]; rfl)
    have k0 : (0 : Int) ≤ (q : Int) := Int.natCast_nonneg q
    have k1 : (q : Int) < (K : Int) := Int.ofNat_lt.2 hrk.2.2
    have k2 : (i : Int) < (G : Int) := Int.ofNat_lt.2 hlt
    clear hx hrk hc HX hE hG he hm hq he8 hm8 hG8
    go_enter Try.func18, Try.ntmps18
    go_wp2_with fail
    go_quiet (fail)
    have a0 := A0.out
    simp only [a0, a2']
    clear a0 a1 a2 a1' a2' z1 z1'
    go_wp2_with fail
    go_ret
    exact ⟨rfl, drewN_below (Below.refl _ _) _⟩
  · rw [if_neg hlt] at hx hrk
    have he0 : 0 < e := by
      rcases Nat.eq_zero_or_pos e with q | q
      · exfalso
        have h2 := Nat.div_add_mod n K
        rw [he, hm, q] at h2
        have hgm : G = m := by rw [← hG, ← hE, q, Nat.zero_add, Nat.mul_one]
        rw [Nat.mul_zero, Nat.zero_add] at h2
        exact hlt (by rw [hgm, h2]; exact hi)
      · exact q
    obtain ⟨d, hd⟩ : ∃ d, i - G = d := ⟨_, rfl⟩
    rw [hd] at hx hrk
    have hd8 : d ≤ 1000000 := by rw [← hd]; exact Nat.le_trans (Nat.sub_le _ _) hi8
    have hd7 : d ≤ 8 := by rw [← hd]; exact Nat.le_trans (Nat.sub_le _ _) (Nat.le_trans (Nat.le_of_lt hi) hn)
    have a5 : wrap64 ((i : Int) - (G : Int)) = (d : Int) := sub_w i G d hd (Nat.le_of_not_lt hlt) hi8
    obtain ⟨q, hq⟩ : ∃ q, d / e = q := ⟨_, rfl⟩
    rw [hq] at hx hrk
    have hqd : q ≤ d := by rw [← hq]; exact Nat.div_le_self _ _
    obtain ⟨t, ht⟩ : ∃ t, m + q = t := ⟨_, rfl⟩
    rw [ht] at hx hrk
    have a6 := tdiv_w d e q hq hd8
    have a6' : wrap64 ((d : Int) / (e : Int)) = (q : Int) := by rw [ediv_n d e q hq]; exact wrap_n q (Nat.le_trans hqd hd8)
    have a7 : wrap64 ((m : Int) + (q : Int)) = (t : Int) := add_w m q t ht (Nat.le_trans hm8 (by decide)) (Nat.le_trans hqd hd8)
    have a8 : wrap64 ((m : Int) + ((i : Int) - (G : Int)) / (e : Int)) = (t : Int) := by
      have e1 : (i : Int) - (G : Int) = (d : Int) := by rw [← hd, Int.ofNat_sub (Nat.le_of_not_lt hlt)]
      rw [e1, ediv_n d e q hq]; exact a7
    have z2 : ((e : Int) == 0) = false := nz he0
    have z2' : (e : Int) ≠ 0 := nz' he0
    have d0 := hc t r (by rw [← hx, List.getD_eq_getElem?_getD, List.getElem?_eq_getElem (by rw [hK.out]; exact hrk.2.2)]; rfl)
    have k0 : (0 : Int) ≤ (t : Int) := Int.natCast_nonneg t
    have k1 : (t : Int) < (K : Int) := Int.ofNat_lt.2 hrk.2.2
    have k2 : ¬ (i : Int) < (G : Int) := fun h => hlt (Int.ofNat_lt.1 h)
    clear hx hrk hc HX hE hG he hm hq hd ht he8 hm8 hG8 hd8 hd7 hqd he0
    go_enter Try.func18, Try.ntmps18
    go_wp2_with fail
    go_quiet (fail)
    have a0 := A0.out
    simp only [a0, a2']
    clear a0 a1 a2 a1' a2' z1 z1'
    go_wp2_with fail
    go_ret
    exact ⟨rfl, drewN_below (Below.refl _ _) _⟩

end Go.Proofs.Ythongbobopampaa.L10
