/-
  The law's comparison of the two tables.
-/
import Derived.Test.YtcmlopflandlgaaDdBoth
import Derived.Deep.RegionHeld3
import Derived.Deep.RegionLaw
namespace Go.Proofs.Ytcmlopflandlgaa.L8
open Go.RowKit
open Go.Maps
open L3 L4

set_option maxRecDepth 100000 in
set_option maxHeartbeats 2000000 in
theorem rnums_is (A A' : Option Addr) (l : List Int) (n c c' : Nat) (w : World) (h1 : Hid (ReadsN w A l)) (h2 : Hid (ReadsN w A' l)) (hn : Hid (l.length = n)) (hl : n ≤ 100000) :
    Calls Try.prog 37 #[.slice A n c, .slice A' n c'] w fun e w' => e = .returned (.bool true) ∧ Below w.heap.size w w' := by
  go_enter Try.func37, Try.ntmps37
  go_wp2_with fail
  go_loopw [5] (fun i wr => ∃ j : Nat, j ≤ n ∧ i = .int .i64 j ∧ Below w.heap.size w wr) (fun i _ => n - (intOf i).toNat)
  case atStart => exact ⟨0, Nat.zero_le _, rfl, Below.refl _ _⟩
  case round =>
    obtain ⟨j, hj, rfl, hbel⟩ := hrel
    by_cases hlt : j < n
    · obtain ⟨g, o, rfl, hc⟩ := h1.out (by rw [hn.out]; omega)
      obtain ⟨g', o', rfl, hc'⟩ := h2.out (by rw [hn.out]; omega)
      obtain ⟨x, hx⟩ : ∃ x, l[j]? = some x := ⟨_, List.getElem?_eq_getElem (by rw [hn.out]; exact hlt)⟩
      have d0 := cell_at hbel (hc j x hx)
      have d1 := cell_at hbel (hc' j x hx)
      have k0 : (0 : Int) ≤ (j : Int) := by omega
      have k1 : (j : Int) < (n : Int) := by omega
      clear hc hc' hx hlt
      go_upto_region 6 with fail
      go_quiet (fail)
      go_wp2_with fail
      go_roundw
      case rel => exact ⟨j + 1, by omega, by go_num, drewN_below hbel _⟩
      case measure => simp [intOf]; omega
    · obtain rfl : j = n := by omega
      have k1 : ¬ (j : Int) < (j : Int) := by omega
      clear hlt
      go_wp2_with fail
      go_ret
      exact ⟨rfl, hbel⟩
theorem keep2e {W w1 w2 : World} {a1 a2 : Addr} {v1 v2 : Value} (h : (w1.cell? a1 = some v1 ∧ w1.cell? a2 = some v2) ∧ Below W.heap.size W w1) (hb : Below w1.heap.size w1 w2) : (w2.cell? a1 = some v1 ∧ w2.cell? a2 = some v2) ∧ Below W.heap.size W w2 :=
  ⟨⟨cell_at hb h.1.1, cell_at hb h.1.2⟩, h.2.trans (hb.mono h.2.size)⟩
set_option maxRecDepth 100000 in
set_option maxHeartbeats 4000000 in
theorem s8_same {W w : World} {g N k : Nat} {es : List Int} {ms : List Mk} (S : Hid (S8 W w g N k es ms es ms)) (G : Hid (Good es ms)) (HT : Hid (Texts ms)) (hl : ms.length ≤ 100000) :
    Calls Try.prog 16 #[.pointer (some ⟨g, 0, none⟩), .pointer (some ⟨k, 0, none⟩)] w fun e w' => e = .returned (.bool true) ∧ Below w.heap.size w w' := by
  obtain ⟨A, cap, b, AE, cE, AL, cL, vs, h, hv⟩ := S.out
  obtain ⟨n, hn⟩ : ∃ n, es.length = n := ⟨_, rfl⟩
  obtain ⟨m, hm⟩ : ∃ m, vs.length = m := ⟨_, rfl⟩
  have hms : ms.length = m := by rw [← hv, List.length_map]; exact hm
  have c0 := h.doc.c0
  have c1 := h.doc.c1
  rw [hn] at c0
  rw [hm] at c1
  have H := Lib.hid h
  have HV := Lib.hid hv
  have HN := Lib.hid hn
  have HM := Lib.hid hm
  have HMS := Lib.hid hms
  have hn32 : n ≤ 32 := by rw [← hn]; exact G.out.len
  have hm5 : m ≤ 100000 := by rw [← hms]; exact hl
  have HL : Hid (∀ v ∈ vs, v.m.l.length ≤ 100000) := Lib.hid (fun v q => by have := (G.out.fit v.m (hv ▸ List.mem_map_of_mem q)).2.2; omega)
  have hS := And.intro (And.intro c0 c1) (Below.refl w.heap.size w)
  clear h hv hn hm hms
  go_enter Try.func16, Try.ntmps16
  go_wp2_with fail
  go_region_held3 (fun w' => (w'.cell? ⟨k, 0, none⟩ = some (.slice AE n cE) ∧ w'.cell? ⟨k, 1, none⟩ = some (.slice AL m cL)) ∧ Below w.heap.size w w')
    (first | assumption | exact keep2e hS (drewB _) | exact keep2e (by assumption) (drewB _) | exact keep2e (by assumption) (by assumption))
    (first
      | (go_at_call 24; have _q := B14; refine (rsame_is A14 AL vs14 vs m c14 cL _ HL14 (Lib.hid (HM14.out.trans HV.out.symm)) HR14 (Lib.hid (H.out.doc.reads.below B14.out)) HI14 (Lib.hid (H.out.doc.rows.below B14.out)) HT14 hm5 HV14).mono ?_; rintro e w20 ⟨rfl, hb20⟩)
      | (go_at_call 17; have _q := B11; refine (makers_is (Lib.hid (H.out.tab.below B11.out)) G hl).mono ?_; rintro e w14 ⟨A14, c14, vs14, he14, hvm14, hrm14, hro14, hmb14, hb14⟩; rw [HMS.out] at he14; subst he14; have B14 : Hid (Below w.heap.size w w14) := Lib.hid (B11.out.trans (hb14.mono B11.out.size)); have HM14 := Lib.hid hvm14; have HL14 : Hid (vs14.length = m) := Lib.hid (by have e := congrArg List.length hvm14; rw [List.length_map, HMS.out] at e; exact e); have HR14 := Lib.hid hrm14; have HI14 := Lib.hid (told_rows hro14); have HT14 : Hid (Texts (vs14.map (·.m))) := Lib.hid (by rw [HM14.out]; exact HT.out); have HV14 : Hid (∀ v ∈ vs14, v.m.l.length ≤ 100000) := Lib.hid (fun v q => by have := (G.out.fit v.m (HM14.out ▸ List.mem_map_of_mem q)).2.2; omega); clear hvm14 hrm14 hro14 hmb14)
      | (go_at_call 37; have _q := B6; refine (rnums_is A6 AE es n c6 cE _ R6 (Lib.hid ((ReadsN.own H.out.doc.eown rfl).below B6.out)) HN (by omega)).mono ?_; rintro e w11 ⟨rfl, hb11⟩; have B11 : Hid (Below w.heap.size w w11) := Lib.hid (B6.out.trans (hb11.mono B6.out.size)))
      | (go_at_call 23; refine (epochs_is (Lib.hid (H.out.tab.below (drewB _))) n HN.out (by omega)).mono ?_; rintro e w6 ⟨A6, c6, rfl, ho6, hb6⟩; have B6 : Hid (Below w.heap.size w w6) := Lib.hid ((drewB _).trans (hb6.mono (drewB _).size)); have R6 := Lib.hid (ReadsN.own ho6 HN.out); clear ho6))
  all_goals
    rename_i hh
    have HB := Lib.hid hh.2
    clear hh
    go_wp2_with fail
    go_ret
    exact ⟨rfl, HB.out⟩
end Go.Proofs.Ytcmlopflandlgaa.L8
