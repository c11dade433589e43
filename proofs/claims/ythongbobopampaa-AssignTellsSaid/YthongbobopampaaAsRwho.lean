/-
  Contracts: which list has a partition; whether lists are the same: the document's.
-/
import Derived.Test.YthongbobopampaaAsProg
namespace Go.Proofs.Ythongbobopampaa.L10
open Go.RowKit
open L3 L4 L9

set_option maxRecDepth 100000 in
set_option maxHeartbeats 4000000 in
theorem rwhose_is (w : World) (lo : Nat) (A : Option Addr) (n c : Nat) (L : List (List Pt)) (t : ByteArray) (k0 v : Int) (hL : Hid (ReadsL w lo w.heap.size A L)) (hn : Hid (L.length = n)) (hn1 : n ≤ 1000000) (hx : Hid (∀ x ∈ L, x.length ≤ 1000000)) (HV : Hid (WhoP L ⟨t, k0⟩ v)) :
    Calls Try.prog 13 #[.slice A n c, .agg #[.string t, .int .i64 k0]] w fun e w' => e = .returned (.int .i64 v) ∧ Below w.heap.size w w' := by
  have hb1 : Below w.heap.size w (w.alloc (.cells #[.string t, .int .i64 k0] 27)) := one_box' _
  have hr1 := heap_alloc_new w (.cells #[.string t, .int .i64 k0] 27)
  go_enter Try.func13, Try.ntmps13
  go_wp2_with fail
  obtain ⟨w1, hw1⟩ : ∃ w1, w.alloc (.cells #[.string t, .int .i64 k0] 27) = w1 := ⟨_, rfl⟩
  rw [hw1] at hb1 hr1 ⊢
  have HB1 := Lib.hid hb1
  have HR1 := Lib.hid hr1
  have HZ1 : Hid (w.heap.size < w1.heap.size) := Lib.hid (Array.getElem?_eq_some_iff.1 hr1).1
  clear hb1 hr1 hw1
  go_loopw [5] (fun s wr => ∃ i : Nat, i ≤ n ∧ s = .int .i64 i ∧ Hid (∀ j < i, ∀ x, L[j]? = some x → (⟨t, k0⟩ : Pt) ∉ x) ∧ Hid (Below w1.heap.size w1 wr)) (fun s _ => n - (intOf s).toNat)
  case atStart => exact ⟨0, by omega, rfl, Lib.hid (fun j h => by omega), Lib.hid (Below.refl _ _)⟩
  case round =>
    obtain ⟨i, hi, rfl, HNO, HB⟩ := hrel
    by_cases hlt : i < n
    · obtain ⟨g, rfl, hlo, hg, hc⟩ := hL.out (by rw [hn.out]; omega)
      obtain ⟨x, hx0⟩ : ∃ x, L[i]? = some x := ⟨_, List.getElem?_eq_getElem (by rw [hn.out]; omega)⟩
      obtain ⟨Ai, ci, d0, hrd, -⟩ := hc i x hx0
      have b0 : (0 : Int) ≤ (i : Int) := by omega
      have b1 : (i : Int) < (n : Int) := by omega
      have hxl := hx.out x (List.mem_of_getElem? hx0)
      obtain ⟨m, hm⟩ : ∃ m, x.length = m := ⟨_, rfl⟩
      rw [hm] at d0 hxl
      have D0 := Lib.hid d0
      have HM := Lib.hid hm
      have HX0 := Lib.hid hx0
      have HRD := Lib.hid hrd
      clear hc hrd hm hx0 d0
      go_wp2_with fail
      obtain ⟨wo, hwo⟩ : ∃ wo, wo = wr := ⟨_, rfl⟩
      rw [← hwo] at HB ⊢
      clear hwo
      go_loopw [6] (fun s wr => ∃ q : Nat, q ≤ m ∧ s = .int .i64 q ∧ Hid ((⟨t, k0⟩ : Pt) ∉ x.take q) ∧ Hid (Below w1.heap.size w1 wr)) (fun s _ => m - (intOf s).toNat)
      case atStart => exact ⟨0, by omega, rfl, Lib.hid (by simp), HB⟩
      case round =>
        obtain ⟨q, hq, rfl, HNQ, HBQ⟩ := hrel
        have hw2 : Below w.heap.size w wr := HB1.out.trans (HBQ.out.mono HB1.out.size)
        have d0 := (hw2.cell (p := ⟨g, i, none⟩) hg).trans D0.out
        by_cases hqm : q < m
        · obtain ⟨gi, rfl, hgi, hci⟩ := HRD.out (by rw [HM.out]; omega)
          obtain ⟨⟨t', k'⟩, hs⟩ : ∃ s, x[q]? = some s := ⟨_, List.getElem?_eq_getElem (by rw [HM.out]; omega)⟩
          obtain ⟨e0, e1⟩ := hci q _ hs
          have e0 := (hw2.cell (p := ⟨gi, q * 2, none⟩) hgi).trans e0
          have e1 := (hw2.cell (p := ⟨gi, q * 2 + 1, none⟩) hgi).trans e1
          dsimp only at e0 e1
          have hrw := (HBQ.out.block w.heap.size HZ1.out).trans HR1.out
          have f0 := (cell_of_row _ _ 0 _ _ _ hrw).trans rfl
          have f1 := (cell_of_row _ _ 1 _ _ _ hrw).trans rfl
          have j0 : (0 : Int) ≤ (q : Int) := by omega
          have j1 : (q : Int) < (m : Int) := by omega
          have HS := Lib.hid hs
          clear hci hs hw2 hrw
          by_cases heq : t' = t ∧ k' = k0
          · obtain ⟨rfl, rfl⟩ := heq
            have HD : Hid (v = (i : Int)) := Lib.hid (who_one HV.out (.inl ⟨i, rfl, by rw [hn.out]; exact hlt, ⟨x, HX0.out, List.mem_of_getElem? HS.out⟩, HNO.out⟩))
            go_wp2_with fail
            go_quiet (fail)
            go_wp2_with fail
            go_ret
            exact ⟨congrArg Ending.returned (congrArg (Value.int .i64) HD.out.symm), HB1.out.trans ((drewN_below HBQ.out _).mono HB1.out.size)⟩
          · have HNX : Hid ((⟨t, k0⟩ : Pt) ∉ x.take (q + 1)) := Lib.hid (by
              rw [List.take_add_one, HS.out]
              intro hmem
              rcases List.mem_append.1 hmem with hmem | hmem
              · exact HNQ.out hmem
              · simp at hmem
                exact heq ⟨hmem.1.symm, hmem.2.symm⟩)
            rcases ways2 heq with hne | ⟨rfl, hne⟩
            all_goals
              go_wp2_with fail
              go_quiet (fail)
              go_wp2_with fail
              go_roundw
              case rel => exact ⟨q + 1, by omega, by go_num, HNX, Lib.hid (drewN_below HBQ.out _)⟩
              case measure => simp [intOf]; omega
        · have HNX : Hid (∀ j < i + 1, ∀ y, L[j]? = some y → (⟨t, k0⟩ : Pt) ∉ y) := Lib.hid (fun j hj y hy => by
            rcases Nat.lt_or_ge j i with z | z
            · exact HNO.out j z y hy
            · obtain rfl : j = i := by omega
              rw [HX0.out] at hy; injection hy with hy; subst hy
              have := HNQ.out
              rwa [List.take_of_length_le (by rw [HM.out]; omega)] at this)
          obtain rfl : q = m := by omega
          clear hw2
          go_wp2_with fail
          go_roundw
          case rel => exact ⟨i + 1, by omega, by go_num, HNX, HBQ⟩
          case measure => simp [intOf]; omega
    · obtain rfl : i = n := by omega
      have HD : Hid (v = -1) := Lib.hid (who_one HV.out (.inr ⟨rfl, fun x hx => by
        obtain ⟨j, hj, rfl⟩ := List.mem_iff_getElem.1 hx
        exact HNO.out j (by rw [← hn.out]; exact hj) _ (List.getElem?_eq_getElem hj)⟩))
      go_wp2_with fail
      go_ret
      exact ⟨congrArg Ending.returned (congrArg (Value.int .i64) HD.out.symm), HB1.out.trans (HB.out.mono HB1.out.size)⟩

/-- the same lists, the same length of each -/
theorem parts_is (A A' : Option Addr) (l l' : List Pt) (n n' cap cap' B : Nat) (v : Bool) (w : World) (hR : Hid (ReadsP w B A l)) (hR' : Hid (ReadsP w B A' l')) (hB : B ≤ w.heap.size) (hn : Hid (l.length = n)) (hn' : Hid (l'.length = n')) (hl : n ≤ 1000000) (HV : Hid (v = true ↔ l = l')) :
    Calls Try.prog 25 #[.slice A n cap, .slice A' n' cap'] w fun e w' => e = .returned (.bool v) ∧ Below w.heap.size w w' := by
  have h := rparts_is A A' l l' cap cap' B v w hR hR' hB (by rw [hn.out]; unfold maxLen; omega) HV
  rw [hn.out, hn'.out] at h
  exact h
set_option maxRecDepth 100000 in
set_option maxHeartbeats 4000000 in
theorem rsame_is (w : World) (lo lo' : Nat) (A A' : Option Addr) (n n' c c' : Nat) (L L' : List (List Pt)) (v : Bool) (hL : Hid (ReadsL w lo w.heap.size A L)) (hL' : Hid (ReadsL w lo' w.heap.size A' L')) (hn : Hid (L.length = n)) (hn' : Hid (L'.length = n')) (hn1 : n ≤ 1000000) (hx : Hid (∀ x ∈ L, x.length ≤ 1000000)) (HV : Hid (v = true ↔ L = L')) :
    Calls Try.prog 11 #[.slice A n c, .slice A' n' c'] w fun e w' => e = .returned (.bool v) ∧ Below w.heap.size w w' := by
  by_cases hnn : n = n'
  · subst hnn
    go_enter Try.func11, Try.ntmps11
    go_wp2_with fail
    go_loopw [5] (fun s wr => ∃ i : Nat, i ≤ n ∧ s = .int .i64 i ∧ Hid (L.take i = L'.take i) ∧ Hid (Below w.heap.size w wr)) (fun s _ => n - (intOf s).toNat)
    case atStart => exact ⟨0, by omega, rfl, Lib.hid (by simp), Lib.hid (Below.refl _ _)⟩
    case round =>
      obtain ⟨i, hi, rfl, HEQ, HB⟩ := hrel
      by_cases hlt : i < n
      · obtain ⟨g, rfl, hlo, hg, hc⟩ := hL.out (by rw [hn.out]; omega)
        obtain ⟨g', rfl, hlo', hg', hc'⟩ := hL'.out (by rw [hn'.out]; omega)
        obtain ⟨x, hx0⟩ : ∃ x, L[i]? = some x := ⟨_, List.getElem?_eq_getElem (by rw [hn.out]; omega)⟩
        obtain ⟨y, hy0⟩ : ∃ y, L'[i]? = some y := ⟨_, List.getElem?_eq_getElem (by rw [hn'.out]; omega)⟩
        obtain ⟨Ai, ci, d0, hrd, -⟩ := hc i x hx0
        obtain ⟨Aj, cj, e0, hre, -⟩ := hc' i y hy0
        have d0 := (HB.out.cell (p := ⟨g, i, none⟩) hg).trans d0
        have e0 := (HB.out.cell (p := ⟨g', i, none⟩) hg').trans e0
        have b0 : (0 : Int) ≤ (i : Int) := by omega
        have b1 : (i : Int) < (n : Int) := by omega
        have hxl := hx.out x (List.mem_of_getElem? hx0)
        obtain ⟨m, hm⟩ : ∃ m, x.length = m := ⟨_, rfl⟩
        obtain ⟨m', hm'⟩ : ∃ m', y.length = m' := ⟨_, rfl⟩
        rw [hm] at d0 hxl
        rw [hm'] at e0
        obtain ⟨u, hu⟩ : ∃ u : Bool, u = true ↔ x = y := by
          by_cases e : x = y
          · exact ⟨true, by simp [e]⟩
          · exact ⟨false, by simp [e]⟩
        have HU := Lib.hid hu
        have HM := Lib.hid hm
        have HM' := Lib.hid hm'
        have HRD := Lib.hid (hrd.below HB.out.drew)
        have HRE := Lib.hid (hre.below HB.out.drew)
        have HNX : Hid (u = true → L.take (i + 1) = L'.take (i + 1)) := Lib.hid (fun e => by
          rw [List.take_add_one, List.take_add_one, HEQ.out, hx0, hy0, hu.1 e])
        have HD : Hid (u = false → v = false) := Lib.hid (fun e => by
          cases v
          · rfl
          · have := HV.out.1 rfl
            rw [this, hy0] at hx0
            injection hx0 with hx0
            have := hu.2 hx0.symm
            rw [e] at this; cases this)
        have HZ := Lib.hid HB.out.drew.size
        have HDR := Lib.hid HB.out.drew
        clear hc hc' hrd hre hm hm' hx0 hy0 hu
        cases u with
        | true =>
          go_wp2_with fail
          go_region_held3 (fun w' => (w'.cell? ⟨g, i, none⟩ = some (.slice Ai m ci) ∧ w'.cell? ⟨g', i, none⟩ = some (.slice Aj m' cj)) ∧ Below w.heap.size w w')
            (first | with_reducible assumption | exact ⟨⟨d0, e0⟩, HDR.out⟩ | exact keep2 (by with_reducible assumption) (by with_reducible assumption))
            (first
              | (go_at_call 25; refine (parts_is Ai Aj x y m m' ci cj w.heap.size true _ HRD HRE HZ.out HM HM' hxl (Lib.hid (by simpa using HU.out))).mono ?_; rintro e w2 ⟨rfl, hb2⟩))
          rename_i hHeld
          have HBN := Lib.hid hHeld.2
          clear hHeld
          go_wp2_with fail
          go_roundw
          case rel => exact ⟨i + 1, by omega, by go_num, Lib.hid (HNX.out (by simp)), HBN⟩
          case measure => simp [intOf]; omega
        | false =>
          go_wp2_with fail
          go_region_held3 (fun w' => (w'.cell? ⟨g, i, none⟩ = some (.slice Ai m ci) ∧ w'.cell? ⟨g', i, none⟩ = some (.slice Aj m' cj)) ∧ Below w.heap.size w w')
            (first | with_reducible assumption | exact ⟨⟨d0, e0⟩, HDR.out⟩ | exact keep2 (by with_reducible assumption) (by with_reducible assumption))
            (first
              | (go_at_call 25; refine (parts_is Ai Aj x y m m' ci cj w.heap.size false _ HRD HRE HZ.out HM HM' hxl (Lib.hid (by simpa using HU.out))).mono ?_; rintro e w2 ⟨rfl, hb2⟩))
          rename_i hHeld
          have HBN := Lib.hid hHeld.2
          clear hHeld
          go_wp2_with fail
          go_ret
          exact ⟨congrArg Ending.returned (congrArg Value.bool (HD.out (by simp)).symm), HBN.out⟩
      · obtain rfl : i = n := by omega
        have HD : Hid (v = true) := Lib.hid (HV.out.2 (by
          have := HEQ.out
          rwa [List.take_of_length_le (by rw [hn.out]; exact Nat.le_refl _), List.take_of_length_le (by rw [hn'.out]; exact Nat.le_refl _)] at this))
        go_wp2_with fail
        go_ret
        exact ⟨congrArg Ending.returned (congrArg Value.bool HD.out.symm), HB.out⟩
  · have HD : Hid (v = false) := Lib.hid (by
      cases v
      · rfl
      · have := congrArg List.length (HV.out.1 rfl)
        rw [hn.out, hn'.out] at this
        exact absurd this hnn)
    have q : ((n : Int) != (n' : Int)) = true := by simp; omega
    clear hnn
    go_enter Try.func11, Try.ntmps11
    go_wp2_with fail
    go_ret
    exact ⟨congrArg Ending.returned (congrArg Value.bool HD.out.symm), Below.refl _ _⟩
end Go.Proofs.Ythongbobopampaa.L10
