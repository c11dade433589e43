/-
  Contracts over the document's own functions: may, place, N, Has, Same.
-/
import Derived.Test.YtohfbmgonjkhhaaTpHas
import Derived.Test.YtohfbmgonjkhhaaReqAlike
namespace Go.Proofs.Ytohfbmgonjkhhaa.L9
open Go.RowKit
open Go.Maps
open L3 L4

set_option maxRecDepth 100000 in
set_option maxHeartbeats 1000000 in
theorem rmay_is (s : ByteArray) (n : Int) (v : Bool) (w : World) (hs : s.size ≤ maxLen) (HV : Hid (mayB s n = v)) :
    Calls Try.prog 33 #[.string s, .int .i64 n] w fun e w' => e = .returned (.bool v) ∧ w' = w := by
  have hv := HV.out
  rcases may_ways s n with ⟨hp, hm⟩ | ⟨hp, h1, hm⟩ | ⟨hp, h1, h2, hm⟩ | ⟨hp, h1, h2, hm⟩
  all_goals
    rw [hm] at hv
    subst hv
    try have d1 : decide (1 ≤ n) = false := decide_eq_false (by omega)
    try have d1 : decide (1 ≤ n) = true := decide_eq_true (by omega)
    try have d2 : decide (n ≤ 8) = false := decide_eq_false (by omega)
    try have d2 : decide (n ≤ 8) = true := decide_eq_true (by omega)
    have HP := Lib.hid hp
    clear hm hp HV
    go_enter Try.func33, Try.ntmps33
    go_wp2_with (go_at_call 40; refine (rname_any s _ hs).mono ?_; rw [HP.out]; rintro e w1 ⟨rfl, rfl⟩)
    go_ret
    exact ⟨rfl, rfl⟩

/-- where a topic stands; -1: there is none -/
def plP (Q : List Pt) (s : ByteArray) (x : Int) : Prop := (x = -1 ∧ hasB Q s = false) ∨ (∃ (i : Nat) (y : Pt), x = (i : Int) ∧ Q[i]? = some y ∧ y.t = s)
theorem plP_at {Q : List Pt} {s : ByteArray} {x : Int} (h : plP Q s x) (hR : Rise Q) {i : Nat} {y : Pt} (hy : Q[i]? = some y) (e : y.t = s) : x = (i : Int) := by
  rcases h with ⟨_, h⟩ | ⟨j, z, rfl, hz, e'⟩
  · exact absurd e (has_not.1 h y (List.mem_of_getElem? hy))
  · obtain ⟨a, ha⟩ := List.getElem?_eq_some_iff.1 hy
    obtain ⟨b, hb⟩ := List.getElem?_eq_some_iff.1 hz
    rcases Nat.lt_trichotomy i j with q | q | q
    · have := List.pairwise_iff_getElem.1 hR.ne i j a b q
      rw [ha, hb, e, e'] at this; exact absurd rfl this
    · rw [q]
    · have := List.pairwise_iff_getElem.1 hR.ne j i b a q
      rw [ha, hb, e, e'] at this; exact absurd rfl this
theorem plP_none {Q : List Pt} {s : ByteArray} {x : Int} (h : plP Q s x) (hn : ∀ i < Q.length, ∀ y, Q[i]? = some y → y.t ≠ s) : x = -1 := by
  rcases h with ⟨h, _⟩ | ⟨j, z, rfl, hz, e'⟩
  · exact h
  · exact absurd e' (hn j (List.getElem?_eq_some_iff.1 hz).1 z hz)
theorem plP_some {Q : List Pt} {s : ByteArray} (h : hasB Q s = true) : ∃ (i : Nat) (y : Pt), Q[i]? = some y ∧ y.t = s := by
  obtain ⟨y, hy, e⟩ := has_mem.1 h
  obtain ⟨i, hi, hq⟩ := List.getElem_of_mem hy
  exact ⟨i, y, by rw [List.getElem?_eq_getElem hi, hq], e⟩

set_option maxRecDepth 100000 in
set_option maxHeartbeats 1000000 in
theorem rplace_is {w : World} {B k cap m : Nat} {A : Option Addr} {Q : List Pt} (s : ByteArray) (x : Int) (h : Hid (Doc w B k A cap Q)) (hm : Q.length = m) (hl : m ≤ 1000000) (hR : Hid (Rise Q)) (HX : Hid (plP Q s x)) :
    Calls Try.prog 34 #[.pointer (some ⟨k, 0, none⟩), .string s] w fun e w' => e = .returned (.int .i64 x) ∧ w' = w := by
  have c0 := h.out.c0
  rw [hm] at c0
  have HRD := Lib.hid h.out.reads
  have HM := Lib.hid hm
  clear hm
  go_enter Try.func34, Try.ntmps34
  go_wp2_with fail
  go_loop [5] (fun i => ∃ j : Nat, j ≤ m ∧ i = .int .i64 j ∧ Hid (∀ i < j, ∀ y, Q[i]? = some y → y.t ≠ s)) (fun i => m - (intOf i).toNat)
  case atStart => exact ⟨0, Nat.zero_le _, rfl, Lib.hid (fun i hi => absurd hi (by omega))⟩
  case round =>
    obtain ⟨j, hj, rfl, hall⟩ := hrel
    by_cases hlt : j < m
    · obtain ⟨ga, rfl, hga, hcells⟩ := HRD.out (by rw [HM.out]; omega)
      obtain ⟨⟨st, sn⟩, hst⟩ : ∃ st, Q[j]? = some st := ⟨Q[j]'(by rw [HM.out]; exact hlt), List.getElem?_eq_getElem _⟩
      obtain ⟨d0, d1⟩ := hcells j _ hst
      dsimp only at d0
      have k0 : (0 : Int) ≤ (j : Int) := by omega
      have k1 : (j : Int) < (m : Int) := by omega
      have HST := Lib.hid hst
      clear hcells hst d1
      by_cases hs : st = s
      · subst hs
        have hx : x = (j : Int) := plP_at HX.out hR.out HST.out rfl
        subst hx
        go_wp2_with fail
        go_ret
        exact ⟨rfl, rfl⟩
      · have hne : (st.toList == s.toList) = false := bytes_off hs
        have HNX : Hid (∀ i < j + 1, ∀ y, Q[i]? = some y → y.t ≠ s) := Lib.hid (fun i hi y hy => by
          by_cases e : i = j
          · subst e
            rw [HST.out] at hy
            injection hy with hy
            subst hy
            exact hs
          · exact hall.out i (by omega) y hy)
        clear hs
        go_wp2_with fail
        go_round
        case rel => exact ⟨j + 1, by omega, by go_num, HNX⟩
        case measure => simp [intOf]; omega
    · have hjm : j = m := by omega
      have hx : x = -1 := plP_none HX.out (by rw [HM.out, ← hjm]; exact hall.out)
      subst hx
      have q1 : ¬ (j : Int) < (m : Int) := by omega
      clear hjm hlt
      go_wp2_with fail
      go_ret
      exact ⟨rfl, rfl⟩

set_option maxRecDepth 100000 in
set_option maxHeartbeats 1000000 in
theorem rn_is {w : World} {B k cap m : Nat} {A : Option Addr} {Q : List Pt} (s : ByteArray) (y : Int) (h : Hid (Doc w B k A cap Q)) (hm : Q.length = m) (hl : m ≤ 1000000) (hR : Hid (Rise Q)) (HY : Hid (numOf Q s = y)) :
    Calls Try.prog 20 #[.pointer (some ⟨k, 0, none⟩), .string s] w fun e w' => e = .returned (.int .i64 y) ∧ w' = w := by
  cases hh : hasB Q s with
  | false =>
    have HP : Hid (plP Q s (-1)) := Lib.hid (.inl ⟨rfl, hh⟩)
    have hy : y = 0 := by rw [← HY.out, num_none hh]
    subst hy
    clear hh
    go_enter Try.func20, Try.ntmps20
    go_wp2_with (go_at_call 34; refine (rplace_is s (-1) h hm hl hR HP).mono ?_; rintro e w1 ⟨rfl, hw1⟩; obtain rfl := hw1.symm)
    go_ret
    exact ⟨rfl, rfl⟩
  | true =>
    obtain ⟨i, ⟨zt, zn⟩, hz, rfl⟩ := plP_some hh
    have HP : Hid (plP Q zt (i : Int)) := Lib.hid (.inr ⟨i, _, rfl, hz, rfl⟩)
    have hy : zn = y := by rw [← HY.out]; exact (num_mem hR.out.ne (List.mem_of_getElem? hz)).symm
    subst hy
    have hi := (List.getElem?_eq_some_iff.1 hz).1
    rw [hm] at hi
    have c0 := h.out.c0
    rw [hm] at c0
    obtain ⟨ga, rfl, hga, hcells⟩ := h.out.reads (by rw [hm]; omega)
    obtain ⟨_, d1⟩ := hcells i _ hz
    dsimp only at d1
    have k0 : (0 : Int) ≤ (i : Int) := by omega
    have k1 : (i : Int) < (m : Int) := by omega
    have k2 : ¬ (i : Int) < 0 := by omega
    clear hcells hz hh
    go_enter Try.func20, Try.ntmps20
    go_wp2_with (go_at_call 34; refine (rplace_is zt (i : Int) h hm hl hR HP).mono ?_; rintro e w1 ⟨rfl, hw1⟩; obtain rfl := hw1.symm)
    go_ret
    exact ⟨rfl, rfl⟩
set_option maxRecDepth 100000 in
set_option maxHeartbeats 2000000 in
theorem rhas_is {w : World} {B k cap m : Nat} {A : Option Addr} {Q : List Pt} (s : ByteArray) (n : Int) (v : Bool) (h : Hid (Doc w B k A cap Q)) (hm : Q.length = m) (hl : m ≤ 1000000) (hR : Hid (Rise Q)) (HV : Hid (hasP Q s n = v)) :
    Calls Try.prog 22 #[.pointer (some ⟨k, 0, none⟩), .agg #[.string s, .int .i64 n]] w fun e w' => e = .returned (.bool v) ∧ Below w.heap.size w w' := by
  have hv := HV.out
  unfold hasP at hv
  by_cases h0 : 0 ≤ n
  · rw [decide_eq_true h0, Bool.true_and] at hv
    obtain ⟨y, hy⟩ : ∃ y, numOf Q s = y := ⟨_, rfl⟩
    rw [hy] at hv
    have HY := Lib.hid hy
    have HVV : Hid (decide (n < y) = v) := Lib.hid hv
    have g0 : decide (0 ≤ n) = true := decide_eq_true h0
    clear hv hy
    go_enter Try.func22, Try.ntmps22
    go_wp2_with fail
    have hr := heap_alloc_new w (.cells #[.string s, .int .i64 n] 37)
    have b0 : (w.alloc (.cells #[.string s, .int .i64 n] 37)).cell? ⟨w.heap.size, 0, none⟩ = some (.string s) := (cell_of_row _ _ 0 _ _ _ hr).trans rfl
    have b1 : (w.alloc (.cells #[.string s, .int .i64 n] 37)).cell? ⟨w.heap.size, 1, none⟩ = some (.int .i64 n) := (cell_of_row _ _ 1 _ _ _ hr).trans rfl
    have HB1 : Hid (Below w.heap.size w (w.alloc (.cells #[.string s, .int .i64 n] 37))) := Lib.hid (one_box' _)
    clear hr
    go_region_held3 (fun w' => (w'.cell? ⟨w.heap.size, 0, none⟩ = some (.string s) ∧ w'.cell? ⟨w.heap.size, 1, none⟩ = some (.int .i64 n)) ∧ Below w.heap.size w w')
      (first | assumption | exact ⟨⟨b0, b1⟩, HB1.out.drew⟩)
      (first
        | (go_at_call 20; refine (rn_is s y (Lib.hid (h.out.below HB1.out.drew)) hm hl hR HY).mono ?_; rintro e w1 ⟨rfl, rfl⟩))
    all_goals
      go_wp2_with fail
      go_ret
      exact ⟨congrArg Ending.returned (congrArg Value.bool HVV.out), HB1.out.drew⟩
  · have g0 : decide (0 ≤ n) = false := decide_eq_false h0
    have hv' : v = false := by rw [← hv, decide_eq_false h0]; rfl
    subst hv'
    clear hv
    go_enter Try.func22, Try.ntmps22
    go_wp2_with fail
    go_quiet (fail)
    go_wp2_with fail
    go_ret
    exact ⟨rfl, drewN_below (one_box' _) _⟩
set_option maxRecDepth 100000 in
set_option maxHeartbeats 4000000 in
theorem rsame_is (A A' : Option Addr) (l l' : List Pt) (cap cap' B : Nat) (v : Bool) (w : World) (hR : Hid (ReadsP w B A l)) (hR' : Hid (ReadsP w B A' l')) (hB : B ≤ w.heap.size) (hl : l.length ≤ maxLen) (HV : Hid (v = true ↔ l = l')) :
    Calls Try.prog 18 #[.slice A l.length cap, .slice A' l'.length cap'] w fun e w' => e = .returned (.bool v) ∧ Below w.heap.size w w' := by
  unfold maxLen at hl
  by_cases hn : l.length = l'.length
  · go_enter Try.func18, Try.ntmps18
    rw [← hn]
    have HN := Lib.hid hn
    clear hn
    go_wp2_with fail
    go_loopw [5] (fun i wr => ∃ k : Nat, k ≤ l.length ∧ i = .int .i64 k ∧ Hid (l.take k = l'.take k) ∧ Below w.heap.size w wr) (fun i _ => l.length - (intOf i).toNat)
    case atStart => exact ⟨0, by omega, rfl, Lib.hid (by simp), Below.refl _ _⟩
    case round =>
      obtain ⟨k, hk, rfl, heq, hbel⟩ := hrel
      by_cases hlt : k < l.length
      · have HNo := HN.out
        obtain ⟨g, rfl, hg, hcells⟩ := hR.out (by omega)
        obtain ⟨g', rfl, hg', hcells'⟩ := hR'.out (by omega)
        obtain ⟨⟨tp, n⟩, hs⟩ : ∃ s, l[k]? = some s := ⟨l[k], List.getElem?_eq_getElem hlt⟩
        obtain ⟨⟨tp', n'⟩, ht⟩ : ∃ t, l'[k]? = some t := ⟨l'[k], List.getElem?_eq_getElem (by omega)⟩
        obtain ⟨c0, c1⟩ := hcells k _ hs
        obtain ⟨b0, b1⟩ := hcells' k _ ht
        have d0 := (hbel.cell (p := ⟨g, k * 2, none⟩) (by show g < _; omega)).trans c0
        have d1 := (hbel.cell (p := ⟨g, k * 2 + 1, none⟩) (by show g < _; omega)).trans c1
        have e0 := (hbel.cell (p := ⟨g', k * 2, none⟩) (by show g' < _; omega)).trans b0
        have e1 := (hbel.cell (p := ⟨g', k * 2 + 1, none⟩) (by show g' < _; omega)).trans b1
        have k0 : (0 : Int) ≤ (k : Int) := by omega
        have k1 : (k : Int) < (l.length : Int) := by omega
        have HS := Lib.hid hs
        have HT := Lib.hid ht
        clear c0 c1 b0 b1 hcells hcells' hs ht HNo
        dsimp only at d0 d1 e0 e1
        have hways := pt_ways n n' tp tp'
        rcases hways with ⟨rfl, rfl⟩ | q | ⟨rfl, q⟩
        · have HNX : Hid (l.take (k + 1) = l'.take (k + 1)) := Lib.hid (by rw [List.take_add_one, List.take_add_one, HS.out, HT.out, heq.out])
          go_wp2_with fail
          go_quiet (fail)
          go_wp2_with fail
          go_roundw
          case rel => exact ⟨k + 1, by omega, by go_num, HNX, drewN_below hbel _⟩
          case measure => simp [intOf]; omega
        all_goals
          have HD : Hid (v = false) := Lib.hid (rec_off HV.out HS.out HT.out (by intro e; injection e with e1 e2; subst_vars; simp at q))
          go_wp2_with fail
          go_quiet (fail)
          go_wp2_with fail
          go_ret
          exact ⟨congrArg Ending.returned (congrArg Value.bool HD.out.symm), drewN_below hbel _⟩
      · obtain rfl : k = l.length := by omega
        have HD : Hid (v = true) := Lib.hid (by
          have := heq.out
          rw [List.take_length, List.take_of_length_le (by have := HN.out; omega)] at this
          exact HV.out.2 this)
        go_wp2_with fail
        go_ret
        exact ⟨congrArg Ending.returned (congrArg Value.bool HD.out.symm), hbel⟩
  · have h1 : ((l.length : Int) != (l'.length : Int)) = true := by simp; omega
    have HD : Hid (v = false) := Lib.hid (by
      cases v
      · rfl
      · exact absurd (congrArg List.length (HV.out.1 rfl)) hn)
    clear hn
    go_enter Try.func18, Try.ntmps18
    go_wp2_with fail
    go_ret
    exact ⟨congrArg Ending.returned (congrArg Value.bool HD.out.symm), Below.refl _ _⟩

end Go.Proofs.Ytohfbmgonjkhhaa.L9
