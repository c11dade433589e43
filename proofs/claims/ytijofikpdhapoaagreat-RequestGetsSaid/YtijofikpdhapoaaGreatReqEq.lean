/-
  Contracts: the library's Equal at the slices that commands and replies hold: out of the document's own functions' walks.
-/
import Derived.Test.YtijofikpdhapoaaGreatReqAlike
namespace Go.Proofs.YtijofikpdhapoaaGreat.L4
open Go.RowKit
open L3

set_option maxRecDepth 100000 in
set_option maxHeartbeats 2000000 in
/-- two lists of texts: the same? -/
theorem etexts_is (A A' : Option Addr) (l l' : List ByteArray) (cap cap' B : Nat) (v : Bool) (w : World) (hR : Hid (ReadsT w B A l)) (hR' : Hid (ReadsT w B A' l')) (hB : B ≤ w.heap.size) (hl : l.length ≤ maxLen) (HV : Hid (v = true ↔ l = l')) :
    Calls Tryz.prog 45 #[.slice A l.length cap, .slice A' l'.length cap'] w fun e w' => e = .returned (.bool v) ∧ Below w.heap.size w w' := by
  unfold maxLen at hl
  by_cases hn : l.length = l'.length
  · go_enter Tryz.func45, Tryz.ntmps45
    rw [← hn]
    have HN := Lib.hid hn
    clear hn
    go_wp2_with fail
    go_loopw [13] (fun i wr => ∃ k : Nat, k ≤ l.length ∧ i = .int .i64 k ∧ Hid (l.take k = l'.take k) ∧ Below w.heap.size w wr) (fun i _ => l.length - (intOf i).toNat)
    case atStart => exact ⟨0, by omega, rfl, Lib.hid (by simp), Below.refl _ _⟩
    case round =>
      obtain ⟨k, hk, rfl, heq, hbel⟩ := hrel
      by_cases hlt : k < l.length
      · have HNo := HN.out
        obtain ⟨g, rfl, hg, hcells⟩ := hR.out (by omega)
        obtain ⟨g', rfl, hg', hcells'⟩ := hR'.out (by omega)
        obtain ⟨s, hs⟩ : ∃ s, l[k]? = some s := ⟨l[k], List.getElem?_eq_getElem hlt⟩
        obtain ⟨t, ht⟩ : ∃ t, l'[k]? = some t := ⟨l'[k], List.getElem?_eq_getElem (by omega)⟩
        have d0 := (hbel.cell (p := ⟨g, k, none⟩) (by show g < _; omega)).trans (hcells k s hs)
        have e0 := (hbel.cell (p := ⟨g', k, none⟩) (by show g' < _; omega)).trans (hcells' k t ht)
        have k0 : (0 : Int) ≤ (k : Int) := by omega
        have k1 : (k : Int) < (l.length : Int) := by omega
        by_cases hst : s = t
        · subst hst
          have HNX : Hid (l.take (k + 1) = l'.take (k + 1)) := Lib.hid (by rw [List.take_add_one, List.take_add_one, hs, ht, heq.out])
          clear hcells hcells' hs ht HNo
          go_wp2_with fail
          go_quiet (fail)
          go_wp2_with fail
          go_roundw
          case rel => exact ⟨k + 1, by omega, by go_num, HNX, drewN_below hbel _⟩
          case measure => simp [intOf]; omega
        · have hne : (s.toList == t.toList) = false := by
            rw [beq_eq_false_iff_ne]
            intro e
            apply hst
            rw [ByteArray.toList_eq, ByteArray.toList_eq] at e
            cases s; cases t
            simpa using e
          have hne2 : (!(s.toList == t.toList)) = true := by rw [hne]; rfl
          have HD : Hid (v = false) := Lib.hid (by
            cases v
            · rfl
            · have e := HV.out.1 rfl
              subst e
              rw [hs] at ht
              exact absurd (Option.some.inj ht) hst)
          clear hcells hcells' hs ht HNo hst
          go_wp2_with fail
          go_quiet (fail)
          go_wp2_with fail
          go_ret
          exact ⟨congrArg Ending.returned (congrArg Value.bool HD.out.symm), drewN_below hbel _⟩
      · obtain rfl : k = l.length := by omega
        have HD : Hid (v = true) := Lib.hid (by
          have := heq.out
          rw [List.take_length, List.take_of_length_le (by have := HN.out; omega)] at this
          exact HV.out.2 this)
        go_wp2_with fail
        go_ret
        exact ⟨congrArg Ending.returned (congrArg Value.bool HD.out.symm), hbel⟩
  · have h1 : ((l.length : Int) != (l'.length : Int)) = true := by simp; omega
    have HD : Hid (v = false) := Lib.hid (by
      cases v
      · rfl
      · exact absurd (congrArg List.length (HV.out.1 rfl)) hn)
    clear hn
    go_enter Tryz.func45, Tryz.ntmps45
    go_wp2_with fail
    go_ret
    exact ⟨congrArg Ending.returned (congrArg Value.bool HD.out.symm), Below.refl _ _⟩

set_option maxRecDepth 100000 in
set_option maxHeartbeats 2000000 in
/-- two lists of records: the same? -/
theorem erecords_is (A A' : Option Addr) (l l' : List R) (cap cap' B : Nat) (v : Bool) (w : World) (hR : Hid (Reads w B A l)) (hR' : Hid (Reads w B A' l')) (hB : B ≤ w.heap.size) (hl : l.length ≤ maxLen) (HV : Hid (v = true ↔ l = l')) :
    Calls Tryz.prog 72 #[.slice A l.length cap, .slice A' l'.length cap'] w fun e w' => e = .returned (.bool v) ∧ Below w.heap.size w w' := by
  unfold maxLen at hl
  by_cases hn : l.length = l'.length
  · go_enter Tryz.func72, Tryz.ntmps72
    rw [← hn]
    have HN := Lib.hid hn
    clear hn
    go_wp2_with fail
    go_loopw [13] (fun i wr => ∃ k : Nat, k ≤ l.length ∧ i = .int .i64 k ∧ Hid (l.take k = l'.take k) ∧ Below w.heap.size w wr) (fun i _ => l.length - (intOf i).toNat)
    case atStart => exact ⟨0, by omega, rfl, Lib.hid (by simp), Below.refl _ _⟩
    case round =>
      obtain ⟨k, hk, rfl, heq, hbel⟩ := hrel
      by_cases hlt : k < l.length
      · have HNo := HN.out
        obtain ⟨g, rfl, hg, hcells⟩ := hR.out (by omega)
        obtain ⟨g', rfl, hg', hcells'⟩ := hR'.out (by omega)
        obtain ⟨⟨rk, key, tb, val⟩, hs⟩ : ∃ s, l[k]? = some s := ⟨l[k], List.getElem?_eq_getElem hlt⟩
        obtain ⟨⟨rk', key', tb', val'⟩, ht⟩ : ∃ t, l'[k]? = some t := ⟨l'[k], List.getElem?_eq_getElem (by omega)⟩
        obtain ⟨c0, c1, c2, c3⟩ := hcells k _ hs
        obtain ⟨b0, b1, b2, b3⟩ := hcells' k _ ht
        have d0 := (hbel.cell (p := ⟨g, k * 4, none⟩) (by show g < _; omega)).trans c0
        have d1 := (hbel.cell (p := ⟨g, k * 4 + 1, none⟩) (by show g < _; omega)).trans c1
        have d2 := (hbel.cell (p := ⟨g, k * 4 + 2, none⟩) (by show g < _; omega)).trans c2
        have d3 := (hbel.cell (p := ⟨g, k * 4 + 3, none⟩) (by show g < _; omega)).trans c3
        have e0 := (hbel.cell (p := ⟨g', k * 4, none⟩) (by show g' < _; omega)).trans b0
        have e1 := (hbel.cell (p := ⟨g', k * 4 + 1, none⟩) (by show g' < _; omega)).trans b1
        have e2 := (hbel.cell (p := ⟨g', k * 4 + 2, none⟩) (by show g' < _; omega)).trans b2
        have e3 := (hbel.cell (p := ⟨g', k * 4 + 3, none⟩) (by show g' < _; omega)).trans b3
        have k0 : (0 : Int) ≤ (k : Int) := by omega
        have k1 : (k : Int) < (l.length : Int) := by omega
        have HS := Lib.hid hs
        have HT := Lib.hid ht
        clear c0 c1 c2 c3 b0 b1 b2 b3 hcells hcells' hs ht HNo
        dsimp only at d0 d1 d2 d3 e0 e1 e2 e3
        have hways := rec_ways rk rk' tb tb' key key' val val'
        rcases hways with ⟨rfl, rfl, rfl, rfl⟩ | q | ⟨rfl, q⟩ | ⟨rfl, rfl, q⟩ | ⟨rfl, rfl, rfl, q⟩
        · have HNX : Hid (l.take (k + 1) = l'.take (k + 1)) := Lib.hid (by rw [List.take_add_one, List.take_add_one, HS.out, HT.out, heq.out])
          go_wp2_with fail
          go_quiet (fail)
          go_wp2_with fail
          go_roundw
          case rel => exact ⟨k + 1, by omega, by go_num, HNX, drewN_below hbel _⟩
          case measure => simp [intOf]; omega
        all_goals
          have HD : Hid (v = false) := Lib.hid (rec_off HV.out HS.out HT.out (by intro e; injection e with e1 e2 e3 e4; subst_vars; simp at q))
          go_wp2_with fail
          go_quiet (fail)
          go_wp2_with fail
          go_ret
          exact ⟨congrArg Ending.returned (congrArg Value.bool HD.out.symm), drewN_below hbel _⟩
      · obtain rfl : k = l.length := by omega
        have HD : Hid (v = true) := Lib.hid (by
          have := heq.out
          rw [List.take_length, List.take_of_length_le (by have := HN.out; omega)] at this
          exact HV.out.2 this)
        go_wp2_with fail
        go_ret
        exact ⟨congrArg Ending.returned (congrArg Value.bool HD.out.symm), hbel⟩
  · have h1 : ((l.length : Int) != (l'.length : Int)) = true := by simp; omega
    have HD : Hid (v = false) := Lib.hid (by
      cases v
      · rfl
      · exact absurd (congrArg List.length (HV.out.1 rfl)) hn)
    clear hn
    go_enter Tryz.func72, Tryz.ntmps72
    go_wp2_with fail
    go_ret
    exact ⟨congrArg Ending.returned (congrArg Value.bool HD.out.symm), Below.refl _ _⟩

set_option maxRecDepth 100000 in
set_option maxHeartbeats 4000000 in
theorem eparts_is (A A' : Option Addr) (l l' : List Pt) (cap cap' B : Nat) (v : Bool) (w : World) (hR : Hid (ReadsP w B A l)) (hR' : Hid (ReadsP w B A' l')) (hB : B ≤ w.heap.size) (hl : l.length ≤ maxLen) (HV : Hid (v = true ↔ l = l')) :
    Calls Tryz.prog 48 #[.slice A l.length cap, .slice A' l'.length cap'] w fun e w' => e = .returned (.bool v) ∧ Below w.heap.size w w' := by
  unfold maxLen at hl
  by_cases hn : l.length = l'.length
  · go_enter Tryz.func48, Tryz.ntmps48
    rw [← hn]
    have HN := Lib.hid hn
    clear hn
    go_wp2_with fail
    go_loopw [13] (fun i wr => ∃ k : Nat, k ≤ l.length ∧ i = .int .i64 k ∧ Hid (l.take k = l'.take k) ∧ Below w.heap.size w wr) (fun i _ => l.length - (intOf i).toNat)
    case atStart => exact ⟨0, by omega, rfl, Lib.hid (by simp), Below.refl _ _⟩
    case round =>
      obtain ⟨k, hk, rfl, heq, hbel⟩ := hrel
      by_cases hlt : k < l.length
      · have HNo := HN.out
        obtain ⟨g, rfl, hg, hcells⟩ := hR.out (by omega)
        obtain ⟨g', rfl, hg', hcells'⟩ := hR'.out (by omega)
        obtain ⟨⟨tp, n⟩, hs⟩ : ∃ s, l[k]? = some s := ⟨l[k], List.getElem?_eq_getElem hlt⟩
        obtain ⟨⟨tp', n'⟩, ht⟩ : ∃ t, l'[k]? = some t := ⟨l'[k], List.getElem?_eq_getElem (by omega)⟩
        obtain ⟨c0, c1⟩ := hcells k _ hs
        obtain ⟨b0, b1⟩ := hcells' k _ ht
        have d0 := (hbel.cell (p := ⟨g, k * 2, none⟩) (by show g < _; omega)).trans c0
        have d1 := (hbel.cell (p := ⟨g, k * 2 + 1, none⟩) (by show g < _; omega)).trans c1
        have e0 := (hbel.cell (p := ⟨g', k * 2, none⟩) (by show g' < _; omega)).trans b0
        have e1 := (hbel.cell (p := ⟨g', k * 2 + 1, none⟩) (by show g' < _; omega)).trans b1
        have k0 : (0 : Int) ≤ (k : Int) := by omega
        have k1 : (k : Int) < (l.length : Int) := by omega
        have HS := Lib.hid hs
        have HT := Lib.hid ht
        clear c0 c1 b0 b1 hcells hcells' hs ht HNo
        dsimp only at d0 d1 e0 e1
        have hways := pt_ways n n' tp tp'
        rcases hways with ⟨rfl, rfl⟩ | q | ⟨rfl, q⟩
        · have HNX : Hid (l.take (k + 1) = l'.take (k + 1)) := Lib.hid (by rw [List.take_add_one, List.take_add_one, HS.out, HT.out, heq.out])
          go_wp2_with fail
          go_quiet (fail)
          go_wp2_with fail
          go_roundw
          case rel => exact ⟨k + 1, by omega, by go_num, HNX, drewN_below hbel _⟩
          case measure => simp [intOf]; omega
        all_goals
          have HD : Hid (v = false) := Lib.hid (rec_off HV.out HS.out HT.out (by intro e; injection e with e1 e2; subst_vars; simp at q))
          go_wp2_with fail
          go_quiet (fail)
          go_wp2_with fail
          go_ret
          exact ⟨congrArg Ending.returned (congrArg Value.bool HD.out.symm), drewN_below hbel _⟩
      · obtain rfl : k = l.length := by omega
        have HD : Hid (v = true) := Lib.hid (by
          have := heq.out
          rw [List.take_length, List.take_of_length_le (by have := HN.out; omega)] at this
          exact HV.out.2 this)
        go_wp2_with fail
        go_ret
        exact ⟨congrArg Ending.returned (congrArg Value.bool HD.out.symm), hbel⟩
  · have h1 : ((l.length : Int) != (l'.length : Int)) = true := by simp; omega
    have HD : Hid (v = false) := Lib.hid (by
      cases v
      · rfl
      · exact absurd (congrArg List.length (HV.out.1 rfl)) hn)
    clear hn
    go_enter Tryz.func48, Tryz.ntmps48
    go_wp2_with fail
    go_ret
    exact ⟨congrArg Ending.returned (congrArg Value.bool HD.out.symm), Below.refl _ _⟩

set_option maxRecDepth 100000 in
set_option maxHeartbeats 4000000 in
theorem efound_is (A A' : Option Addr) (l l' : List Fd) (cap cap' B : Nat) (v : Bool) (w : World) (hR : Hid (ReadsF w B A l)) (hR' : Hid (ReadsF w B A' l')) (hB : B ≤ w.heap.size) (hl : l.length ≤ maxLen) (HV : Hid (v = true ↔ l = l')) :
    Calls Tryz.prog 47 #[.slice A l.length cap, .slice A' l'.length cap'] w fun e w' => e = .returned (.bool v) ∧ Below w.heap.size w w' := by
  unfold maxLen at hl
  by_cases hn : l.length = l'.length
  · go_enter Tryz.func47, Tryz.ntmps47
    rw [← hn]
    have HN := Lib.hid hn
    clear hn
    go_wp2_with fail
    go_loopw [13] (fun i wr => ∃ k : Nat, k ≤ l.length ∧ i = .int .i64 k ∧ Hid (l.take k = l'.take k) ∧ Below w.heap.size w wr) (fun i _ => l.length - (intOf i).toNat)
    case atStart => exact ⟨0, by omega, rfl, Lib.hid (by simp), Below.refl _ _⟩
    case round =>
      obtain ⟨k, hk, rfl, heq, hbel⟩ := hrel
      by_cases hlt : k < l.length
      · have HNo := HN.out
        obtain ⟨g, rfl, hg, hcells⟩ := hR.out (by omega)
        obtain ⟨g', rfl, hg', hcells'⟩ := hR'.out (by omega)
        obtain ⟨⟨o, ⟨rk, key, tb, val⟩⟩, hs⟩ : ∃ s, l[k]? = some s := ⟨l[k], List.getElem?_eq_getElem hlt⟩
        obtain ⟨⟨o', ⟨rk', key', tb', val'⟩⟩, ht⟩ : ∃ t, l'[k]? = some t := ⟨l'[k], List.getElem?_eq_getElem (by omega)⟩
        obtain ⟨c0, c1, c2, c3, c4⟩ := hcells k _ hs
        obtain ⟨b0, b1, b2, b3, b4⟩ := hcells' k _ ht
        have d0 := (hbel.cell (p := ⟨g, k * 5, none⟩) (by show g < _; omega)).trans c0
        have d1 := (hbel.cell (p := ⟨g, k * 5 + 1, none⟩) (by show g < _; omega)).trans c1
        have d2 := (hbel.cell (p := ⟨g, k * 5 + 2, none⟩) (by show g < _; omega)).trans c2
        have d3 := (hbel.cell (p := ⟨g, k * 5 + 3, none⟩) (by show g < _; omega)).trans c3
        have d4 := (hbel.cell (p := ⟨g, k * 5 + 4, none⟩) (by show g < _; omega)).trans c4
        have e0 := (hbel.cell (p := ⟨g', k * 5, none⟩) (by show g' < _; omega)).trans b0
        have e1 := (hbel.cell (p := ⟨g', k * 5 + 1, none⟩) (by show g' < _; omega)).trans b1
        have e2 := (hbel.cell (p := ⟨g', k * 5 + 2, none⟩) (by show g' < _; omega)).trans b2
        have e3 := (hbel.cell (p := ⟨g', k * 5 + 3, none⟩) (by show g' < _; omega)).trans b3
        have e4 := (hbel.cell (p := ⟨g', k * 5 + 4, none⟩) (by show g' < _; omega)).trans b4
        have k0 : (0 : Int) ≤ (k : Int) := by omega
        have k1 : (k : Int) < (l.length : Int) := by omega
        have HS := Lib.hid hs
        have HT := Lib.hid ht
        clear c0 c1 c2 c3 c4 b0 b1 b2 b3 b4 hcells hcells' hs ht HNo
        dsimp only at d0 d1 d2 d3 d4 e0 e1 e2 e3 e4
        have hways := fd_ways o o' rk rk' tb tb' key key' val val'
        rcases hways with ⟨rfl, rfl, rfl, rfl, rfl⟩ | q | ⟨rfl, q⟩ | ⟨rfl, rfl, q⟩ | ⟨rfl, rfl, rfl, q⟩ | ⟨rfl, rfl, rfl, rfl, q⟩
        · have HNX : Hid (l.take (k + 1) = l'.take (k + 1)) := Lib.hid (by rw [List.take_add_one, List.take_add_one, HS.out, HT.out, heq.out])
          go_wp2_with fail
          go_quiet (fail)
          go_wp2_with fail
          go_roundw
          case rel => exact ⟨k + 1, by omega, by go_num, HNX, drewN_below hbel _⟩
          case measure => simp [intOf]; omega
        all_goals
          have HD : Hid (v = false) := Lib.hid (rec_off HV.out HS.out HT.out (by intro e; injection e with e1 e2; injection e2 with e3 e4 e5 e6; subst_vars; simp at q))
          go_wp2_with fail
          go_quiet (fail)
          go_wp2_with fail
          go_ret
          exact ⟨congrArg Ending.returned (congrArg Value.bool HD.out.symm), drewN_below hbel _⟩
      · obtain rfl : k = l.length := by omega
        have HD : Hid (v = true) := Lib.hid (by
          have := heq.out
          rw [List.take_length, List.take_of_length_le (by have := HN.out; omega)] at this
          exact HV.out.2 this)
        go_wp2_with fail
        go_ret
        exact ⟨congrArg Ending.returned (congrArg Value.bool HD.out.symm), hbel⟩
  · have h1 : ((l.length : Int) != (l'.length : Int)) = true := by simp; omega
    have HD : Hid (v = false) := Lib.hid (by
      cases v
      · rfl
      · exact absurd (congrArg List.length (HV.out.1 rfl)) hn)
    clear hn
    go_enter Tryz.func47, Tryz.ntmps47
    go_wp2_with fail
    go_ret
    exact ⟨congrArg Ending.returned (congrArg Value.bool HD.out.symm), Below.refl _ _⟩

end Go.Proofs.YtijofikpdhapoaaGreat.L4
