/-
  Contracts: which text stands ahead, whether topics may be, whether two lists of texts are the same: the document's.
-/
import Derived.Test.YtijofikpdhapoaaGreatMRecAll
import Derived.Deep.RegionHeld3
namespace Go.Proofs.YtijofikpdhapoaaGreat.L4
open Go.RowKit
open L3

/-! ### Which text stands ahead -/
def lessL : List Nat → List Nat → Bool
  | [], [] => false
  | [], _ :: _ => true
  | _ :: _, [] => false
  | a :: s, b :: t => if a = b then lessL s t else decide (a < b)
def lessB (a b : ByteArray) : Bool := lessL (V.nats a) (V.nats b)
theorem drop_cons {l : List Nat} {k c : Nat} (h : l[k]? = some c) : l.drop k = c :: l.drop (k + 1) := by
  have e := List.drop_eq_getElem_cons (List.getElem?_eq_some_iff.1 h).1
  rw [e, (List.getElem?_eq_some_iff.1 h).2]
theorem less_next {l m : List Nat} {k c : Nat} (h1 : l[k]? = some c) (h2 : m[k]? = some c) : lessL (l.drop k) (m.drop k) = lessL (l.drop (k + 1)) (m.drop (k + 1)) := by
  rw [drop_cons h1, drop_cons h2]; simp [lessL]
theorem less_part {l m : List Nat} {k c d : Nat} (h1 : l[k]? = some c) (h2 : m[k]? = some d) (h : c ≠ d) : lessL (l.drop k) (m.drop k) = decide (c < d) := by
  rw [drop_cons h1, drop_cons h2]; simp [lessL, h]
theorem less_end {l m : List Nat} {k : Nat} (hl : k ≤ l.length) (hm : k ≤ m.length) (h : k = l.length ∨ k = m.length) : lessL (l.drop k) (m.drop k) = decide (l.length < m.length) := by
  rcases h with h | h
  · rw [List.drop_of_length_le (by omega : l.length ≤ k)]
    by_cases hk : k < m.length
    · rw [List.drop_eq_getElem_cons hk]
      simp [lessL]; omega
    · rw [List.drop_of_length_le (by omega : m.length ≤ k)]
      simp [lessL]; omega
  · rw [List.drop_of_length_le (by omega : m.length ≤ k)]
    by_cases hk : k < l.length
    · rw [List.drop_eq_getElem_cons hk]
      simp [lessL]; omega
    · rw [List.drop_of_length_le (by omega : l.length ≤ k)]
      simp [lessL]; omega

set_option maxRecDepth 100000 in
set_option maxHeartbeats 2000000 in
theorem rless_is (a b : ByteArray) (v : Bool) (w : World) (ha : a.size ≤ maxLen) (hb : b.size ≤ maxLen) (HV : Hid (lessB a b = v)) :
    Calls Tryz.prog 73 #[.string a, .string b] w fun e w' => e = .returned (.bool v) ∧ Below w.heap.size w w' := by
  unfold maxLen at ha hb
  go_enter Tryz.func73, Tryz.ntmps73
  go_wp2_with fail
  go_loopw [5] (fun i wr => ∃ k : Nat, k ≤ a.size ∧ k ≤ b.size ∧ i = .int .i64 k ∧ Hid (lessL ((V.nats a).drop k) ((V.nats b).drop k) = v) ∧ Below w.heap.size w wr) (fun i _ => a.size - (intOf i).toNat)
  case atStart => exact ⟨0, by omega, by omega, rfl, Lib.hid HV.out, Below.refl _ _⟩
  case round =>
    obtain ⟨k, hk, hk2, rfl, hv, hbel⟩ := hrel
    by_cases hlt : k < a.size ∧ k < b.size
    · obtain ⟨l1, l2⟩ := hlt
      have hx := nats_at l1
      have hy := nats_at l2
      obtain ⟨x, ex⟩ : ∃ x, a[k].toNat = x := ⟨_, rfl⟩
      obtain ⟨y, ey⟩ : ∃ y, b[k].toNat = y := ⟨_, rfl⟩
      rw [ex] at hx
      rw [ey] at hy
      have ex2 : (a[k].toNat : Int) = (x : Int) := by rw [ex]
      have ey2 : (b[k].toNat : Int) = (y : Int) := by rw [ey]
      have k0 : (0 : Int) ≤ (k : Int) := by omega
      have k1 : (k : Int) < (a.size : Int) := by omega
      have k2 : (k : Int) < (b.size : Int) := by omega
      by_cases hxy : x = y
      · subst hxy
        have HNX := Lib.hid ((less_next hx hy).symm.trans hv.out)
        clear hx hy ex ey
        go_wp2_with fail
        go_quiet (fail)
        go_wp2_with fail
        go_roundw
        case rel => exact ⟨k + 1, by omega, by omega, by go_num, HNX, drewN_below hbel _⟩
        case measure => simp [intOf]; omega
      · have hne : ((x : Int) != (y : Int)) = true := by simpa using (by omega : (x : Int) ≠ y)
        have HD : Hid (v = decide (x < y)) := Lib.hid (by rw [← hv.out, less_part hx hy hxy])
        clear hx hy ex ey hxy
        go_wp2_with fail
        go_quiet (fail)
        go_wp2_with fail
        go_quiet (fail)
        go_wp2_with fail
        go_ret
        exact ⟨congrArg Ending.returned (congrArg Value.bool HD.out.symm), drewN_below (drewN_below hbel _) _⟩
    · have HE : Hid (v = decide (a.size < b.size)) := Lib.hid (by
        rw [← hv.out, less_end (by rw [V.nats_len]; omega) (by rw [V.nats_len]; omega) (by rw [V.nats_len, V.nats_len]; omega), V.nats_len, V.nats_len])
      by_cases h1 : k < a.size
      · have h1' : (k : Int) < (a.size : Int) := by omega
        have h2' : ¬ (k : Int) < (b.size : Int) := by omega
        clear hlt
        go_wp2_with fail
        go_ret
        exact ⟨congrArg Ending.returned (congrArg Value.bool HE.out.symm), hbel⟩
      · have h1' : ¬ (k : Int) < (a.size : Int) := by omega
        clear hlt
        go_wp2_with fail
        go_ret
        exact ⟨congrArg Ending.returned (congrArg Value.bool HE.out.symm), hbel⟩

/-! ### Lists of texts -/
/-- a slice that reads as texts -/
def ReadsT (w : World) (B : Nat) (A : Option Addr) (l : List ByteArray) : Prop :=
  0 < l.length → ∃ g, A = some ⟨g, 0, none⟩ ∧ g < B ∧ ∀ i s, l[i]? = some s → w.cell? ⟨g, i, none⟩ = some (.string s)
theorem ReadsT.below {w w' : World} {B : Nat} {A : Option Addr} {l : List ByteArray} (h : ReadsT w B A l) (hb : Below B w w') : ReadsT w' B A l := fun h0 => by
  obtain ⟨g, e, hg, hc⟩ := h h0
  exact ⟨g, e, hg, fun i s hs => (hb.cell (p := ⟨g, i, none⟩) hg).trans (hc i s hs)⟩
theorem ReadsT.mono {w : World} {B B' : Nat} {A : Option Addr} {l : List ByteArray} (h : ReadsT w B A l) (hB : B ≤ B') : ReadsT w B' A l := fun h0 => by
  obtain ⟨g, e, hg, hc⟩ := h h0
  exact ⟨g, e, Nat.lt_of_lt_of_le hg hB, hc⟩

set_option maxRecDepth 100000 in
set_option maxHeartbeats 2000000 in
/-- two lists of texts: the same? -/
theorem rtexts_is (A A' : Option Addr) (l l' : List ByteArray) (cap cap' B : Nat) (v : Bool) (w : World) (hR : Hid (ReadsT w B A l)) (hR' : Hid (ReadsT w B A' l')) (hB : B ≤ w.heap.size) (hl : l.length ≤ maxLen) (HV : Hid (v = true ↔ l = l')) :
    Calls Tryz.prog 17 #[.slice A l.length cap, .slice A' l'.length cap'] w fun e w' => e = .returned (.bool v) ∧ Below w.heap.size w w' := by
  unfold maxLen at hl
  by_cases hn : l.length = l'.length
  · go_enter Tryz.func17, Tryz.ntmps17
    rw [← hn]
    have HN := Lib.hid hn
    clear hn
    go_wp2_with fail
    go_loopw [5] (fun i wr => ∃ k : Nat, k ≤ l.length ∧ i = .int .i64 k ∧ Hid (l.take k = l'.take k) ∧ Below w.heap.size w wr) (fun i _ => l.length - (intOf i).toNat)
    case atStart => exact ⟨0, by omega, rfl, Lib.hid (by simp), Below.refl _ _⟩
    case round =>
      obtain ⟨k, hk, rfl, heq, hbel⟩ := hrel
      by_cases hlt : k < l.length
      · have HNo := HN.out
        obtain ⟨g, rfl, hg, hcells⟩ := hR.out (by omega)
        obtain ⟨g', rfl, hg', hcells'⟩ := hR'.out (by omega)
        obtain ⟨s, hs⟩ : ∃ s, l[k]? = some s := ⟨l[k], List.getElem?_eq_getElem hlt⟩
        obtain ⟨t, ht⟩ : ∃ t, l'[k]? = some t := ⟨l'[k], List.getElem?_eq_getElem (by omega)⟩
        have d0 := (hbel.cell (p := ⟨g, k, none⟩) (by show g < _; omega)).trans (hcells k s hs)
        have e0 := (hbel.cell (p := ⟨g', k, none⟩) (by show g' < _; omega)).trans (hcells' k t ht)
        have k0 : (0 : Int) ≤ (k : Int) := by omega
        have k1 : (k : Int) < (l.length : Int) := by omega
        by_cases hst : s = t
        · subst hst
          have HNX : Hid (l.take (k + 1) = l'.take (k + 1)) := Lib.hid (by rw [List.take_add_one, List.take_add_one, hs, ht, heq.out])
          clear hcells hcells' hs ht HNo
          go_wp2_with fail
          go_quiet (fail)
          go_wp2_with fail
          go_roundw
          case rel => exact ⟨k + 1, by omega, by go_num, HNX, drewN_below hbel _⟩
          case measure => simp [intOf]; omega
        · have hne : (s.toList == t.toList) = false := by
            rw [beq_eq_false_iff_ne]
            intro e
            apply hst
            rw [ByteArray.toList_eq, ByteArray.toList_eq] at e
            cases s; cases t
            simpa using e
          have hne2 : (!(s.toList == t.toList)) = true := by rw [hne]; rfl
          have HD : Hid (v = false) := Lib.hid (by
            cases v
            · rfl
            · have e := HV.out.1 rfl
              subst e
              rw [hs] at ht
              exact absurd (Option.some.inj ht) hst)
          clear hcells hcells' hs ht HNo hst
          go_wp2_with fail
          go_quiet (fail)
          go_wp2_with fail
          go_ret
          exact ⟨congrArg Ending.returned (congrArg Value.bool HD.out.symm), drewN_below hbel _⟩
      · obtain rfl : k = l.length := by omega
        have HD : Hid (v = true) := Lib.hid (by
          have := heq.out
          rw [List.take_length, List.take_of_length_le (by have := HN.out; omega)] at this
          exact HV.out.2 this)
        go_wp2_with fail
        go_ret
        exact ⟨congrArg Ending.returned (congrArg Value.bool HD.out.symm), hbel⟩
  · have h1 : ((l.length : Int) != (l'.length : Int)) = true := by simp; omega
    have HD : Hid (v = false) := Lib.hid (by
      cases v
      · rfl
      · exact absurd (congrArg List.length (HV.out.1 rfl)) hn)
    clear hn
    go_enter Tryz.func17, Tryz.ntmps17
    go_wp2_with fail
    go_ret
    exact ⟨congrArg Ending.returned (congrArg Value.bool HD.out.symm), Below.refl _ _⟩

end Go.Proofs.YtijofikpdhapoaaGreat.L4
/-
  Contracts: whether two lists, two batches, two commands, two replies are the same: the document's.
-/
namespace Go.Proofs.YtijofikpdhapoaaGreat.L4
open Go.RowKit
open L3

theorem bytes_off {s t : ByteArray} (h : s ≠ t) : (s.toList == t.toList) = false := by
  rw [beq_eq_false_iff_ne]
  intro e
  apply h
  rw [ByteArray.toList_eq, ByteArray.toList_eq] at e
  cases s; cases t
  simpa using e
theorem bool_off {a b : Bool} (h : a ≠ b) : (a == b) = false := by simpa using h
theorem rec_ways (a a' c c' : Bool) (b b' d d' : ByteArray) : (a = a' ∧ b = b' ∧ c = c' ∧ d = d') ∨ (a == a') = false ∨ (a = a' ∧ (b.toList == b'.toList) = false) ∨ (a = a' ∧ b = b' ∧ (c == c') = false) ∨ (a = a' ∧ b = b' ∧ c = c' ∧ (d.toList == d'.toList) = false) := by
  by_cases h1 : a = a'
  · by_cases h2 : b = b'
    · by_cases h3 : c = c'
      · by_cases h4 : d = d'
        · exact .inl ⟨h1, h2, h3, h4⟩
        · exact .inr (.inr (.inr (.inr ⟨h1, h2, h3, bytes_off h4⟩)))
      · exact .inr (.inr (.inr (.inl ⟨h1, h2, bool_off h3⟩)))
    · exact .inr (.inr (.inl ⟨h1, bytes_off h2⟩))
  · exact .inr (.inl (bool_off h1))
theorem rec_off {α : Type} {v : Bool} {l l' : List α} {k : Nat} {x y : α} (h : v = true ↔ l = l') (h1 : l[k]? = some x) (h2 : l'[k]? = some y) (hne : x ≠ y) : v = false := by
  cases v
  · rfl
  · have e := h.1 rfl
    subst e
    rw [h1] at h2
    exact absurd (Option.some.inj h2) hne

set_option maxRecDepth 100000 in
set_option maxHeartbeats 2000000 in
/-- two lists of records: the same? -/
theorem rrecords_is (A A' : Option Addr) (l l' : List R) (cap cap' B : Nat) (v : Bool) (w : World) (hR : Hid (Reads w B A l)) (hR' : Hid (Reads w B A' l')) (hB : B ≤ w.heap.size) (hl : l.length ≤ maxLen) (HV : Hid (v = true ↔ l = l')) :
    Calls Tryz.prog 35 #[.slice A l.length cap, .slice A' l'.length cap'] w fun e w' => e = .returned (.bool v) ∧ Below w.heap.size w w' := by
  unfold maxLen at hl
  by_cases hn : l.length = l'.length
  · go_enter Tryz.func35, Tryz.ntmps35
    rw [← hn]
    have HN := Lib.hid hn
    clear hn
    go_wp2_with fail
    go_loopw [5] (fun i wr => ∃ k : Nat, k ≤ l.length ∧ i = .int .i64 k ∧ Hid (l.take k = l'.take k) ∧ Below w.heap.size w wr) (fun i _ => l.length - (intOf i).toNat)
    case atStart => exact ⟨0, by omega, rfl, Lib.hid (by simp), Below.refl _ _⟩
    case round =>
      obtain ⟨k, hk, rfl, heq, hbel⟩ := hrel
      by_cases hlt : k < l.length
      · have HNo := HN.out
        obtain ⟨g, rfl, hg, hcells⟩ := hR.out (by omega)
        obtain ⟨g', rfl, hg', hcells'⟩ := hR'.out (by omega)
        obtain ⟨⟨rk, key, tb, val⟩, hs⟩ : ∃ s, l[k]? = some s := ⟨l[k], List.getElem?_eq_getElem hlt⟩
        obtain ⟨⟨rk', key', tb', val'⟩, ht⟩ : ∃ t, l'[k]? = some t := ⟨l'[k], List.getElem?_eq_getElem (by omega)⟩
        obtain ⟨c0, c1, c2, c3⟩ := hcells k _ hs
        obtain ⟨b0, b1, b2, b3⟩ := hcells' k _ ht
        have d0 := (hbel.cell (p := ⟨g, k * 4, none⟩) (by show g < _; omega)).trans c0
        have d1 := (hbel.cell (p := ⟨g, k * 4 + 1, none⟩) (by show g < _; omega)).trans c1
        have d2 := (hbel.cell (p := ⟨g, k * 4 + 2, none⟩) (by show g < _; omega)).trans c2
        have d3 := (hbel.cell (p := ⟨g, k * 4 + 3, none⟩) (by show g < _; omega)).trans c3
        have e0 := (hbel.cell (p := ⟨g', k * 4, none⟩) (by show g' < _; omega)).trans b0
        have e1 := (hbel.cell (p := ⟨g', k * 4 + 1, none⟩) (by show g' < _; omega)).trans b1
        have e2 := (hbel.cell (p := ⟨g', k * 4 + 2, none⟩) (by show g' < _; omega)).trans b2
        have e3 := (hbel.cell (p := ⟨g', k * 4 + 3, none⟩) (by show g' < _; omega)).trans b3
        have k0 : (0 : Int) ≤ (k : Int) := by omega
        have k1 : (k : Int) < (l.length : Int) := by omega
        have HS := Lib.hid hs
        have HT := Lib.hid ht
        clear c0 c1 c2 c3 b0 b1 b2 b3 hcells hcells' hs ht HNo
        dsimp only at d0 d1 d2 d3 e0 e1 e2 e3
        have hways := rec_ways rk rk' tb tb' key key' val val'
        rcases hways with ⟨rfl, rfl, rfl, rfl⟩ | q | ⟨rfl, q⟩ | ⟨rfl, rfl, q⟩ | ⟨rfl, rfl, rfl, q⟩
        · have HNX : Hid (l.take (k + 1) = l'.take (k + 1)) := Lib.hid (by rw [List.take_add_one, List.take_add_one, HS.out, HT.out, heq.out])
          go_wp2_with fail
          go_quiet (fail)
          go_wp2_with fail
          go_roundw
          case rel => exact ⟨k + 1, by omega, by go_num, HNX, drewN_below hbel _⟩
          case measure => simp [intOf]; omega
        all_goals
          have HD : Hid (v = false) := Lib.hid (rec_off HV.out HS.out HT.out (by intro e; injection e with e1 e2 e3 e4; subst_vars; simp at q))
          go_wp2_with fail
          go_quiet (fail)
          go_wp2_with fail
          go_ret
          exact ⟨congrArg Ending.returned (congrArg Value.bool HD.out.symm), drewN_below hbel _⟩
      · obtain rfl : k = l.length := by omega
        have HD : Hid (v = true) := Lib.hid (by
          have := heq.out
          rw [List.take_length, List.take_of_length_le (by have := HN.out; omega)] at this
          exact HV.out.2 this)
        go_wp2_with fail
        go_ret
        exact ⟨congrArg Ending.returned (congrArg Value.bool HD.out.symm), hbel⟩
  · have h1 : ((l.length : Int) != (l'.length : Int)) = true := by simp; omega
    have HD : Hid (v = false) := Lib.hid (by
      cases v
      · rfl
      · exact absurd (congrArg List.length (HV.out.1 rfl)) hn)
    clear hn
    go_enter Tryz.func35, Tryz.ntmps35
    go_wp2_with fail
    go_ret
    exact ⟨congrArg Ending.returned (congrArg Value.bool HD.out.symm), Below.refl _ _⟩

end Go.Proofs.YtijofikpdhapoaaGreat.L4
