/-
  Contracts: the document's segment: bytes, index, whether numbers are the same.
-/
import Derived.Test.YtlemcijgjebekaaSegRkeep
namespace Go.Proofs.Ytlemcijgjebekaa.L5
open Go.RowKit
open L3 L4

theorem ReadsI.own {w : World} {base : Nat} {T : TypeId} {A : Option Addr} {cap : Nat} {l : List Int} (h : w.ownsRow base T 1 (.slice A l.length cap) l.length (rowI l)) : ReadsI w w.heap.size A l := fun h0 => by
  rcases h.2 with ⟨_, e⟩ | ⟨g, cap', cur, e, hb, hh, _⟩
  · omega
  · injection e with e1 e2 e3
    refine ⟨g, 0, e1, (Array.getElem?_eq_some_iff.1 hh).1, fun i x hx => ?_⟩
    have hc := h.cells (g := g) (by rw [e1]; rfl)
    have := hc i (.int .i64 x) (by simp [rowI, hx])
    rw [addr_add] at this
    simpa using this

set_option maxRecDepth 100000 in
set_option maxHeartbeats 2000000 in
/-- two lists of numbers: the same? -/
theorem nums_is (A A' : Option Addr) (l l' : List Int) (cap cap' B : Nat) (v : Bool) (w : World) (hR : Hid (ReadsI w B A l)) (hR' : Hid (ReadsI w B A' l')) (hB : B ≤ w.heap.size) (hl : l.length ≤ maxLen) (HV : Hid (v = true ↔ l = l')) :
    Calls Try.prog 56 #[.slice A l.length cap, .slice A' l'.length cap'] w fun e w' => e = .returned (.bool v) ∧ Below w.heap.size w w' := by
  unfold maxLen at hl
  by_cases hn : l.length = l'.length
  · go_enter Try.func56, Try.ntmps56
    rw [← hn]
    have HN := Lib.hid hn
    clear hn
    go_wp2_with fail
    go_loopw [5] (fun i wr => ∃ k : Nat, k ≤ l.length ∧ i = .int .i64 k ∧ Hid (l.take k = l'.take k) ∧ Below w.heap.size w wr) (fun i _ => l.length - (intOf i).toNat)
    case atStart => exact ⟨0, by omega, rfl, Lib.hid (by simp), Below.refl _ _⟩
    case round =>
      obtain ⟨k, hk, rfl, heq, hbel⟩ := hrel
      by_cases hlt : k < l.length
      · have HNo := HN.out
        obtain ⟨g, go, rfl, hg, hcells⟩ := hR.out (by omega)
        obtain ⟨g', go', rfl, hg', hcells'⟩ := hR'.out (by omega)
        obtain ⟨s, hs⟩ : ∃ s, l[k]? = some s := ⟨l[k], List.getElem?_eq_getElem hlt⟩
        obtain ⟨t, ht⟩ : ∃ t, l'[k]? = some t := ⟨l'[k], List.getElem?_eq_getElem (by omega)⟩
        have d0 := (hbel.cell (p := ⟨g, go + k, none⟩) (by show g < _; omega)).trans (hcells k s hs)
        have e0 := (hbel.cell (p := ⟨g', go' + k, none⟩) (by show g' < _; omega)).trans (hcells' k t ht)
        have k0 : (0 : Int) ≤ (k : Int) := by omega
        have k1 : (k : Int) < (l.length : Int) := by omega
        by_cases hst : s = t
        · subst hst
          have HNX : Hid (l.take (k + 1) = l'.take (k + 1)) := Lib.hid (by rw [List.take_add_one, List.take_add_one, hs, ht, heq.out])
          clear hcells hcells' hs ht HNo
          go_wp2_with fail
          go_quiet (fail)
          go_wp2_with fail
          go_roundw
          case rel => exact ⟨k + 1, by omega, by go_num, HNX, drewN_below hbel _⟩
          case measure => simp [intOf]; omega
        · have hne : (s != t) = true := by simpa using hst
          have HD : Hid (v = false) := Lib.hid (by
            cases v
            · rfl
            · have e := HV.out.1 rfl
              subst e
              rw [hs] at ht
              exact absurd (Option.some.inj ht) hst)
          clear hcells hcells' hs ht HNo hst
          go_wp2_with fail
          go_quiet (fail)
          go_wp2_with fail
          go_ret
          exact ⟨congrArg Ending.returned (congrArg Value.bool HD.out.symm), drewN_below hbel _⟩
      · obtain rfl : k = l.length := by omega
        have HD : Hid (v = true) := Lib.hid (by
          have := heq.out
          rw [List.take_length, List.take_of_length_le (by have := HN.out; omega)] at this
          exact HV.out.2 this)
        go_wp2_with fail
        go_ret
        exact ⟨congrArg Ending.returned (congrArg Value.bool HD.out.symm), hbel⟩
  · have h1 : ((l.length : Int) != (l'.length : Int)) = true := by simp; omega
    have HD : Hid (v = false) := Lib.hid (by
      cases v
      · rfl
      · exact absurd (congrArg List.length (HV.out.1 rfl)) hn)
    clear hn
    go_enter Try.func56, Try.ntmps56
    go_wp2_with fail
    go_ret
    exact ⟨congrArg Ending.returned (congrArg Value.bool HD.out.symm), Below.refl _ _⟩
end Go.Proofs.Ytlemcijgjebekaa.L5
