/-
  Contracts: whether two replies are the same: the document's.
-/
import Derived.Test.YtflcggpeflagiaaReqSame2
namespace Go.Proofs.Ytflcggpeflagiaa.L4
open Go.RowKit
open L3

/-- a partition -/
structure Pt where
  t : ByteArray
  n : Int
/-- a record that was found, and where -/
structure Fd where
  o : Int
  r : R
/-- a slice that reads as partitions -/
def ReadsP (w : World) (B : Nat) (A : Option Addr) (l : List Pt) : Prop :=
  0 < l.length → ∃ g, A = some ⟨g, 0, none⟩ ∧ g < B ∧ ∀ i s, l[i]? = some s → w.cell? ⟨g, i * 2, none⟩ = some (.string s.t) ∧ w.cell? ⟨g, i * 2 + 1, none⟩ = some (.int .i64 s.n)
theorem ReadsP.below {w w' : World} {B : Nat} {A : Option Addr} {l : List Pt} (h : ReadsP w B A l) (hb : Below B w w') : ReadsP w' B A l := fun h0 => by
  obtain ⟨g, e, hg, hc⟩ := h h0
  exact ⟨g, e, hg, fun i s hs => ⟨(hb.cell (p := ⟨g, i * 2, none⟩) hg).trans (hc i s hs).1, (hb.cell (p := ⟨g, i * 2 + 1, none⟩) hg).trans (hc i s hs).2⟩⟩
theorem ReadsP.mono {w : World} {B B' : Nat} {A : Option Addr} {l : List Pt} (h : ReadsP w B A l) (hB : B ≤ B') : ReadsP w B' A l := fun h0 => by
  obtain ⟨g, e, hg, hc⟩ := h h0
  exact ⟨g, e, Nat.lt_of_lt_of_le hg hB, hc⟩
/-- a slice that reads as records with their offsets -/
def ReadsF (w : World) (B : Nat) (A : Option Addr) (l : List Fd) : Prop :=
  0 < l.length → ∃ g, A = some ⟨g, 0, none⟩ ∧ g < B ∧ ∀ i s, l[i]? = some s → w.cell? ⟨g, i * 5, none⟩ = some (.int .i64 s.o) ∧ w.cell? ⟨g, i * 5 + 1, none⟩ = some (.bool s.r.hk) ∧ w.cell? ⟨g, i * 5 + 2, none⟩ = some (.string s.r.key) ∧ w.cell? ⟨g, i * 5 + 3, none⟩ = some (.bool s.r.tb) ∧ w.cell? ⟨g, i * 5 + 4, none⟩ = some (.string s.r.val)
theorem ReadsF.below {w w' : World} {B : Nat} {A : Option Addr} {l : List Fd} (h : ReadsF w B A l) (hb : Below B w w') : ReadsF w' B A l := fun h0 => by
  obtain ⟨g, e, hg, hc⟩ := h h0
  exact ⟨g, e, hg, fun i s hs => ⟨(hb.cell (p := ⟨g, i * 5, none⟩) hg).trans (hc i s hs).1, (hb.cell (p := ⟨g, i * 5 + 1, none⟩) hg).trans (hc i s hs).2.1, (hb.cell (p := ⟨g, i * 5 + 2, none⟩) hg).trans (hc i s hs).2.2.1, (hb.cell (p := ⟨g, i * 5 + 3, none⟩) hg).trans (hc i s hs).2.2.2.1, (hb.cell (p := ⟨g, i * 5 + 4, none⟩) hg).trans (hc i s hs).2.2.2.2⟩⟩
theorem ReadsF.mono {w : World} {B B' : Nat} {A : Option Addr} {l : List Fd} (h : ReadsF w B A l) (hB : B ≤ B') : ReadsF w B' A l := fun h0 => by
  obtain ⟨g, e, hg, hc⟩ := h h0
  exact ⟨g, e, Nat.lt_of_lt_of_le hg hB, hc⟩
theorem pt_ways (a a' : Int) (b b' : ByteArray) : (b = b' ∧ a = a') ∨ (b.toList == b'.toList) = false ∨ (b = b' ∧ (a == a') = false) := by
  by_cases h2 : b = b'
  · by_cases h1 : a = a'
    · exact .inl ⟨h2, h1⟩
    · exact .inr (.inr ⟨h2, int_off h1⟩)
  · exact .inr (.inl (bytes_off h2))
theorem fd_ways (o o' : Int) (a a' c c' : Bool) (b b' d d' : ByteArray) : (o = o' ∧ a = a' ∧ b = b' ∧ c = c' ∧ d = d') ∨ (o == o') = false ∨ (o = o' ∧ (a == a') = false) ∨ (o = o' ∧ a = a' ∧ (b.toList == b'.toList) = false) ∨ (o = o' ∧ a = a' ∧ b = b' ∧ (c == c') = false) ∨ (o = o' ∧ a = a' ∧ b = b' ∧ c = c' ∧ (d.toList == d'.toList) = false) := by
  by_cases h0 : o = o'
  · rcases rec_ways a a' c c' b b' d d' with ⟨h1, h2, h3, h4⟩ | h1 | ⟨h1, h2⟩ | ⟨h1, h2, h3⟩ | ⟨h1, h2, h3, h4⟩
    · exact .inl ⟨h0, h1, h2, h3, h4⟩
    · exact .inr (.inr (.inl ⟨h0, h1⟩))
    · exact .inr (.inr (.inr (.inl ⟨h0, h1, h2⟩)))
    · exact .inr (.inr (.inr (.inr (.inl ⟨h0, h1, h2, h3⟩))))
    · exact .inr (.inr (.inr (.inr (.inr ⟨h0, h1, h2, h3, h4⟩))))
  · exact .inr (.inl (int_off h0))

set_option maxRecDepth 100000 in
set_option maxHeartbeats 4000000 in
theorem rfound_is (A A' : Option Addr) (l l' : List Fd) (cap cap' B : Nat) (v : Bool) (w : World) (hR : Hid (ReadsF w B A l)) (hR' : Hid (ReadsF w B A' l')) (hB : B ≤ w.heap.size) (hl : l.length ≤ maxLen) (HV : Hid (v = true ↔ l = l')) :
    Calls Try.prog 12 #[.slice A l.length cap, .slice A' l'.length cap'] w fun e w' => e = .returned (.bool v) ∧ Below w.heap.size w w' := by
  unfold maxLen at hl
  by_cases hn : l.length = l'.length
  · go_enter Try.func12, Try.ntmps12
    rw [← hn]
    have HN := Lib.hid hn
    clear hn
    go_wp2_with fail
    go_loopw [5] (fun i wr => ∃ k : Nat, k ≤ l.length ∧ i = .int .i64 k ∧ Hid (l.take k = l'.take k) ∧ Below w.heap.size w wr) (fun i _ => l.length - (intOf i).toNat)
    case atStart => exact ⟨0, by omega, rfl, Lib.hid (by simp), Below.refl _ _⟩
    case round =>
      obtain ⟨k, hk, rfl, heq, hbel⟩ := hrel
      by_cases hlt : k < l.length
      · have HNo := HN.out
        obtain ⟨g, rfl, hg, hcells⟩ := hR.out (by omega)
        obtain ⟨g', rfl, hg', hcells'⟩ := hR'.out (by omega)
        obtain ⟨⟨o, ⟨rk, key, tb, val⟩⟩, hs⟩ : ∃ s, l[k]? = some s := ⟨l[k], List.getElem?_eq_getElem hlt⟩
        obtain ⟨⟨o', ⟨rk', key', tb', val'⟩⟩, ht⟩ : ∃ t, l'[k]? = some t := ⟨l'[k], List.getElem?_eq_getElem (by omega)⟩
        obtain ⟨c0, c1, c2, c3, c4⟩ := hcells k _ hs
        obtain ⟨b0, b1, b2, b3, b4⟩ := hcells' k _ ht
        have d0 := (hbel.cell (p := ⟨g, k * 5, none⟩) (by show g < _; omega)).trans c0
        have d1 := (hbel.cell (p := ⟨g, k * 5 + 1, none⟩) (by show g < _; omega)).trans c1
        have d2 := (hbel.cell (p := ⟨g, k * 5 + 2, none⟩) (by show g < _; omega)).trans c2
        have d3 := (hbel.cell (p := ⟨g, k * 5 + 3, none⟩) (by show g < _; omega)).trans c3
        have d4 := (hbel.cell (p := ⟨g, k * 5 + 4, none⟩) (by show g < _; omega)).trans c4
        have e0 := (hbel.cell (p := ⟨g', k * 5, none⟩) (by show g' < _; omega)).trans b0
        have e1 := (hbel.cell (p := ⟨g', k * 5 + 1, none⟩) (by show g' < _; omega)).trans b1
        have e2 := (hbel.cell (p := ⟨g', k * 5 + 2, none⟩) (by show g' < _; omega)).trans b2
        have e3 := (hbel.cell (p := ⟨g', k * 5 + 3, none⟩) (by show g' < _; omega)).trans b3
        have e4 := (hbel.cell (p := ⟨g', k * 5 + 4, none⟩) (by show g' < _; omega)).trans b4
        have k0 : (0 : Int) ≤ (k : Int) := by omega
        have k1 : (k : Int) < (l.length : Int) := by omega
        have HS := Lib.hid hs
        have HT := Lib.hid ht
        clear c0 c1 c2 c3 c4 b0 b1 b2 b3 b4 hcells hcells' hs ht HNo
        dsimp only at d0 d1 d2 d3 d4 e0 e1 e2 e3 e4
        have hways := fd_ways o o' rk rk' tb tb' key key' val val'
        rcases hways with ⟨rfl, rfl, rfl, rfl, rfl⟩ | q | ⟨rfl, q⟩ | ⟨rfl, rfl, q⟩ | ⟨rfl, rfl, rfl, q⟩ | ⟨rfl, rfl, rfl, rfl, q⟩
        · have HNX : Hid (l.take (k + 1) = l'.take (k + 1)) := Lib.hid (by rw [List.take_add_one, List.take_add_one, HS.out, HT.out, heq.out])
          go_wp2_with fail
          go_quiet (fail)
          go_wp2_with fail
          go_roundw
          case rel => exact ⟨k + 1, by omega, by go_num, HNX, drewN_below hbel _⟩
          case measure => simp [intOf]; omega
        all_goals
          have HD : Hid (v = false) := Lib.hid (rec_off HV.out HS.out HT.out (by intro e; injection e with e1 e2; injection e2 with e3 e4 e5 e6; subst_vars; simp at q))
          go_wp2_with fail
          go_quiet (fail)
          go_wp2_with fail
          go_ret
          exact ⟨congrArg Ending.returned (congrArg Value.bool HD.out.symm), drewN_below hbel _⟩
      · obtain rfl : k = l.length := by omega
        have HD : Hid (v = true) := Lib.hid (by
          have := heq.out
          rw [List.take_length, List.take_of_length_le (by have := HN.out; omega)] at this
          exact HV.out.2 this)
        go_wp2_with fail
        go_ret
        exact ⟨congrArg Ending.returned (congrArg Value.bool HD.out.symm), hbel⟩
  · have h1 : ((l.length : Int) != (l'.length : Int)) = true := by simp; omega
    have HD : Hid (v = false) := Lib.hid (by
      cases v
      · rfl
      · exact absurd (congrArg List.length (HV.out.1 rfl)) hn)
    clear hn
    go_enter Try.func12, Try.ntmps12
    go_wp2_with fail
    go_ret
    exact ⟨congrArg Ending.returned (congrArg Value.bool HD.out.symm), Below.refl _ _⟩

end Go.Proofs.Ytflcggpeflagiaa.L4
