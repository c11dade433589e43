/-
  Contracts over the document's own functions: may, place, N, Has, Same.
-/
import Derived.Test.YthongbobopampaaTpHas
import Derived.Test.YthongbobopampaaReqAlike
namespace Go.Proofs.Ythongbobopampaa.L9
open Go.RowKit
open Go.Maps
open L3 L4

set_option maxRecDepth 100000 in
set_option maxHeartbeats 1000000 in
theorem rmay_is (s : ByteArray) (n : Int) (v : Bool) (w : World) (hs : s.size ≤ maxLen) (HV : Hid (mayB s n = v)) :
    Calls Try.prog 32 #[.string s, .int .i64 n] w fun e w' => e = .returned (.bool v) ∧ w' = w := by
  have hv := HV.out
  rcases may_ways s n with ⟨hp, hm⟩ | ⟨hp, h1, hm⟩ | ⟨hp, h1, h2, hm⟩ | ⟨hp, h1, h2, hm⟩
  all_goals
    rw [hm] at hv
    subst hv
    try have d1 : decide (1 ≤ n) = false := decide_eq_false (by omega)
    try have d1 : decide (1 ≤ n) = true := decide_eq_true (by omega)
    try have d2 : decide (n ≤ 8) = false := decide_eq_false (by omega)
    try have d2 : decide (n ≤ 8) = true := decide_eq_true (by omega)
    have HP := Lib.hid hp
    clear hm hp HV
    go_enter Try.func32, Try.ntmps32
    go_wp2_with (go_at_call 37; refine (rname_any s _ hs).mono ?_; rw [HP.out]; rintro e w1 ⟨rfl, rfl⟩)
    go_ret
    exact ⟨rfl, rfl⟩

/-- where a topic stands; -1: there is none -/
def plP (Q : List Pt) (s : ByteArray) (x : Int) : Prop := (x = -1 ∧ hasB Q s = false) ∨ (∃ (i : Nat) (y : Pt), x = (i : Int) ∧ Q[i]? = some y ∧ y.t = s)
theorem plP_at {Q : List Pt} {s : ByteArray} {x : Int} (h : plP Q s x) (hR : Rise Q) {i : Nat} {y : Pt} (hy : Q[i]? = some y) (e : y.t = s) : x = (i : Int) := by
  rcases h with ⟨_, h⟩ | ⟨j, z, rfl, hz, e'⟩
  · exact absurd e (has_not.1 h y (List.mem_of_getElem? hy))
  · obtain ⟨a, ha⟩ := List.getElem?_eq_some_iff.1 hy
    obtain ⟨b, hb⟩ := List.getElem?_eq_some_iff.1 hz
    rcases Nat.lt_trichotomy i j with q | q | q
    · have := List.pairwise_iff_getElem.1 hR.ne i j a b q
      rw [ha, hb, e, e'] at this; exact absurd rfl this
    · rw [q]
    · have := List.pairwise_iff_getElem.1 hR.ne j i b a q
      rw [ha, hb, e, e'] at this; exact absurd rfl this
theorem plP_none {Q : List Pt} {s : ByteArray} {x : Int} (h : plP Q s x) (hn : ∀ i < Q.length, ∀ y, Q[i]? = some y → y.t ≠ s) : x = -1 := by
  rcases h with ⟨h, _⟩ | ⟨j, z, rfl, hz, e'⟩
  · exact h
  · exact absurd e' (hn j (List.getElem?_eq_some_iff.1 hz).1 z hz)
theorem plP_some {Q : List Pt} {s : ByteArray} (h : hasB Q s = true) : ∃ (i : Nat) (y : Pt), Q[i]? = some y ∧ y.t = s := by
  obtain ⟨y, hy, e⟩ := has_mem.1 h
  obtain ⟨i, hi, hq⟩ := List.getElem_of_mem hy
  exact ⟨i, y, by rw [List.getElem?_eq_getElem hi, hq], e⟩

end Go.Proofs.Ythongbobopampaa.L9
