/-
  Contracts: a batch cut short.
-/
import Derived.Test.YthongbobopampaaMRecAll
import Derived.OwnWalk
import Derived.Deep.RegionHeld3
import Derived.Deep.AppendLies
import Derived.Deep.RegionLaw
namespace Go.Proofs.Ythongbobopampaa.L3
open Go.RowKit

theorem own_form {w : World} {base k : Nat} {T : TypeId} {m : Nat} {V : Value} {xs : List Value} (h : w.ownsRow base T m V k xs) : ∃ A cap, V = .slice A k cap := by
  rcases h.2 with ⟨rfl, rfl⟩ | ⟨g, cap, cur, rfl, _⟩
  · exact ⟨none, 0, rfl⟩
  · exact ⟨_, _, rfl⟩
theorem take_len {l : List R} {f : R → R} {k : Nat} (hk : k ≤ l.length) (hk20 : k ≤ 20) (h : ¬ (k < l.length ∧ k < 20)) : (l.take k).map f = (l.take 20).map f ∧ ((l.take 20).map f).length = k := by
  have e : l.take k = l.take 20 := by
    rcases Nat.lt_or_ge k l.length with h1 | h1
    · have : k = 20 := by omega
      rw [this]
    · rw [List.take_of_length_le h1, List.take_of_length_le (by omega)]
  refine ⟨by rw [e], ?_⟩
  rw [← e, List.length_map, List.length_take]
  omega
theorem own_low {w : World} {base base' k : Nat} {T : TypeId} {m : Nat} {V : Value} {xs : List Value} (h : w.ownsRow base T m V k xs) (hb : base' ≤ base) : w.ownsRow base' T m V k xs := by
  refine ⟨h.1, ?_⟩
  rcases h.2 with e | ⟨g, cap, cur, e, h1, h2⟩
  · exact .inl e
  · exact .inr ⟨g, cap, cur, e, by omega, h2⟩
end Go.Proofs.Ythongbobopampaa.L3
