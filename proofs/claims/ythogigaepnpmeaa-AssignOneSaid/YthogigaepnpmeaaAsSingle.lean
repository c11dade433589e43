/-
  Plain: a single member has all that it wants.
-/
import Derived.Test.YthogigaepnpmeaaAsFacts
import Derived.Test.YthogigaepnpmeaaAsProg
namespace Go.Proofs.Ythogigaepnpmeaa.L10
open L3 L4 L9

theorem chk_first {L : List Pt} {M : List Mb} (h : chkE L M 0) (mb : Mb) : chkE L [mb] 0 := by
  obtain ⟨y, hy, h⟩ := h
  rcases h with ⟨h1, h2⟩ | ⟨h1, _⟩
  · exact absurd h2.symm h1
  · exact ⟨y, hy, .inr ⟨h1, .inr (.inl ⟨by simp, fun i h0 hi => by have h2 : i < 1 := hi; omega, rfl⟩)⟩⟩
theorem able_single (mb : Mb) (t : ByteArray) : able [mb] t = if wantB mb t = true then [0] else [] := by
  have : able [mb] t = ableTo [mb] t (0 + 1) := rfl
  rw [this, ableTo_next, wantAt_at (m := mb) rfl]
  rfl
theorem own_all {s : List (Nat × Pt)} (h : ∀ y ∈ s, y.1 = 0) : ownL s 0 = s.map (·.2) := by
  unfold ownL
  rw [List.filter_eq_self.2 (fun y hy => by simpa using h y hy)]
theorem single_lists {L : List Pt} {mb : Mb} {s : List (Nat × Pt)} (h1 : s.map (·.2) = someL L [mb]) (h2 : ∀ y ∈ s, y.1 ∈ able [mb] y.2.t) : listsL 1 s = [someL L [mb]] := by
  have : listsL 1 s = [ownL s 0] := rfl
  rw [this, own_all (fun y hy => by have := able_lt (h2 y hy); simpa using this), h1]
theorem range_single (L : List Pt) (mb : Mb) : rangeL L [mb] = [someL L [mb]] := single_lists (seq_snd chR [mb] L 0) (seq_able chR_ok [mb] L 0)
theorem robin_single (L : List Pt) (mb : Mb) : robinL L [mb] = [someL L [mb]] := single_lists (seq_snd chB [mb] L 0) (seq_able chB_ok [mb] L 0)
/-- what it has of a topic, up to a partition -/
def upTo (x : Pt) (i : Nat) : List Pt := (List.range i).map (fun i : Nat => (⟨x.t, (i : Int)⟩ : Pt))
theorem upTo_next (x : Pt) (i : Nat) : upTo x (i + 1) = upTo x i ++ [⟨x.t, (i : Int)⟩] := by unfold upTo; rw [List.range_succ, List.map_append]; rfl
theorem upTo_all (x : Pt) {N : Nat} (h : x.n = (N : Int)) : upTo x N = partsT x := by unfold upTo partsT; rw [h]; rfl
end Go.Proofs.Ythogigaepnpmeaa.L10
