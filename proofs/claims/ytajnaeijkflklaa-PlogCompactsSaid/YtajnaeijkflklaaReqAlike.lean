/-
  Contracts: whether two replies are the same: the document's.
-/
import Derived.Test.YtajnaeijkflklaaReqSame2
namespace Go.Proofs.Ytajnaeijkflklaa.L4
open Go.RowKit
open L3

/-- a partition -/
structure Pt where
  t : ByteArray
  n : Int
/-- a record that was found, and where -/
structure Fd where
  o : Int
  r : R
/-- a slice that reads as partitions -/
def ReadsP (w : World) (B : Nat) (A : Option Addr) (l : List Pt) : Prop :=
  0 < l.length → ∃ g, A = some ⟨g, 0, none⟩ ∧ g < B ∧ ∀ i s, l[i]? = some s → w.cell? ⟨g, i * 2, none⟩ = some (.string s.t) ∧ w.cell? ⟨g, i * 2 + 1, none⟩ = some (.int .i64 s.n)
theorem ReadsP.below {w w' : World} {B : Nat} {A : Option Addr} {l : List Pt} (h : ReadsP w B A l) (hb : Below B w w') : ReadsP w' B A l := fun h0 => by
  obtain ⟨g, e, hg, hc⟩ := h h0
  exact ⟨g, e, hg, fun i s hs => ⟨(hb.cell (p := ⟨g, i * 2, none⟩) hg).trans (hc i s hs).1, (hb.cell (p := ⟨g, i * 2 + 1, none⟩) hg).trans (hc i s hs).2⟩⟩
theorem ReadsP.mono {w : World} {B B' : Nat} {A : Option Addr} {l : List Pt} (h : ReadsP w B A l) (hB : B ≤ B') : ReadsP w B' A l := fun h0 => by
  obtain ⟨g, e, hg, hc⟩ := h h0
  exact ⟨g, e, Nat.lt_of_lt_of_le hg hB, hc⟩
/-- a slice that reads as records with their offsets -/
def ReadsF (w : World) (B : Nat) (A : Option Addr) (l : List Fd) : Prop :=
  0 < l.length → ∃ g, A = some ⟨g, 0, none⟩ ∧ g < B ∧ ∀ i s, l[i]? = some s → w.cell? ⟨g, i * 5, none⟩ = some (.int .i64 s.o) ∧ w.cell? ⟨g, i * 5 + 1, none⟩ = some (.bool s.r.hk) ∧ w.cell? ⟨g, i * 5 + 2, none⟩ = some (.string s.r.key) ∧ w.cell? ⟨g, i * 5 + 3, none⟩ = some (.bool s.r.tb) ∧ w.cell? ⟨g, i * 5 + 4, none⟩ = some (.string s.r.val)
theorem ReadsF.below {w w' : World} {B : Nat} {A : Option Addr} {l : List Fd} (h : ReadsF w B A l) (hb : Below B w w') : ReadsF w' B A l := fun h0 => by
  obtain ⟨g, e, hg, hc⟩ := h h0
  exact ⟨g, e, hg, fun i s hs => ⟨(hb.cell (p := ⟨g, i * 5, none⟩) hg).trans (hc i s hs).1, (hb.cell (p := ⟨g, i * 5 + 1, none⟩) hg).trans (hc i s hs).2.1, (hb.cell (p := ⟨g, i * 5 + 2, none⟩) hg).trans (hc i s hs).2.2.1, (hb.cell (p := ⟨g, i * 5 + 3, none⟩) hg).trans (hc i s hs).2.2.2.1, (hb.cell (p := ⟨g, i * 5 + 4, none⟩) hg).trans (hc i s hs).2.2.2.2⟩⟩
theorem ReadsF.mono {w : World} {B B' : Nat} {A : Option Addr} {l : List Fd} (h : ReadsF w B A l) (hB : B ≤ B') : ReadsF w B' A l := fun h0 => by
  obtain ⟨g, e, hg, hc⟩ := h h0
  exact ⟨g, e, Nat.lt_of_lt_of_le hg hB, hc⟩
theorem pt_ways (a a' : Int) (b b' : ByteArray) : (b = b' ∧ a = a') ∨ (b.toList == b'.toList) = false ∨ (b = b' ∧ (a == a') = false) := by
  by_cases h2 : b = b'
  · by_cases h1 : a = a'
    · exact .inl ⟨h2, h1⟩
    · exact .inr (.inr ⟨h2, int_off h1⟩)
  · exact .inr (.inl (bytes_off h2))
theorem fd_ways (o o' : Int) (a a' c c' : Bool) (b b' d d' : ByteArray) : (o = o' ∧ a = a' ∧ b = b' ∧ c = c' ∧ d = d') ∨ (o == o') = false ∨ (o = o' ∧ (a == a') = false) ∨ (o = o' ∧ a = a' ∧ (b.toList == b'.toList) = false) ∨ (o = o' ∧ a = a' ∧ b = b' ∧ (c == c') = false) ∨ (o = o' ∧ a = a' ∧ b = b' ∧ c = c' ∧ (d.toList == d'.toList) = false) := by
  by_cases h0 : o = o'
  · rcases rec_ways a a' c c' b b' d d' with ⟨h1, h2, h3, h4⟩ | h1 | ⟨h1, h2⟩ | ⟨h1, h2, h3⟩ | ⟨h1, h2, h3, h4⟩
    · exact .inl ⟨h0, h1, h2, h3, h4⟩
    · exact .inr (.inr (.inl ⟨h0, h1⟩))
    · exact .inr (.inr (.inr (.inl ⟨h0, h1, h2⟩)))
    · exact .inr (.inr (.inr (.inr (.inl ⟨h0, h1, h2, h3⟩))))
    · exact .inr (.inr (.inr (.inr (.inr ⟨h0, h1, h2, h3, h4⟩))))
  · exact .inr (.inl (int_off h0))

end Go.Proofs.Ytajnaeijkflklaa.L4
