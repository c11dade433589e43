/-
  Get, by one answer: a command that may be whose bytes they are, or none.
-/
import Derived.Test.YtijofikpdhapoaaGreatReqGet
namespace Go.Proofs.YtijofikpdhapoaaGreat.L4
open Go.RowKit
open L3

/-- the answer of Get -/
def GetU (s : ByteArray) (X : O) (E : Int) : Prop := (X.kind ≤ 12 ∧ X.chk = 0 ∧ X.bytes = s ∧ E = 0) ∨ ((∀ x : O, x.kind ≤ 12 → x.chk = 0 → x.bytes ≠ s) ∧ X = O.zero ∧ E = 40)
theorem GetU.ex (s : ByteArray) : ∃ X E, GetU s X E := by
  by_cases h : ∃ x : O, x.kind ≤ 12 ∧ x.chk = 0 ∧ x.bytes = s
  · obtain ⟨x, h0, h1, h2⟩ := h
    exact ⟨x, 0, .inl ⟨h0, h1, h2, rfl⟩⟩
  · exact ⟨O.zero, 40, .inr ⟨fun x h0 h1 h2 => h ⟨x, h0, h1, h2⟩, rfl, rfl⟩⟩
theorem GetU.read {s : ByteArray} {X : O} (hk : X.kind ≤ 12) (h : X.chk = 0) (hb : X.bytes = s) (d : Bool) : readO s d = (X, some (s.size : Int)) := by
  rw [← hb]
  exact readO_put hk h d
theorem get_u (s : ByteArray) (X : O) (E : Int) (w : World) (hs : s.size ≤ 140737488355328) (HX : Hid (GetU s X E)) : Calls Tryz.prog 5 #[.string s] w (GotO X E w) := by
  rcases HX.out with ⟨h0, h1, h2, rfl⟩ | ⟨h1, rfl, rfl⟩
  · have h := get_in s X _ w hs (Lib.hid (GetU.read h0 h1 h2 false))
    rw [if_pos ⟨rfl, h1⟩, if_pos ⟨rfl, h1⟩] at h
    exact h
  · obtain ⟨o, q, hq⟩ : ∃ o q, readO s false = (o, q) := ⟨_, _, rfl⟩
    have hn : ¬ (q = some (s.size : Int) ∧ o.chk = 0) := fun ⟨e1, e2⟩ => by
      obtain ⟨g0, g1, g2⟩ := get_yes hq e1 e2
      exact h1 o g0 g1 g2
    have h := get_in s o q w hs (Lib.hid hq)
    rw [if_neg hn, if_neg hn] at h
    exact h
/-- what Get tells is small -/
theorem GetU.small {s : ByteArray} {X : O} {E : Int} (h : GetU s X E) : Small X := by
  rcases h with ⟨h0, h1, h2, _⟩ | ⟨_, rfl, _⟩
  · have := readO_small s false
    rw [GetU.read h0 h1 h2 false] at this
    exact this
  · exact small_of 0
end Go.Proofs.YtijofikpdhapoaaGreat.L4
