/-
  Parse and Reply, the program's and the document's, by one answer.
-/
import Derived.Test.YtlhkhccpeohefaaRepBack
import Derived.Test.YtlhkhccpeohefaaRepRparse
namespace Go.Proofs.Ytlhkhccpeohefaa.L4
open Go.RowKit
open L3

theorem rreply_u (r : Rp) (FA PA : Option Addr) (fc pc : Nat) (w : World) (HC : Hid (CutdR r)) (ha : Hid (AtR r FA PA w)) (s : ByteArray) (x : Int) (HU : Hid (RepU r s x)) :
    Calls Try.prog 22 #[.agg #[.int .i64 r.e, .int .i64 r.off, .int .i64 r.n, .int .i64 r.gen, .slice FA r.found.length fc, .slice PA r.parts.length pc]] w fun e w' => e = .returned (.tuple #[.string s, .int .i64 x]) ∧ Below w.heap.size w w' := by
  obtain ⟨h1, h2⟩ := HU.out
  by_cases hx : x = 0
  · subst hx
    rw [if_pos rfl] at h2
    subst h2
    exact rreply_ok r FA PA fc pc w.heap.size w (Nat.le_refl _) (Lib.hid ha.out.f) (Lib.hid ha.out.p) (Lib.hid HC.out.mf) (Lib.hid HC.out.mp) (Lib.hid HC.out.sf) (Lib.hid HC.out.sp) (Lib.hid h1)
  · rw [if_neg hx] at h2
    subst h2
    exact rreply_bad r FA PA fc pc w.heap.size w (Nat.le_refl _) (Lib.hid ha.out.f) (Lib.hid ha.out.p) (Lib.hid HC.out.mf) (Lib.hid HC.out.mp) (Lib.hid HC.out.sf) (Lib.hid HC.out.sp) x (Lib.hid h1) hx
/-- the answer of Parse -/
def ParU (s : ByteArray) (X : Rp) (E : Int) : Prop := (X.chk = 0 ∧ X.bytes = s ∧ E = 0) ∨ ((∀ x : Rp, x.chk = 0 → x.bytes ≠ s) ∧ X = Rp.zero ∧ E = 40)
theorem ParU.ex (s : ByteArray) : ∃ X E, ParU s X E := by
  by_cases h : ∃ x : Rp, x.chk = 0 ∧ x.bytes = s
  · obtain ⟨x, h1, h2⟩ := h
    exact ⟨x, 0, .inl ⟨h1, h2, rfl⟩⟩
  · exact ⟨Rp.zero, 40, .inr ⟨fun x h1 h2 => h ⟨x, h1, h2⟩, rfl, rfl⟩⟩
theorem ParU.read {s : ByteArray} {X : Rp} (h : X.chk = 0) (hb : X.bytes = s) : readR s 64 = (X, some (s.size : Int)) := by
  rw [← hb]
  exact readR_put (good_r h) (Nat.le_refl _)
theorem ParU.cutd {s : ByteArray} {X : Rp} {E : Int} (h : ParU s X E) : CutdR X := by
  rcases h with ⟨h1, h2, _⟩ | ⟨_, rfl, _⟩
  · have := readR_small s 64
    rw [ParU.read h1 h2] at this
    exact this.cutd
  · exact ⟨Nat.zero_le 70, fun x hx => by simp [Rp.zero] at hx, Nat.zero_le 70, fun x hx => by simp [Rp.zero] at hx⟩
theorem parse_u (s : ByteArray) (X : Rp) (E : Int) (w : World) (hs : s.size ≤ 140737488355328) (HX : Hid (ParU s X E)) : Calls Try.prog 23 #[.string s] w (GotR X E w) := by
  rcases HX.out with ⟨h1, h2, rfl⟩ | ⟨h1, rfl, rfl⟩
  · exact L4.parse_ok s X w hs (Lib.hid (ParU.read h1 h2)) (Lib.hid h1)
  · obtain ⟨o, q, hq⟩ : ∃ o q, readR s 64 = (o, q) := ⟨_, _, rfl⟩
    have hn : ¬ (q = some (s.size : Int) ∧ o.chk = 0) := fun ⟨e1, e2⟩ => by
      rw [e1] at hq
      exact h1 o e2 (readR_got hq)
    have h := parse_in s o q w hs (Lib.hid hq)
    rw [if_neg hn, if_neg hn] at h
    exact h
theorem rparse_u (s : ByteArray) (X : Rp) (E : Int) (w : World) (hs : s.size ≤ 140737488355328) (HX : Hid (ParU s X E)) : Calls Try.prog 24 #[.string s] w (GotR X E w) := by
  refine rparse_in s w hs X E (Lib.hid fun x h1 h2 => ?_) (Lib.hid fun h => ?_)
  · rcases HX.out with ⟨g1, g2, rfl⟩ | ⟨g1, _, _⟩
    · exact ⟨rBytes_inj g1 h1 (g2.trans h2.symm), rfl⟩
    · exact absurd h2 (g1 x h1)
  · rcases HX.out with ⟨g1, g2, _⟩ | ⟨_, g1, g2⟩
    · exact absurd g2 (h X g1)
    · exact ⟨g1, g2⟩
end Go.Proofs.Ytlhkhccpeohefaa.L4
