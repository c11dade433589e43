/-
  Contracts over the document's own functions: Drop.
-/
import Derived.Test.YthongbobopampaaTpRdrop
namespace Go.Proofs.Ythongbobopampaa.L9
open Go.RowKit
open Go.Maps
open L3 L4

theorem drop_at : ∀ {Q : List Pt} {j : Nat} {s : ByteArray} {z : Int}, Rise Q → Q[j]? = some ⟨s, z⟩ → dropQ Q s = Q.take j ++ Q.drop (j + 1)
  | [], _, _, _, _, h => by simp at h
  | a :: t, 0, s, z, hR, h => by
    simp at h
    subst h
    obtain ⟨h1, _⟩ := List.pairwise_cons.1 hR
    have e : dropQ t s = t := drop_none (has_not.2 fun x hx => (less_ne (h1 x hx)).symm)
    unfold dropQ at e ⊢
    rw [List.filter_cons]
    simp [e]
  | a :: t, j + 1, s, z, hR, h => by
    obtain ⟨h1, h2⟩ := List.pairwise_cons.1 hR
    have h' : t[j]? = some ⟨s, z⟩ := by simpa using h
    have ih := drop_at h2 h'
    have hn : a.t ≠ s := less_ne (h1 _ (List.mem_of_getElem? h'))
    unfold dropQ at ih ⊢
    rw [List.filter_cons]
    simp [hn, ih]

end Go.Proofs.Ythongbobopampaa.L9
