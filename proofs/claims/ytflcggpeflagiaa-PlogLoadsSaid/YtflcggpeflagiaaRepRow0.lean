/-
  Rows of what was found, and of partitions, in memory.
-/
import Derived.Test.YtflcggpeflagiaaReqAlike
import Derived.Laws.Rows
import Derived.Laws.AppendOwn
namespace Go.Proofs.Ytflcggpeflagiaa.L4
open Go.RowKit
open L3

def rowF : List Fd → List Value
  | [] => []
  | f :: l => .int .i64 f.o :: .bool f.r.hk :: .string f.r.key :: .bool f.r.tb :: .string f.r.val :: rowF l
def rowP : List Pt → List Value
  | [] => []
  | f :: l => .string f.t :: .int .i64 f.n :: rowP l
theorem rowF_len : ∀ l, (rowF l).length = l.length * 5
  | [] => rfl
  | _ :: l => by simp [rowF, rowF_len l]; omega
theorem rowP_len : ∀ l, (rowP l).length = l.length * 2
  | [] => rfl
  | _ :: l => by simp [rowP, rowP_len l]; omega
theorem rowF_app : ∀ a b, rowF (a ++ b) = rowF a ++ rowF b
  | [], _ => rfl
  | _ :: a, b => by simp [rowF, rowF_app a b]
theorem rowP_app : ∀ a b, rowP (a ++ b) = rowP a ++ rowP b
  | [], _ => rfl
  | _ :: a, b => by simp [rowP, rowP_app a b]
theorem rowF_at : ∀ (l : List Fd) (i : Nat) (f : Fd), l[i]? = some f → (rowF l)[i * 5]? = some (.int .i64 f.o) ∧ (rowF l)[i * 5 + 1]? = some (.bool f.r.hk) ∧ (rowF l)[i * 5 + 2]? = some (.string f.r.key) ∧ (rowF l)[i * 5 + 3]? = some (.bool f.r.tb) ∧ (rowF l)[i * 5 + 4]? = some (.string f.r.val)
  | [], i, f, h => by simp at h
  | g :: l, 0, f, h => by
    have : g = f := by simpa using h
    subst this
    exact ⟨rfl, rfl, rfl, rfl, rfl⟩
  | g :: l, i + 1, f, h => by
    have h2 := rowF_at l i f (by simpa using h)
    rw [show (i + 1) * 5 = i * 5 + 5 by omega]
    exact h2
theorem rowP_at : ∀ (l : List Pt) (i : Nat) (f : Pt), l[i]? = some f → (rowP l)[i * 2]? = some (.string f.t) ∧ (rowP l)[i * 2 + 1]? = some (.int .i64 f.n)
  | [], i, f, h => by simp at h
  | g :: l, 0, f, h => by
    have : g = f := by simpa using h
    subst this
    exact ⟨rfl, rfl⟩
  | g :: l, i + 1, f, h => by
    have h2 := rowP_at l i f (by simpa using h)
    rw [show (i + 1) * 2 = i * 2 + 2 by omega]
    exact h2
theorem rowF_one : ∀ (l : List Fd), ∀ u ∈ rowF l, u.oneCell' = true
  | [], u, h => by simp [rowF] at h
  | f :: l, u, h => by
    simp only [rowF, List.mem_cons] at h
    rcases h with rfl | rfl | rfl | rfl | rfl | h
    · rfl
    · rfl
    · rfl
    · rfl
    · rfl
    · exact rowF_one l u h
theorem rowP_one : ∀ (l : List Pt), ∀ u ∈ rowP l, u.oneCell' = true
  | [], u, h => by simp [rowP] at h
  | f :: l, u, h => by
    simp only [rowP, List.mem_cons] at h
    rcases h with rfl | rfl | h
    · rfl
    · rfl
    · exact rowP_one l u h
theorem addr_add (g j : Nat) : (⟨g, 0, none⟩ : Addr).add j = ⟨g, j, none⟩ := by unfold Addr.add; split <;> simp_all
theorem ReadsF.own {w : World} {base : Nat} {T : TypeId} {A : Option Addr} {cap : Nat} {l : List Fd} (h : w.ownsRow base T 5 (.slice A l.length cap) l.length (rowF l)) : ReadsF w w.heap.size A l := fun h0 => by
  rcases h.2 with ⟨_, e⟩ | ⟨g, cap', cur, e, hb, hh, _⟩
  · omega
  · injection e with e1 e2 e3
    refine ⟨g, e1, (Array.getElem?_eq_some_iff.1 hh).1, fun i r hr => ?_⟩
    obtain ⟨a, b, c, d, f⟩ := rowF_at l i r hr
    have hc := h.cells (g := g) (by rw [e1]; rfl)
    refine ⟨?_, ?_, ?_, ?_, ?_⟩
    · have := hc _ _ a; rwa [addr_add] at this
    · have := hc _ _ b; rwa [addr_add] at this
    · have := hc _ _ c; rwa [addr_add] at this
    · have := hc _ _ d; rwa [addr_add] at this
    · have := hc _ _ f; rwa [addr_add] at this
theorem ReadsP.own {w : World} {base : Nat} {T : TypeId} {A : Option Addr} {cap : Nat} {l : List Pt} (h : w.ownsRow base T 2 (.slice A l.length cap) l.length (rowP l)) : ReadsP w w.heap.size A l := fun h0 => by
  rcases h.2 with ⟨_, e⟩ | ⟨g, cap', cur, e, hb, hh, _⟩
  · omega
  · injection e with e1 e2 e3
    refine ⟨g, e1, (Array.getElem?_eq_some_iff.1 hh).1, fun i r hr => ?_⟩
    obtain ⟨a, b⟩ := rowP_at l i r hr
    have hc := h.cells (g := g) (by rw [e1]; rfl)
    refine ⟨?_, ?_⟩
    · have := hc _ _ a; rwa [addr_add] at this
    · have := hc _ _ b; rwa [addr_add] at this
end Go.Proofs.Ytflcggpeflagiaa.L4
