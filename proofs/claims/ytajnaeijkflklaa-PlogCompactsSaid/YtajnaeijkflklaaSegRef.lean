/-
  Contracts: the document's segment: a new one, one of records that are there already.
-/
import Derived.Test.YtajnaeijkflklaaSegCopy
namespace Go.Proofs.Ytajnaeijkflklaa.L5
open Go.RowKit
open L3 L4

theorem rise_off {a n : Int} {f : L4.Fd} {t : List L4.Fd} (h : f.o < a ∨ n ≤ f.o) : riseB a n (f :: t) = false := by
  cases hb : riseB a n (f :: t)
  · rfl
  · have := rise_cons.1 hb; omega
theorem rise_on {a n : Int} {f : L4.Fd} {t : List L4.Fd} (h1 : a ≤ f.o) (h2 : f.o < n) : riseB a n (f :: t) = riseB (f.o + 1) n t := by
  show (decide (a ≤ f.o) && decide (f.o < n) && riseB (f.o + 1) n t) = _
  simp [h1, h2]

theorem pre_next {base : Int} {l : List L4.Fd} {k : Nat} {o : Int} {r : R} (h : l[k]? = some ⟨o, r⟩) : (k + 1 = 0 → o + 1 = base) ∧ ∀ j, k + 1 = j + 1 → ∃ f, l[j]? = some f ∧ o + 1 = f.o + 1 :=
  ⟨fun e => by omega, fun j e => by obtain rfl : j = k := by omega
                                    exact ⟨_, h, rfl⟩⟩

end Go.Proofs.Ytajnaeijkflklaa.L5
