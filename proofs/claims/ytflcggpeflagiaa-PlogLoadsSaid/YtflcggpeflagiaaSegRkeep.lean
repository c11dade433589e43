/-
  Contracts: the document's segment: what is read, what is kept.
-/
import Derived.Test.YtflcggpeflagiaaSegRapp
namespace Go.Proofs.Ytflcggpeflagiaa.L5
open Go.RowKit
open L3 L4

theorem read_next {L : List L4.Fd} {k : Nat} {f : L4.Fd} {a c : Int} (h : L[k]? = some f) :
    (a ≤ f.o → ((readL (L.take k) a c).length : Int) < c → readL (L.take (k + 1)) a c = readL (L.take k) a c ++ [f]) ∧ ((f.o < a ∨ c ≤ ((readL (L.take k) a c).length : Int)) → readL (L.take (k + 1)) a c = readL (L.take k) a c) := by
  unfold readL
  rw [List.take_add_one, h, List.filter_append]
  constructor
  · intro h1 h2
    have e : List.filter (fun f : L4.Fd => decide (a ≤ f.o)) (some f).toList = [f] := by simp [h1]
    rw [e, List.take_append]
    rw [List.length_take] at h2
    have : c.toNat - (List.filter (fun f : L4.Fd => decide (a ≤ f.o)) (List.take k L)).length = (c.toNat - (List.filter (fun f : L4.Fd => decide (a ≤ f.o)) (List.take k L)).length - 1) + 1 := by omega
    rw [this, List.take_succ_cons, List.take_nil]
  · rintro (h1 | h1)
    · have e : List.filter (fun f : L4.Fd => decide (a ≤ f.o)) (some f).toList = [] := by simp; omega
      rw [e, List.append_nil]
    · rw [List.length_take] at h1
      rw [List.take_append_of_le_length (by omega)]

end Go.Proofs.Ytflcggpeflagiaa.L5
