/-
  Contracts: what a letter stands for, as bytes: the document's.
-/
import Derived.Test.YthongbobopampaaReqCut
import Derived.Test.YthongbobopampaaMRecRall
import Derived.Deep.RegionHeld3
namespace Go.Proofs.Ythongbobopampaa.L4
open Go.RowKit
open L3

theorem keep_one {W0 wa wb : World} {B : Nat} {P : World → Prop} (h : ∀ w', Below B W0 w' → P w' ∧ Below B W0 w') (ha : P wa ∧ Below B W0 wa) (hb : Below wa.heap.size wa wb) (hB : B ≤ W0.heap.size) : P wb ∧ Below B W0 wb :=
  h wb (ha.2.trans (hb.mono (Nat.le_trans hB ha.2.size)))
/-! ### Topics -/
/-- texts one behind the other -/
def catS : List ByteArray → ByteArray
  | [] => ⟨#[]⟩
  | s :: t => txt s ++ catS t
def topsT (l : List ByteArray) : ByteArray := V.put l.length ++ catS l
theorem catS_app : ∀ (a : List ByteArray) (s : ByteArray), catS (a ++ [s]) = catS a ++ txt s
  | [], s => by
    apply V.nats_inj
    show V.nats (txt s ++ ⟨#[]⟩) = V.nats (⟨#[]⟩ ++ txt s)
    rw [V.nats_append, V.nats_append]
    show V.nats (txt s) ++ [] = [] ++ V.nats (txt s)
    simp
  | r :: t, s => by
    show txt r ++ catS (t ++ [s]) = txt r ++ catS t ++ txt s
    rw [catS_app t s, ByteArray.append_assoc]
theorem catS_none (p : ByteArray) (l : List ByteArray) : p ++ catS (l.take 0) = p := by
  apply V.nats_inj
  rw [V.nats_append]
  show V.nats p ++ [] = V.nats p
  simp
theorem catS_next {l : List ByteArray} {k : Nat} {s : ByteArray} (h : l[k]? = some s) : catS (l.take (k + 1)) = catS (l.take k) ++ txt s := by
  rw [List.take_add_one, h]
  exact catS_app _ _
theorem catS_size (l : List ByteArray) (h : ∀ s ∈ l, s.size ≤ 40) : (catS l).size ≤ 50 * l.length := by
  induction l with
  | nil => exact Nat.zero_le _
  | cons s t ih =>
    have e := txt_size s (by have := h s (by simp); omega)
    have h0 := h s (by simp)
    have h1 := ih (fun q hq => h q (by simp [hq]))
    show (txt s ++ catS t).size ≤ 50 * (t.length + 1)
    rw [ByteArray.size_append]
    omega
end Go.Proofs.Ythongbobopampaa.L4
