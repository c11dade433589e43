/-
  Contracts: a batch cut short.
-/
import Derived.Test.YtijofikpdhapoaaGreatMRecAll
import Derived.OwnWalk
import Derived.Deep.RegionHeld3
import Derived.Deep.AppendLies
import Derived.Deep.RegionLaw
namespace Go.Proofs.YtijofikpdhapoaaGreat.L3
open Go.RowKit

theorem recInfo : (Tryz.prog.info? 35).map (fun i => (i.zero, i.size, i.bytes)) = some (some (.agg #[.bool false, .string ⟨#[]⟩, .bool false, .string ⟨#[]⟩]), 4, 48) := by kernel_rfl

def BoundPost (p e q : Int) (l : List R) (w : World) (x : Ending) (w' : World) : Prop :=
  ∃ A cap, x = .returned (.agg #[.int .i64 p, .int .i64 e, .int .i64 q, .slice A l.length cap]) ∧ w'.ownsRow w.heap.size 35 4 (.slice A l.length cap) l.length (rowOf l) ∧ Below w.heap.size w w'

theorem bound_next {w2 wn wr W2 : World} {H k gg cc : Nat} {obj : Obj} {V : Value} {p e q : Int} {l : List R} {rk tb : Bool} {key val : ByteArray}
    (hbel : Below (H + 1 + 1) W2 wr) (hbn : Below wr.drew.heap.size wr.drew wn) (hgrow : (wn.alloc obj).grownBy w2 V.ownBlock)
    (hown2 : w2.ownsRow (H + 1 + 1 + 1) 35 4 (.slice (some ⟨gg, 0, none⟩) (k + 1) cc) (k + 1) (rowOf ((l.take k).map R.cut) ++ [.bool rk, .string (cutS key 80), .bool tb, .string (cutS val 600)]))
    (hbox : wr.heap[H + 1 + 1]? = some (.cells #[.int .i64 p, .int .i64 e, .int .i64 q, V] 26 (0, 0))) (hr : l[k]? = some ⟨rk, key, tb, val⟩)
    (hf : Below (H + 1 + 1) wr (w2.setCell ⟨H + 1 + 1, 3, none⟩ (.slice (some ⟨gg, 0, none⟩) (k + 1) cc))) (hsz : H + 1 + 1 < wr.heap.size) (HL : ∀ j, V.ownBlock = some j → H + 1 + 1 + 1 ≤ j ∧ j < wr.heap.size) :
    Below (H + 1 + 1) W2 (w2.setCell ⟨H + 1 + 1, 3, none⟩ (.slice (some ⟨gg, 0, none⟩) (k + 1) cc)) ∧
    Hid ((w2.setCell ⟨H + 1 + 1, 3, none⟩ (.slice (some ⟨gg, 0, none⟩) (k + 1) cc)).heap[H + 1 + 1]? = some (.cells #[.int .i64 p, .int .i64 e, .int .i64 q, .slice (some ⟨gg, 0, none⟩) (k + 1) cc] 26 (0, 0))) ∧
    (w2.setCell ⟨H + 1 + 1, 3, none⟩ (.slice (some ⟨gg, 0, none⟩) (k + 1) cc)).ownsRow (H + 1 + 1 + 1) 35 4 (.slice (some ⟨gg, 0, none⟩) (k + 1) cc) (k + 1) (rowOf ((l.take (k + 1)).map R.cut)) := by
  have hzn : H + 1 + 1 < wn.heap.size := Nat.lt_of_lt_of_le hsz hbn.size
  have hb2 : w2.heap[H + 1 + 1]? = some (.cells #[.int .i64 p, .int .i64 e, .int .i64 q, V] 26 (0, 0)) :=
    (hgrow.block (H + 1 + 1) (by simp; omega) (fun c => by have := (HL _ c.symm).1; omega)).trans ((Below.heap_alloc _ _ _ hzn).trans ((hbn.block _ hsz).trans hbox))
  refine ⟨hbel.trans hf, Lib.hid (heap_setCell_same w2 (H + 1 + 1) 3 _ _ _ hb2), ?_⟩
  have et : (l.take (k + 1)).map R.cut = (l.take k).map R.cut ++ [⟨rk, cutS key 80, tb, cutS val 600⟩] := by
    rw [List.take_add_one, hr, List.map_append]; rfl
  rw [et, rowOf_app]
  exact ownsRow_setCell_below hown2 (by show H + 1 + 1 < _; omega) _

theorem own_form {w : World} {base k : Nat} {T : TypeId} {m : Nat} {V : Value} {xs : List Value} (h : w.ownsRow base T m V k xs) : ∃ A cap, V = .slice A k cap := by
  rcases h.2 with ⟨rfl, rfl⟩ | ⟨g, cap, cur, rfl, _⟩
  · exact ⟨none, 0, rfl⟩
  · exact ⟨_, _, rfl⟩
theorem take_len {l : List R} {f : R → R} {k : Nat} (hk : k ≤ l.length) (hk20 : k ≤ 20) (h : ¬ (k < l.length ∧ k < 20)) : (l.take k).map f = (l.take 20).map f ∧ ((l.take 20).map f).length = k := by
  have e : l.take k = l.take 20 := by
    rcases Nat.lt_or_ge k l.length with h1 | h1
    · have : k = 20 := by omega
      rw [this]
    · rw [List.take_of_length_le h1, List.take_of_length_le (by omega)]
  refine ⟨by rw [e], ?_⟩
  rw [← e, List.length_map, List.length_take]
  omega
theorem own_low {w : World} {base base' k : Nat} {T : TypeId} {m : Nat} {V : Value} {xs : List Value} (h : w.ownsRow base T m V k xs) (hb : base' ≤ base) : w.ownsRow base' T m V k xs := by
  refine ⟨h.1, ?_⟩
  rcases h.2 with e | ⟨g, cap, cur, e, h1, h2⟩
  · exact .inl e
  · exact .inr ⟨g, cap, cur, e, by omega, h2⟩
theorem bound_end {l : List R} {k cap : Nat} {A : Option Addr} {wr w : World} {base : Nat} {p e q : Int} {v0 v1 v2 v3 : Value}
    (hln : (l.take k).map R.cut = (l.take 20).map R.cut ∧ ((l.take 20).map R.cut).length = k) (hown : wr.ownsRow base 35 4 (.slice A k cap) k (rowOf ((l.take k).map R.cut))) (hbel : Below w.heap.size w wr) (hbase : w.heap.size + 1 < base) :
    BoundPost p e q ((l.take 20).map R.cut) w (.returned (.agg #[.int .i64 p, .int .i64 e, .int .i64 q, .slice A k cap])) ((((wr.setCell ⟨w.heap.size + 1, 0, none⟩ v0).setCell ⟨w.heap.size + 1, 1, none⟩ v1).setCell ⟨w.heap.size + 1, 2, none⟩ v2).setCell ⟨w.heap.size + 1, 3, none⟩ v3) := by
  have h1 := ownsRow_setCell_below (ownsRow_setCell_below (ownsRow_setCell_below (ownsRow_setCell_below hown (a := ⟨w.heap.size + 1, 0, none⟩) hbase v0) (a := ⟨w.heap.size + 1, 1, none⟩) hbase v1) (a := ⟨w.heap.size + 1, 2, none⟩) hbase v2) (a := ⟨w.heap.size + 1, 3, none⟩) hbase v3
  have hb := (((hbel.setCell (p := ⟨w.heap.size + 1, 0, none⟩) (Nat.le_succ _) v0).setCell (p := ⟨w.heap.size + 1, 1, none⟩) (Nat.le_succ _) v1).setCell (p := ⟨w.heap.size + 1, 2, none⟩) (Nat.le_succ _) v2).setCell (p := ⟨w.heap.size + 1, 3, none⟩) (Nat.le_succ _) v3
  rw [hln.1] at h1
  refine ⟨A, cap, by rw [hln.2], ?_, hb⟩
  have hk := hln.2
  subst hk
  exact own_low h1 (by omega)

end Go.Proofs.YtijofikpdhapoaaGreat.L3
