/-
  The document's own: the same marks; Drop; Raise.
-/
import Derived.Test.YtcpfihagcmadcaaOfRef
namespace Go.Proofs.Ytcpfihagcmadcaa.L12
open Go.RowKit
open Go.Maps
open L3 L4

set_option maxRecDepth 100000 in
set_option maxHeartbeats 2000000 in
theorem rsame_is (w : World) (A A' : Option Addr) (l : List Mr) (n cap cap' : Nat) (hR : Hid (ReadsM w w.heap.size A l)) (hR' : Hid (ReadsM w w.heap.size A' l)) (hn : Hid (l.length = n)) (hl : n ≤ 1000000) :
    Calls Try.prog 17 #[.slice A n cap, .slice A' n cap'] w fun e w' => e = .returned (.bool true) ∧ Below w.heap.size w w' := by
  go_enter Try.func17, Try.ntmps17
  go_wp2_with fail
  go_loopw [5] (fun i wr => ∃ j : Nat, j ≤ n ∧ i = .int .i64 j ∧ Hid (Below w.heap.size w wr)) (fun i _ => n - (intOf i).toNat)
  case atStart => exact ⟨0, Nat.zero_le _, rfl, Lib.hid (Below.refl _ _)⟩
  case round =>
    obtain ⟨j, hj, rfl, HB⟩ := hrel
    by_cases hlt : j < n
    · obtain ⟨⟨g2, t2, p2, o2⟩, hst⟩ : ∃ st, l[j]? = some st := ⟨l[j]'(by rw [hn.out]; exact hlt), List.getElem?_eq_getElem _⟩
      obtain ⟨ga, oa, rfl, hga, hca⟩ := hR.out (by rw [hn.out]; omega)
      obtain ⟨gb, ob, rfl, hgb, hcb⟩ := hR'.out (by rw [hn.out]; omega)
      obtain ⟨x0, x1, x2, x3⟩ := hca j _ hst
      obtain ⟨y0, y1, y2, y3⟩ := hcb j _ hst
      have d0 := cell_at HB.out x0
      have d1 := cell_at HB.out x1
      have d2 := cell_at HB.out x2
      have d3 := cell_at HB.out x3
      have f0 := cell_at HB.out y0
      have f1 := cell_at HB.out y1
      have f2 := cell_at HB.out y2
      have f3 := cell_at HB.out y3
      dsimp only at d0 d1 d2 d3 f0 f1 f2 f3
      have j0 : (0 : Int) ≤ (j : Int) := by omega
      have j1 : (j : Int) < (n : Int) := by omega
      clear hst hca hcb x0 x1 x2 x3 y0 y1 y2 y3
      go_wp2_with fail
      go_quiet (fail)
      go_wp2_with fail
      go_roundw
      case rel => exact ⟨j + 1, by omega, by go_num, Lib.hid (drewN_below HB.out _)⟩
      case measure => simp [intOf]; omega
    · obtain rfl : j = n := by omega
      clear hlt
      go_wp2_with fail
      go_ret
      exact ⟨rfl, HB.out⟩

/-- the document's table behind a turn: its block, and that of its row, alone have turned -/
def RTurn (w : World) (B k : Nat) (A : Option Addr) (Q : List Mr) (w' : World) : Prop := ∃ A' cap', Doc w' B k A' cap' Q ∧ (A' = none → cap' = 0) ∧ Only (k :: bk A) w w' ∧ ∀ q ∈ bk A', q ∈ bk A ∨ w.heap.size ≤ q
theorem Doc.nilcap {w : World} {B k cap : Nat} {A : Option Addr} {Q : List Mr} (h : Doc w B k A cap Q) (hA : A = none → cap = 0) : A = none → Q.length = 0 ∧ cap = 0 := fun e => by
  refine ⟨?_, hA e⟩
  rcases h.own.2 with ⟨_, q⟩ | ⟨g, cap', cur, q, _⟩
  · exact q
  · injection q with q; rw [e] at q; cases q
theorem own_nilcap {w : World} {base n c size : Nat} {T : TypeId} {A : Option Addr} {xs : List Value} (h : w.ownsRow base T size (.slice A n c) n xs) : A = none → c = 0 := fun e => by
  rcases h.2 with ⟨q, _⟩ | ⟨g, c', cur, q, _⟩
  · injection q
  · injection q with q; rw [e] at q; cases q
theorem Doc.cap_le {w : World} {B k cap : Nat} {A : Option Addr} {Q : List Mr} (h : Doc w B k A cap Q) : Q.length ≤ cap := by
  rcases h.own.2 with ⟨q, e⟩ | ⟨g, cap', cur, q, _, _, hc, _⟩
  · rw [e]; omega
  · injection q with _ _ q; rw [q]; exact hc
/-- another row in the document's table -/
theorem doc_store {w w5 : World} {B k cap n c : Nat} {A A5 : Option Addr} {Q Q' : List Mr} (h : Doc w B k A cap Q) (hB : B ≤ w.heap.size) (hb : Below w.heap.size w w5) (ho : w5.ownsRow w.heap.size 32 4 (.slice A5 n c) n (rowM Q')) (hn : Q'.length = n) :
    RTurn w B k A Q' (w5.setCell ⟨k, 0, none⟩ (.slice A5 n c)) := by
  have hk := h.lt
  have hrow := (hb.block k hk).trans h.row
  have hnk : ∀ j, (Value.slice A5 n c).ownBlock = some j → j ≠ k := fun j e => by have := (ho.lt j e).1; omega
  refine ⟨A5, c, ⟨?_, ?_⟩, own_nilcap ho, ?_, fun q hq => .inr (by obtain ⟨_, h1, _⟩ := own_bk ho q hq; exact h1)⟩
  · rw [hn]
    have := heap_setCell_same _ _ 0 _ _ (.slice A5 n c) hrow
    simpa using this
  · rw [hn]
    exact own_base (own_at ho (fun j e => Below.heap_setCell _ _ _ _ (hnk j e))) hB
  · exact (Only.ofBelow hb).setCell (.inl (by simp)) _
theorem drop_take_next {Q : List Mr} {g : ByteArray} {j : Nat} {m : Mr} (h : Q[j]? = some m) : dropQ (Q.take (j + 1)) g = if m.g = g then dropQ (Q.take j) g else dropQ (Q.take j) g ++ [m] := by
  unfold dropQ
  rw [List.take_add_one, h, Option.toList_some, List.filter_append]
  by_cases e : m.g = g <;> simp [e]
set_option maxRecDepth 100000 in
set_option maxHeartbeats 4000000 in
theorem rdrop_is {w : World} {B k cap : Nat} {A : Option Addr} {Q : List Mr} (gr : ByteArray) (x : Int) (L : Nat) (h : Hid (Doc w B k A cap Q)) (hB : Hid (B ≤ w.heap.size)) (HL : Hid (Q.length = L)) (hl : L ≤ 1000000) (HX : Hid (dropN Q gr = x)) :
    Calls Try.prog 12 #[.pointer (some ⟨k, 0, none⟩), .string gr] w fun e w' => e = .returned (.int .i64 x) ∧ RTurn w B k A (dropQ Q gr) w' := by
  obtain ⟨i0, hi0, hz0, hz1, hz2⟩ := info_parts markInfo
  have HW0 : Hid (Below w.heap.size w (w.alloc (.cells #[] 32))) := Lib.hid (one_box' _)
  have HOWN0 : Hid ((w.alloc (.cells #[] 32)).ownsRow w.heap.size 32 4 (.slice (some ⟨w.heap.size, 0, none⟩) 0 0) 0 []) := Lib.hid (World.ownsRow_made w #[] 0 (Nat.le_refl _) (by unfold maxLen; omega) rfl)
  have ltk : k < w.heap.size := h.out.lt
  go_enter Try.func12, Try.ntmps12
  go_wp2_with fail
  go_loopw [5, 6] (fun sv i wr => ∃ (j q : Nat) (A5 : Option Addr) (c5 : Nat), j ≤ L ∧ q ≤ j ∧ i = .int .i64 j ∧ sv = .slice A5 q c5 ∧ Hid ((dropQ (Q.take j) gr).length = q) ∧ Hid (wr.ownsRow w.heap.size 32 4 (.slice A5 q c5) q (rowM (dropQ (Q.take j) gr))) ∧ Hid (Below w.heap.size w wr)) (fun _ i _ => L - (intOf i).toNat)
  case atStart => exact ⟨0, 0, _, 0, Nat.zero_le _, Nat.le_refl _, rfl, rfl, Lib.hid rfl, HOWN0, HW0⟩
  case round =>
    obtain ⟨j, q, A5, c5, hj, hqj, rfl, rfl, HQJ, HO, HBJ⟩ := hrel
    have HDJ := Lib.hid (h.out.below HBJ.out)
    have c0 := HDJ.out.c0
    rw [HL.out] at c0
    have hwz := HBJ.out.size
    by_cases hlt : j < L
    · obtain ⟨⟨g2, t2, p2, o2⟩, hst⟩ : ∃ st, Q[j]? = some st := ⟨Q[j]'(by rw [HL.out]; exact hlt), List.getElem?_eq_getElem _⟩
      obtain ⟨ga, rfl, -, -, hma, -⟩ := HDJ.out.mark hst
      obtain ⟨d0, d1, d2, d3⟩ := hma
      dsimp only at d0 d1 d2 d3
      have hnx := drop_take_next (g := gr) hst
      dsimp only at hnx
      have HNX := Lib.hid hnx
      have j0 : (0 : Int) ≤ (j : Int) := by omega
      have j1 : (j : Int) < (L : Int) := by omega
      clear hst hnx
      by_cases hg : g2 = gr
      · subst hg
        have HN1 : Hid ((dropQ (Q.take (j + 1)) g2).length = q) := Lib.hid (by rw [HNX.out, if_pos rfl]; exact HQJ.out)
        have HO1 : Hid (wr.ownsRow w.heap.size 32 4 (.slice A5 q c5) q (rowM (dropQ (Q.take (j + 1)) g2))) := Lib.hid (by rw [HNX.out, if_pos rfl]; exact HO.out)
        go_wp2_with fail
        go_roundw
        case rel => exact ⟨j + 1, q, A5, c5, by omega, by omega, by go_num, rfl, HN1, HO1, HBJ⟩
        case measure => simp [intOf]; omega
      · have t0 : (g2.toList == gr.toList) = false := bytes_off hg
        have HN1 : Hid ((dropQ (Q.take (j + 1)) gr).length = q + 1) := Lib.hid (by rw [HNX.out, if_neg hg, List.length_append, HQJ.out]; rfl)
        have HROW : Hid (rowM (dropQ (Q.take (j + 1)) gr) = rowM (dropQ (Q.take j) gr) ++ [.string g2, .string t2, .int .i64 p2, .int .i64 o2]) := Lib.hid (by rw [HNX.out, if_neg hg, rowM_app]; simp [rowM, mkC])
        clear hg
        go_wp2_with (at_builtin; refine wpList_append_own _ rfl _ _ 26 rfl w.heap.size 32 i0 _ 4 48 Try.underlying26 hi0 hz0 hz1 hz2 rfl (by decide) _ _ _ rfl (HO.out.alloc _) ⟨wr.heap.size, 0, none⟩ 1 1 [.string g2, .string t2, .int .i64 p2, .int .i64 o2] rfl rfl (cells_four _ _ _ _ _ _) (by simp [Value.oneCell']) (by unfold maxLen; omega) (by omega) (by simp; omega) ?_; intro v' w3 hown' hgrow _)
        obtain ⟨A6, c6, rfl⟩ := own_len hown'
        have HO1 : Hid (w3.ownsRow w.heap.size 32 4 (.slice A6 (q + 1) c6) (q + 1) (rowM (dropQ (Q.take (j + 1)) gr))) := Lib.hid (by rw [HROW.out]; exact hown')
        have HB3 : Hid (Below w.heap.size w w3) := Lib.hid ((HBJ.out.alloc hwz _).grown hgrow (HBJ.out.alloc hwz _).size (fun k e => (HO.out.lt k e).1))
        clear hown' hgrow
        go_roundw
        case rel => exact ⟨j + 1, q + 1, A6, c6, by omega, by omega, by go_num, rfl, HN1, HO1, HB3⟩
        case measure => simp [intOf]; omega
    · obtain rfl : j = L := by omega
      have htk : Q.take j = Q := List.take_of_length_le (by rw [HL.out]; exact Nat.le_refl _)
      have ho := HO.out
      have hq := HQJ.out
      rw [htk] at ho hq
      have HO2 := Lib.hid ho
      have HQ2 := Lib.hid hq
      have e1 : wrap64 ((j : Int) - (q : Int)) = (j : Int) - (q : Int) := by simp only [wrap64]; omega
      have hx : (j : Int) - (q : Int) = x := by rw [← HX.out]; unfold dropN; rw [hq, HL.out]
      have f0 := HDJ.out.froz
      have HXX := Lib.hid hx
      clear htk ho hq hlt hx
      go_wp2_with fail
      go_ret
      exact ⟨congrArg (fun z => Ending.returned (.int .i64 z)) HXX.out, doc_store h.out hB.out HBJ.out HO2.out HQ2.out⟩
end Go.Proofs.Ytcpfihagcmadcaa.L12
