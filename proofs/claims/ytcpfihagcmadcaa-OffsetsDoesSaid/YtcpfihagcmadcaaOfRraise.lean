/-
  The document's own: Raise.
-/
import Derived.Test.YtcpfihagcmadcaaOfRsame
namespace Go.Proofs.Ytcpfihagcmadcaa.L12
open Go.RowKit
open Go.Maps
open L3 L4

def upB (t : ByteArray) (p least : Int) (m : Mr) : Bool := raiseB t p least m && decide (least ≤ 1099511627776)
def upR (t : ByteArray) (p least : Int) (m : Mr) : Mr := if upB t p least m = true then upTo m least else m
theorem raiseQ_up (Q : List Mr) (t : ByteArray) (p least : Int) : raiseQ Q t p least = Q.map (upR t p least) := by
  unfold raiseQ
  by_cases h : least ≤ 1099511627776
  · rw [if_pos h]
    exact List.map_congr_left (fun m _ => by unfold upR upB; simp [h])
  · rw [if_neg h]
    have : Q.map (upR t p least) = Q.map id := List.map_congr_left (fun m _ => by unfold upR upB; simp [h])
    rw [this, List.map_id]
theorem raiseN_up (Q : List Mr) (t : ByteArray) (p least : Int) : raiseN Q t p least = ((Q.filter (upB t p least)).length : Int) := by
  unfold raiseN
  by_cases h : least ≤ 1099511627776
  · rw [if_pos h]
    congr 2
    exact List.filter_congr (fun m _ => by unfold upB; simp [h])
  · rw [if_neg h, List.filter_eq_nil_iff.2 (fun m _ => by unfold upB; simp [h])]; rfl
/-- the first so many are done -/
def partR (t : ByteArray) (p least : Int) (Q : List Mr) (j : Nat) : List Mr := (Q.take j).map (upR t p least) ++ Q.drop j
theorem part_len (t : ByteArray) (p least : Int) (Q : List Mr) (j : Nat) : (partR t p least Q j).length = Q.length := by
  unfold partR
  rw [List.length_append, List.length_map, List.length_take, List.length_drop]; omega
theorem part_zero (t : ByteArray) (p least : Int) (Q : List Mr) : partR t p least Q 0 = Q := by simp [partR]
theorem part_all (t : ByteArray) (p least : Int) (Q : List Mr) : partR t p least Q Q.length = raiseQ Q t p least := by
  rw [raiseQ_up]; simp [partR]
theorem part_at {t : ByteArray} {p least : Int} {Q : List Mr} {j : Nat} {m : Mr} (h : Q[j]? = some m) : (partR t p least Q j)[j]? = some m := by
  have hj := (List.getElem?_eq_some_iff.1 h).1
  unfold partR
  rw [List.getElem?_append_right (by rw [List.length_map, List.length_take]; omega), List.length_map, List.length_take, show j - min j Q.length = 0 by omega, List.getElem?_drop]
  simpa using h
theorem part_next {t : ByteArray} {p least : Int} {Q : List Mr} {j : Nat} {m : Mr} (h : Q[j]? = some m) : partR t p least Q (j + 1) = (partR t p least Q j).set j (upR t p least m) := by
  obtain ⟨hj, e⟩ := List.getElem?_eq_some_iff.1 h
  unfold partR
  rw [List.take_add_one, h, Option.toList_some, List.map_append, List.drop_eq_getElem_cons hj, e, List.append_assoc]
  have hl : ((Q.take j).map (upR t p least)).length = j := by rw [List.length_map, List.length_take]; omega
  rw [List.set_append_right _ _ (by rw [hl]; exact Nat.le_refl _), hl, Nat.sub_self]
  rfl
theorem set_self {Q : List Mr} {j : Nat} {m : Mr} (h : Q[j]? = some m) : Q.set j m = Q := by
  obtain ⟨hj, e⟩ := List.getElem?_eq_some_iff.1 h
  rw [← e]; exact List.set_getElem_self hj
theorem rowM_set : ∀ {Q : List Mr} {j : Nat} {g t : ByteArray} {p z n : Int}, Q[j]? = some ⟨g, t, p, z⟩ → rowM (Q.set j ⟨g, t, p, n⟩) = (rowM Q).set (j * 4 + 3) (.int .i64 n)
  | [], _, _, _, _, _, _, h => by simp at h
  | a :: l, 0, g, t, p, z, n, h => by
    simp at h
    subst h
    simp [rowM, mkC]
  | a :: l, j + 1, g, t, p, z, n, h => by
    have ih := rowM_set (Q := l) (j := j) (n := n) (by simpa using h)
    have e1 : rowM (a :: l.set j ⟨g, t, p, n⟩) = mkC a ++ rowM (l.set j ⟨g, t, p, n⟩) := rfl
    have e2 : rowM (a :: l) = mkC a ++ rowM l := rfl
    rw [List.set_cons_succ, e1, e2, ih, show (j + 1) * 4 + 3 = (j * 4 + 3) + 4 by omega]
    simp [mkC]
theorem own_set {w : World} {base g i n cap : Nat} {T : TypeId} {xs : List Value} {u : Value} (h : w.ownsRow base T 4 (.slice (some ⟨g, 0, none⟩) n cap) n xs) : (w.setCell ⟨g, i, none⟩ u).ownsRow base T 4 (.slice (some ⟨g, 0, none⟩) n cap) n (xs.set i u) := by
  refine ⟨by simpa using h.1, ?_⟩
  rcases h.2 with ⟨e, _⟩ | ⟨k', cap', cur, e, h1, hh, hc, hm, hs, ht⟩
  · cases e
  · injection e with e1 _ e3; injection e1 with e1; injection e1 with e1 _; subst e1; subst e3
    refine .inr ⟨g, cap, cur.setIfInBounds i u, rfl, h1, heap_setCell_same _ _ _ _ _ _ hh, hc, hm, by simpa using hs, ?_⟩
    rw [Array.toList_setIfInBounds, List.take_set, ht]
theorem Doc.setO {w : World} {B k cap g j : Nat} {Q : List Mr} {gr t : ByteArray} {p z n : Int} (h : Doc w B k (some ⟨g, 0, none⟩) cap Q) (hm : Q[j]? = some ⟨gr, t, p, z⟩) : Doc (w.setCell ⟨g, j * 4 + 3, none⟩ (.int .i64 n)) B k (some ⟨g, 0, none⟩) cap (Q.set j ⟨gr, t, p, n⟩) ∧ Only [g] w (w.setCell ⟨g, j * 4 + 3, none⟩ (.int .i64 n)) := by
  have hkA := h.kA
  refine ⟨⟨?_, ?_⟩, (Only.refl _ _).setCell (.inl (by simp)) _⟩
  · rw [List.length_set]
    exact (Below.heap_setCell _ _ _ _ (fun e => hkA (by simp [bk]; exact e))).trans h.row
  · rw [List.length_set, rowM_set hm]
    exact own_set h.own
theorem up_filter {t : ByteArray} {p least : Int} {Q : List Mr} {j : Nat} {m : Mr} (h : Q[j]? = some m) : ((Q.take (j + 1)).filter (upB t p least)).length = ((Q.take j).filter (upB t p least)).length + (if upB t p least m = true then 1 else 0) := by
  rw [List.take_add_one, h, Option.toList_some, List.filter_append, List.length_append]
  congr 1
  cases e : upB t p least m <;> simp [e]
/-- between two rounds -/
structure RRGo (W : World) (t : ByteArray) (p least : Int) (Q : List Mr) (B k : Nat) (A : Option Addr) (cap j n : Nat) (wr : World) : Prop where
  doc : Doc wr B k A cap (partR t p least Q j)
  num : ((Q.take j).filter (upB t p least)).length = n
  only : Only (bk A) W wr
theorem rr_off {W wr w3 : World} {t : ByteArray} {p least : Int} {Q : List Mr} {B k cap j n : Nat} {A : Option Addr} {m : Mr} (h : RRGo W t p least Q B k A cap j n wr) (hm : Q[j]? = some m) (hu : upB t p least m = false) (hb : Below wr.heap.size wr w3) : RRGo W t p least Q B k A cap (j + 1) n w3 := by
  refine ⟨?_, by rw [up_filter hm, h.num, if_neg (by rw [hu]; simp)]; rfl, h.only.trans (S' := []) (Only.ofBelow hb) (fun q hq => by cases hq)⟩
  have : upR t p least m = m := by unfold upR; rw [if_neg (by rw [hu]; simp)]
  rw [part_next hm, this, set_self (part_at hm)]
  exact h.doc.below hb
theorem rr_on {W wr w3 : World} {t gr t2 : ByteArray} {p least p2 z : Int} {Q : List Mr} {B k cap j n g : Nat} (h : RRGo W t p least Q B k (some ⟨g, 0, none⟩) cap j n wr) (hm : Q[j]? = some ⟨gr, t2, p2, z⟩) (hu : upB t p least ⟨gr, t2, p2, z⟩ = true) (hb : Below wr.heap.size wr w3) : RRGo W t p least Q B k (some ⟨g, 0, none⟩) cap (j + 1) (n + 1) (w3.setCell ⟨g, j * 4 + 3, none⟩ (.int .i64 least)) := by
  have hd := (h.doc.below hb).setO (n := least) (part_at hm)
  refine ⟨?_, by rw [up_filter hm, h.num, if_pos hu], ?_⟩
  · have : upR t p least ⟨gr, t2, p2, z⟩ = ⟨gr, t2, p2, least⟩ := by unfold upR; rw [if_pos hu]; rfl
    rw [part_next hm, this]
    exact hd.1
  · exact (h.only.trans (S' := []) (Only.ofBelow hb) (fun q hq => by cases hq)).trans hd.2 (fun q hq => .inl (by simpa [bk, eq_comm] using hq))
set_option maxRecDepth 100000 in
set_option maxHeartbeats 4000000 in
theorem rraise_is {w : World} {B k cap : Nat} {A : Option Addr} {Q : List Mr} (t : ByteArray) (p least x : Int) (L : Nat) (h : Hid (Doc w B k A cap Q)) (hA : Hid (A = none → cap = 0)) (HL : Hid (Q.length = L)) (hl : L ≤ 1000000) (HX : Hid (raiseN Q t p least = x)) :
    Calls Try.prog 10 #[.pointer (some ⟨k, 0, none⟩), .agg #[.string t, .int .i64 p], .int .i64 least] w fun e w' => e = .returned (.int .i64 x) ∧ RTurn w B k A (raiseQ Q t p least) w' := by
  obtain ⟨W, hW⟩ : ∃ W, w.alloc (.cells #[.string t, .int .i64 p] 30) = W := ⟨_, rfl⟩
  have hbW : Below w.heap.size w W := by rw [← hW]; exact one_box' _
  have hr : W.heap[w.heap.size]? = some (.cells #[.string t, .int .i64 p] 30 (0, 0)) := by rw [← hW]; exact part_row w t p
  have HB0 : Hid (W.cell? ⟨w.heap.size, 0, none⟩ = some (.string t)) := Lib.hid ((cell_of_row _ _ 0 _ _ _ hr).trans rfl)
  have HB1 : Hid (W.cell? ⟨w.heap.size, 1, none⟩ = some (.int .i64 p)) := Lib.hid ((cell_of_row _ _ 1 _ _ _ hr).trans rfl)
  have HNA : Hid (w.heap.size ∉ bk A) := Lib.hid (fun e => by have := own_lt h.out.own _ e; omega)
  have HW := Lib.hid hW
  have HBW := Lib.hid hbW
  have HD := Lib.hid (h.out.below hbW)
  clear hW hbW hr h
  go_enter Try.func10, Try.ntmps10
  go_upto_region 1 with (fail)
  rw [HW.out]
  go_wp2_with fail
  go_loopw [7, 8] (fun nv i wr => ∃ j n : Nat, j ≤ L ∧ n ≤ j ∧ i = .int .i64 j ∧ nv = .int .i64 n ∧ Hid (RRGo W t p least Q B k A cap j n wr)) (fun _ i _ => L - (intOf i).toNat)
  case atStart => exact ⟨0, 0, Nat.zero_le _, Nat.le_refl _, rfl, rfl, Lib.hid ⟨by rw [part_zero]; exact HD.out, rfl, Only.refl _ _⟩⟩
  case round =>
    obtain ⟨j, n, hj, hn, rfl, rfl, HG⟩ := hrel
    have c0 := HG.out.doc.c0
    rw [part_len, HL.out] at c0
    have e0 := HG.out.only.cell HB0.out HNA.out
    have e1 := HG.out.only.cell HB1.out HNA.out
    by_cases hlt : j < L
    · obtain ⟨⟨g2, t2, p2, o2⟩, hst⟩ : ∃ st, Q[j]? = some st := ⟨Q[j]'(by rw [HL.out]; exact hlt), List.getElem?_eq_getElem _⟩
      obtain ⟨ga, rfl, -, -, hma, -⟩ := HG.out.doc.mark (part_at hst)
      obtain ⟨d0, d1, d2, d3⟩ := hma
      dsimp only at d0 d1 d2 d3
      have HST := Lib.hid hst
      have f3 : wr.frozen? ⟨ga, j * 4 + 3, none⟩ = false := HG.out.doc.own.frozenAt _
      have j0 : (0 : Int) ≤ (j : Int) := by omega
      have j1 : (j : Int) < (L : Int) := by omega
      clear hst
      have hways : (t2 ≠ t) ∨ (t2 = t ∧ p2 ≠ p) ∨ (t2 = t ∧ p2 = p ∧ ¬ o2 < least) ∨ (t2 = t ∧ p2 = p ∧ o2 < least ∧ ¬ least ≤ 1099511627776) ∨ (t2 = t ∧ p2 = p ∧ o2 < least ∧ least ≤ 1099511627776) := by
        by_cases a : t2 = t
        · by_cases b : p2 = p
          · by_cases c : o2 < least
            · by_cases d : least ≤ 1099511627776
              · exact .inr (.inr (.inr (.inr ⟨a, b, c, d⟩)))
              · exact .inr (.inr (.inr (.inl ⟨a, b, c, d⟩)))
            · exact .inr (.inr (.inl ⟨a, b, c⟩))
          · exact .inr (.inl ⟨a, b⟩)
        · exact .inl a
      rcases hways with ht | ⟨rfl, hp⟩ | ⟨rfl, rfl, ho⟩ | ⟨rfl, rfl, ho, hl2⟩ | ⟨rfl, rfl, ho, hl2⟩
      · have hu : upB t p least ⟨g2, t2, p2, o2⟩ = false := by unfold upB raiseB; simp [ht]
        have HN : Hid (∀ w3, Below wr.heap.size wr w3 → RRGo W t p least Q B k _ cap (j + 1) n w3) := Lib.hid (fun w3 hb => rr_off HG.out HST.out hu hb)
        have t0 : (t2.toList == t.toList) = false := bytes_off ht
        clear hu ht
        go_wp2_with fail
        go_quiet (fail)
        go_wp2_with fail
        go_roundw
        case rel => exact ⟨j + 1, n, by omega, by omega, by go_num, rfl, Lib.hid (HN.out _ (drewN_below (Below.refl _ _) _))⟩
        case measure => simp [intOf]; omega
      · have hu : upB t2 p least ⟨g2, t2, p2, o2⟩ = false := by unfold upB raiseB; simp [hp]
        have HN : Hid (∀ w3, Below wr.heap.size wr w3 → RRGo W t2 p least Q B k _ cap (j + 1) n w3) := Lib.hid (fun w3 hb => rr_off HG.out HST.out hu hb)
        have t0 : (p2 == p) = false := by simpa using hp
        clear hu hp
        go_wp2_with fail
        go_quiet (fail)
        go_wp2_with fail
        go_roundw
        case rel => exact ⟨j + 1, n, by omega, by omega, by go_num, rfl, Lib.hid (HN.out _ (drewN_below (Below.refl _ _) _))⟩
        case measure => simp [intOf]; omega
      · have hu : upB t2 p2 least ⟨g2, t2, p2, o2⟩ = false := by unfold upB raiseB; simp [ho]
        have HN : Hid (∀ w3, Below wr.heap.size wr w3 → RRGo W t2 p2 least Q B k _ cap (j + 1) n w3) := Lib.hid (fun w3 hb => rr_off HG.out HST.out hu hb)
        have t0 : decide (o2 < least) = false := decide_eq_false ho
        clear hu
        go_wp2_with fail
        go_quiet (fail)
        go_wp2_with fail
        go_roundw
        case rel => exact ⟨j + 1, n, by omega, by omega, by go_num, rfl, Lib.hid (HN.out _ (drewN_below (Below.refl _ _) _))⟩
        case measure => simp [intOf]; omega
      · have hu : upB t2 p2 least ⟨g2, t2, p2, o2⟩ = false := by unfold upB raiseB; simp [hl2]
        have HN : Hid (∀ w3, Below wr.heap.size wr w3 → RRGo W t2 p2 least Q B k _ cap (j + 1) n w3) := Lib.hid (fun w3 hb => rr_off HG.out HST.out hu hb)
        have t0 : decide (o2 < least) = true := decide_eq_true ho
        have t1 : decide (least ≤ 1099511627776) = false := decide_eq_false hl2
        clear hu
        go_wp2_with fail
        go_quiet (fail)
        go_wp2_with fail
        go_roundw
        case rel => exact ⟨j + 1, n, by omega, by omega, by go_num, rfl, Lib.hid (HN.out _ (drewN_below (Below.refl _ _) _))⟩
        case measure => simp [intOf]; omega
      · have hu : upB t2 p2 least ⟨g2, t2, p2, o2⟩ = true := by unfold upB raiseB; simp [ho, hl2]
        have HN : Hid (∀ w3, Below wr.heap.size wr w3 → RRGo W t2 p2 least Q B k _ cap (j + 1) (n + 1) (w3.setCell ⟨ga, j * 4 + 3, none⟩ (.int .i64 least))) := Lib.hid (fun w3 hb => rr_on HG.out HST.out hu hb)
        have t0 : decide (o2 < least) = true := decide_eq_true ho
        have t1 : decide (least ≤ 1099511627776) = true := decide_eq_true hl2
        have w1' : wrap64 ((n : Int) + 1) = ((n + 1 : Nat) : Int) := by simp only [wrap64]; omega
        clear hu
        go_wp2_with fail
        go_quiet (fail)
        go_wp2_with fail
        go_roundw
        case rel => exact ⟨j + 1, n + 1, by omega, by omega, by go_num, by go_num, Lib.hid (HN.out _ (drewN_below (Below.refl _ _) _))⟩
        case measure => simp [intOf]; omega
    · obtain rfl : j = L := by omega
      have hx : (n : Int) = x := by
        have := HG.out.num
        rw [List.take_of_length_le (by rw [HL.out]; exact Nat.le_refl _)] at this
        rw [← HX.out, raiseN_up, this]
      have HXX := Lib.hid hx
      clear hlt hx
      go_wp2_with fail
      go_ret
      refine ⟨congrArg (fun z => Ending.returned (.int .i64 z)) HXX.out, A, cap, ?_, hA.out, (Only.ofBelow HBW.out).trans HG.out.only (fun q hq => .inl (List.mem_cons_of_mem _ hq)), fun q hq => .inl hq⟩
      have := HG.out.doc
      rw [← HL.out, part_all] at this
      exact this
end Go.Proofs.Ytcpfihagcmadcaa.L12
