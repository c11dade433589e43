/-
  Contracts: Open.
-/
import Derived.Test.YtcmlopflandlgaaDdOpen
import Derived.Deep.DeepCutAuto
namespace Go.Proofs.Ytcmlopflandlgaa.L8
open Go.RowKit
open Go.Maps
open L3 L4

theorem num_wf {x : Int} (h0 : 0 ≤ x) (h1 : x ≤ 1099511627776) : (Lit.int .i64 x).wf = true := WalkArith.wf_i64 (by omega)
theorem Turned.same {w : World} {g cap b N : Nat} {A : Option Addr} {es : List Int} {ms : List Mk} (h : Tab w g A cap b N es ms) {w' : World} (hb : Below w.heap.size w w') : Turned w g A b N es ms w' :=
  ⟨A, cap, h.below hb, Only.ofBelow hb, fun _ hk => .inl hk⟩
theorem ranges_lt {w : World} {b r n : Nat} {D : DataW Value} {left : Lit → Bool} {cnt : Nat} (h : w.ranges Try.prog 72 rd b r n D left cnt) : b < w.heap.size := h.owns.lt
theorem key_is {x : Int × ByteArray × Int} {kl : Lit} (h : keyOf Try.prog 72 (kV x) = some kl) : ((Lit.int .i64 x.1).wf = true ∧ x.2.1.size ≤ maxLen ∧ (Lit.int .i64 x.2.2).wf = true) ∧ kl = kLit x.1 x.2.1 x.2.2 := by
  obtain ⟨⟨a, b, c⟩, e, hw, rfl⟩ := key_inv h
  obtain ⟨a', b', c'⟩ := x
  simp [kV] at e
  obtain ⟨rfl, rfl, rfl⟩ := e
  exact ⟨hw, rfl⟩
/-- while the map is gone over -/
structure Going (id : Int) (ms : List Mk) (b r N : Nat) (W : World) (left : Lit → Bool) (cnt : Nat) (D : DataW Value) (wr : World) : Prop where
  rg : wr.ranges Try.prog 72 rd b r N D left cnt
  rds : Rds wr D (stay id left ms)
  only : Only [b] W wr
theorem grown_did {w w' : World} {b : Nat} {es : Array MapEntry} {c : Nat} (hb : w.heap[b]? = some (.map es c)) (hg : w.grownBy w' (some b)) : ∀ (k : Nat) (cs : Array Value) (fr : Nat × Nat), w.heap[k]? = some (.cells cs 50 fr) → w'.heap[k]? = w.heap[k]? := fun k cs fr hk =>
  hg.block k (Array.getElem?_eq_some_iff.1 hk).1 (fun e => by injection e with e; subst e; rw [hb] at hk; cases hk)
theorem ranges_map {w : World} {b r n : Nat} {D : DataW Value} {left : Lit → Bool} {cnt : Nat} (h : w.ranges Try.prog 72 rd b r n D left cnt) : (∃ es c, w.heap[b]? = some (.map es c)) ∧ ∃ a b' c d, w.heap[r]? = some (.mapIter a b' c d) := by
  obtain ⟨es, clock, since, seen, c0, hb, _, _, _, hr, _⟩ := h
  exact ⟨⟨es, clock, hb⟩, ⟨_, _, _, _, hr⟩⟩
theorem iter_did {w w' : World} {r : Nat} {a b' c d} (hr : w.heap[r]? = some (.mapIter a b' c d)) (hg : w.grownBy w' (some r)) : ∀ (k : Nat) (cs : Array Value) (fr : Nat × Nat), w.heap[k]? = some (.cells cs 50 fr) → w'.heap[k]? = w.heap[k]? := fun k cs fr hk =>
  hg.block k (Array.getElem?_eq_some_iff.1 hk).1 (fun e => by injection e with e; subst e; rw [hr] at hk; cases hk)
theorem spot_box {w w' : World} {i p : Int} {t : ByteArray} (hb : Below (w.alloc (.cells #[.int .i64 i, .string t, .int .i64 p] 72)).heap.size (w.alloc (.cells #[.int .i64 i, .string t, .int .i64 p] 72)) w') :
    w'.cell? ⟨w.heap.size, 0, none⟩ = some (.int .i64 i) ∧ w'.cell? ⟨w.heap.size, 1, none⟩ = some (.string t) ∧ w'.cell? ⟨w.heap.size, 2, none⟩ = some (.int .i64 p) := by
  have h := (hb.block w.heap.size (by simp)).trans (heap_alloc_new w _)
  exact ⟨(cell_of_row _ _ 0 _ _ _ h).trans rfl, (cell_of_row _ _ 1 _ _ _ h).trans rfl, (cell_of_row _ _ 2 _ _ _ h).trans rfl⟩

/-- a table of which the map alone was turned -/
theorem Tab.onlyMap {w w' : World} {g cap b N N' : Nat} {A : Option Addr} {es : List Int} {ms ms' : List Mk} (h : Tab w g A cap b N es ms) (o : Only [b] w w') (hm : IsTab w' b N' ms') : Tab w' g A cap b N' es ms' :=
  ⟨(o.block g h.lt (by simpa using h.gb)).trans h.row, own_at h.own (fun k e => o.block k (h.own.lt k e).2 (by
    rw [blk_own] at e
    have := mem_bk.2 e
    simp; intro q; subst q; exact h.bA this)), hm⟩
set_option maxRecDepth 100000 in
set_option maxHeartbeats 4000000 in
theorem open_go {w : World} {g cap b N k : Nat} {es : List Int} {ms : List Mk} (id y : Int) (n j : Nat) (h : Hid (Tab w g (some ⟨k, 0, none⟩) cap b N es ms)) (hK : Hid (Keys ms)) (hn : Hid (es.length = n)) (hl : n ≤ 32) (hj : id = (j : Int) + 1) (j1 : (j : Int) < (n : Int)) (hy0 : 0 ≤ y) (hy1 : y < 1099511627776)
    (hc : w.cell? ⟨k, j, none⟩ = some (.int .i64 y)) (hf : w.frozen? ⟨k, j, none⟩ = false) :
    Calls Try.prog 9 #[.pointer (some ⟨g, 0, none⟩), .int .i64 id] w fun e w' => e = .returned (.tuple #[.int .i64 id, .int .i64 (y + 1), .int .i64 0]) ∧ Turned w g (some ⟨k, 0, none⟩) b N (es.set j (y + 1)) (ms.filter (fun m => decide (m.id ≠ id))) w' := by
  have c0 := h.out.c0
  have c1 := h.out.c1
  have HV : Hid (decide (1 ≤ id ∧ id ≤ es.length) = true) := Lib.hid (by rw [hn.out]; simp; omega)
  rw [hn.out] at c0
  have i0 : (id == 0) = false := by simpa using (by omega : id ≠ 0)
  have e1 : wrap64 (id - 1) = (j : Int) := by simp only [wrap64]; omega
  have e2 : id - 1 = (j : Int) := by omega
  have y0 : (y == 1099511627776) = false := by simpa using (by omega : y ≠ 1099511627776)
  have e3 : wrap64 (y + 1) = y + 1 := by simp only [wrap64]; omega
  have j0 : (0 : Int) ≤ (j : Int) := by omega
  have HI : Hid ((Lit.int .i64 id).wf = true) := Lib.hid (num_wf (by omega) (by omega))
  have HJ := Lib.hid hj
  clear hj
  go_enter Try.func9, Try.ntmps9
  go_upto_region 8 with (go_at_call 27; refine (there_is id true h HV).mono ?_; rintro e w' ⟨rfl, rfl⟩)
  obtain ⟨W, hW⟩ : ∃ W, w.setCell ⟨k, j, none⟩ (.int .i64 (y + 1)) = W := ⟨_, rfl⟩
  obtain ⟨hT, hO⟩ := h.out.setE j (y + 1)
  rw [hW] at hT hO ⊢
  have C1 := hT.c1
  obtain ⟨D, hown, hrd⟩ := hT.map.rds
  have HT := Lib.hid hT
  have HO := Lib.hid hO
  have HRD := Lib.hid hrd
  have HGB := Lib.hid hT.gb
  clear c0 c1 hc hf hW hT hO hrd
  go_wp2_with (at_range; refine wpList_range_own _ rfl _ 63 rfl 72 46 lawSpot Try.underlying63 _ b N D rfl hown ?_; intro w0 hrg0 hg0 hs0)
  go_frame
  have HRG0 := Lib.hid hrg0
  have HG0 := Lib.hid hg0
  clear C1 hown hrg0 hg0 hs0 i0 y0 e3
  go_loopw [7] (fun _ wr => ∃ (left : Lit → Bool) (cnt : Nat) (D' : DataW Value), Hid (Going id ms b W.heap.size N W left cnt D' wr)) (fun _ wr => wr.rangeLeft b W.heap.size)
  case atStart => exact ⟨_, _, D, Lib.hid ⟨HRG0.out, by rw [stay_start HRD.out]; exact HRD.out.kept (fun q cs fr hq => HG0.out.block q (Array.getElem?_eq_some_iff.1 hq).1 (by simp)), (Only.refl _ _).grown HG0.out (fun q e => by cases e)⟩⟩
  case round =>
    obtain ⟨left, cnt, D', HG⟩ := hrel
    have hrg := HG.out.rg
    go_wp2_with (at_next; refine wpList_next_ranges _ rfl _ rfl 72 lawSpot rd kV (fun x : Option Addr × Nat × Nat => .slice x.1 x.2.1 x.2.2) (fun key kl h => by obtain ⟨x, e, _⟩ := key_inv h; exact ⟨x, e⟩) (fun v y h => by obtain ⟨x, e, _⟩ := rd_inv h; exact ⟨x, e⟩) b W.heap.size N _ _ _ rfl hrg ?_ ?_)
    · intro _ hl0
      have HL0 := Lib.hid hl0
      have hTw : Tab wr g (some ⟨k, 0, none⟩) cap b N (es.set j (y + 1)) (ms.filter (fun m => decide (m.id ≠ id))) := by
        have r := HG.out.rds
        rw [stay_end hl0] at r
        exact HT.out.onlyMap HG.out.only (rds_tab hrg.owns r)
      have hOw : Only (blocks g (some ⟨k, 0, none⟩) b) w wr := HO.out.trans HG.out.only (fun q hq => .inl (by simp [blocks] at hq ⊢; exact .inr (.inl hq)))
      have q0 := hTw.c0
      have hlen : (es.set j (y + 1)).length = n := by rw [List.length_set]; exact hn.out
      rw [hlen] at q0
      obtain ⟨k', hk', _, _, _, q1, _⟩ := own_num hTw.own (i := j) (x := y + 1) (by rw [List.getElem?_set_self (by rw [hn.out]; omega)])
      obtain rfl : k' = k := by injection hk' with e; injection e with e _; exact e.symm
      have HTW := Lib.hid hTw
      have HOW := Lib.hid hOw
      clear hl0 hrg hTw hOw hlen hk'
      go_wp2_with fail
      go_quiet (fail)
      go_wp2_with fail
      go_ret3
      have hb : ∀ q, Below wr.heap.size wr (wr.drewN q) := fun q => drewN_below (Below.refl _ _) q
      exact ⟨rfl, some ⟨k', 0, none⟩, cap, HTW.out.below (hb _), HOW.out.trans (S' := []) (Only.ofBelow (hb _)) (fun q hq => by cases hq), fun q hq => .inl hq⟩
    · intro i t p A' n' c' kl yd yp w1 cnt1 hkey hlk hv hat hrg1 hlt hg1 hs1 hen
      obtain ⟨⟨hi, ht, hp⟩, rfl⟩ := key_is hkey
      dsimp only [kV] at hen hi ht hp ⊢
      dsimp only at hrg1
      obtain ⟨W2, hW2⟩ : ∃ W2, w1.alloc (.cells #[.int .i64 i, .string t, .int .i64 p] 72) = W2 := ⟨_, rfl⟩
      obtain ⟨d0, d1, d2⟩ : W2.cell? ⟨w1.heap.size, 0, none⟩ = some (.int .i64 i) ∧ W2.cell? ⟨w1.heap.size, 1, none⟩ = some (.string t) ∧ W2.cell? ⟨w1.heap.size, 2, none⟩ = some (.int .i64 p) := by
        rw [← hW2]; exact spot_box (Below.refl _ _)
      have hb2 : Below w1.heap.size w1 W2 := by rw [← hW2]; exact one_box' _
      have ho1 : Only [b] W w1 := HG.out.only.grown hg1 (fun q e => .inr (by injection e with e; omega))
      have ho2 : Only [b] W W2 := ho1.trans (S' := []) (Only.ofBelow hb2) (fun q hq => by cases hq)
      have hd2 : Rds W2 D' (stay id left ms) := by
        obtain ⟨_, a, b', c, d, hr⟩ := ranges_map hrg
        exact (HG.out.rds.kept (iter_did hr hg1)).kept (fun q cs fr hq => hb2.block q (Array.getElem?_eq_some_iff.1 hq).1)
      have hrg2 := ranges_below hrg1 hb2
      have c1 : W2.cell? ⟨g, 1, none⟩ = some (.map (some b)) := ho2.cell HT.out.c1 (by simpa using HGB.out)
      have HW2 := Lib.hid hW2
      have HO2 := Lib.hid ho2
      have HD2 := Lib.hid hd2
      have HR2 := Lib.hid hrg2
      have HLE : Hid (cnt1 < W2.rangeLeft b W.heap.size + 1 ∧ cnt1 < wr.rangeLeft b W.heap.size) := Lib.hid (by rw [hrg.left_eq, hrg2.left_eq]; omega)
      clear hkey hlk hv hat hrg1 hlt hg1 hs1 hb2 ho1 ho2 hd2 hrg2 hrg hW2
      by_cases hid : i = id
      · subst hid
        have t1 : (i == i) = true := by simp
        go_upto_region 12 with (fail)
        obtain ⟨U, hU⟩ := drop_run HR2.out hi ht hp
        have hb0 : ∀ q, Below W2.heap.size W2 (W2.drewN q) := fun q => drewN_below (Below.refl _ _) q
        have u1 := fun ty => (hU ty W2.drew (hb0 1)).1
        have u2 := fun ty => (hU ty W2.drew.drew (hb0 2)).1
        have u3 := fun ty => (hU ty W2.drew.drew.drew (hb0 3)).1
        have HU := Lib.hid hU
        rw [HW2.out]
        clear hU hb0 hen
        go_region
        have fin : ∀ ty W', Below W2.heap.size W2 W' → (∃ (left : Lit → Bool) (cnt : Nat) (D' : DataW Value), Hid (Going i ms b W.heap.size N W left cnt D' (U (ty, W')))) ∧ (U (ty, W')).rangeLeft b W.heap.size < wr.rangeLeft b W.heap.size := fun ty W' hb => by
          obtain ⟨_, ⟨cnt2, r2, l2⟩, mt⟩ := HU.out ty W' hb
          rw [strike_twice] at r2
          obtain ⟨⟨mes, mc, hm⟩, _⟩ := ranges_map (ranges_below HR2.out hb)
          refine ⟨⟨_, cnt2, _, Lib.hid ⟨r2, rds_del (((HD2.out.kept (fun q cs fr hq => hb.block q (Array.getElem?_eq_some_iff.1 hq).1))).kept (grown_did hm mt.grown)) hK.out hi ht hp, ?_⟩⟩, by rw [r2.left_eq]; have := HLE.out; omega⟩
          exact (HO2.out.trans (S' := []) (Only.ofBelow hb) (fun q hq => by cases hq)).grown mt.grown (fun q e => .inl (by injection e with e; simp [e]))
        go_roundw
        case rel => exact ⟨_, _, _, _, _, _, _, _, _, _, _, _, _, _, (fin _ _ (drewN_below (Below.refl _ _) 1)).1, rfl⟩
        case measure => first | exact (fin _ _ (drewN_below (Below.refl _ _) 1)).2 | exact (fin _ _ (drewN_below (Below.refl _ _) 2)).2 | exact (fin _ _ (drewN_below (Below.refl _ _) 3)).2
      · have t1 : (i == id) = false := by simpa using hid
        have HNE := Lib.hid hid
        clear hid
        go_wp2_with fail
        rw [HW2.out]
        go_roundw
        case rel => exact ⟨_, cnt1, D', Lib.hid ⟨HR2.out, by rw [stay_keeps hK.out hi ht hp HNE.out]; exact HD2.out, HO2.out⟩⟩
        case measure => rw [HR2.out.left_eq]; exact HLE.out.2
end Go.Proofs.Ytcmlopflandlgaa.L8
