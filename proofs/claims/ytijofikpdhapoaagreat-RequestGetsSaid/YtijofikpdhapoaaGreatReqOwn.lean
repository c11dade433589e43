/-
  Contracts: may a command be? The program's own.
-/
import Derived.Test.YtijofikpdhapoaaGreatReqTake
import Derived.Test.YtijofikpdhapoaaGreatReqTaker
import Derived.Test.YtijofikpdhapoaaGreatReqSameP
namespace Go.Proofs.YtijofikpdhapoaaGreat.L4
open Go.RowKit
open L3

set_option maxHeartbeats 4000000 in
theorem tvisit (o : O) (RA TA : Option Addr) (rc tc : Nat) (W0 : World) (P H : Nat) (hk : o.kind ≤ 12) (hPH : P ≠ H) (hP : W0.heap.size ≤ P) (hH : W0.heap.size ≤ H) (B : Nat) (hB : B ≤ W0.heap.size)
    (Z1 : Hid (o.topic.size ≤ maxLen)) (Z9 : Hid (o.group.size ≤ maxLen)) (Z10 : Hid (o.member.size ≤ maxLen)) (hR : Hid (Reads W0 B RA o.recs)) (hl : o.recs.length ≤ 20) (hs : Hid (∀ r ∈ o.recs, r.key.size ≤ maxLen ∧ r.val.size ≤ maxLen))
    (hT : Hid (ReadsT W0 B TA o.tops)) (ht : Hid (o.tops.length ≤ maxLen)) (hts : Hid (∀ s ∈ o.tops, s.size ≤ maxLen)) (w : World) (h : (takerV o RA TA rc tc W0 P H).Inv [] w) :
    Calls Tryz.prog 13 #[.iface 85 (.pointer (some ⟨P, 0, none⟩)), .agg #[.int .i64 o.kind, .string o.topic, .int .i64 o.pn, .int .i64 o.n, .int .i64 o.off, .int .i64 o.bp, .int .i64 o.be, .int .i64 o.bq, .slice RA o.recs.length rc, .string o.group, .string o.member, .int .i64 o.gen, .bool o.robin, .slice TA o.tops.length tc], .pointer (some ⟨H, 0, none⟩)] w ((takerV o RA TA rc tc W0 P H).post (hasK o.kind) w) := by
  have F : Fits (takerV o RA TA rc tc W0 P H) := taker_fits
  obtain ⟨k, hko⟩ : ∃ k, o.kind = k := ⟨_, rfl⟩
  rw [hko] at hk ⊢
  have hc : k = 0 ∨ k = 1 ∨ k = 2 ∨ k = 3 ∨ k = 4 ∨ k = 5 ∨ k = 6 ∨ k = 7 ∨ k = 8 ∨ k = 9 ∨ k = 10 ∨ k = 11 ∨ k = 12 := by omega
  rcases hc with rfl | rfl | rfl | rfl | rfl | rfl | rfl | rfl | rfl | rfl | rfl | rfl | rfl
  · exact Taker.visit_0 _ F P H _ _ _ _ _ _ _ _ _ _ _ _ _ w _ h (fun st w _ h => take_1 hPH hP hH Z1 st w h) (fun st w _ h => take_3 hPH hP hH st w h) trivial trivial
  · exact Taker.visit_1 _ F P H _ _ _ _ _ _ _ _ _ _ _ _ _ w _ h (fun st w _ h => take_3 hPH hP hH st w h) trivial
  · exact Taker.visit_2 _ F P H _ _ _ _ _ _ _ _ _ _ _ _ _ w _ h (fun st w _ h => take_1 hPH hP hH Z1 st w h) (fun st w _ h => take_2 hPH hP hH st w h) (fun st w _ h => take_5 hPH hP hH B hR hB hl hs st w h) trivial trivial trivial
  · exact Taker.visit_3 _ F P H _ _ _ _ _ _ _ _ _ _ _ _ _ w _ h (fun st w _ h => take_1 hPH hP hH Z1 st w h) (fun st w _ h => take_2 hPH hP hH st w h) (fun st w _ h => take_3 hPH hP hH st w h) (fun st w _ h => take_4 hPH hP hH st w h) trivial trivial trivial trivial
  · exact Taker.visit_4 _ F P H _ _ _ _ _ _ _ _ _ _ _ _ _ w _ h (fun st w _ h => take_1 hPH hP hH Z1 st w h) (fun st w _ h => take_2 hPH hP hH st w h) (fun st w _ h => take_4 hPH hP hH st w h) trivial trivial trivial
  · exact Taker.visit_5 _ F P H _ _ _ _ _ _ _ _ _ _ _ _ _ w _ h (fun st w _ h => take_1 hPH hP hH Z1 st w h) (fun st w _ h => take_2 hPH hP hH st w h) trivial trivial
  · exact Taker.visit_6 _ F P H _ _ _ _ _ _ _ _ _ _ _ _ _ w _ h (fun st w _ h => take_3 hPH hP hH st w h) (fun st w _ h => take_9 hPH hP hH Z9 st w h) (fun st w _ h => take_10 hPH hP hH Z10 st w h) (fun st w _ h => take_12 hPH hH st w h) (fun st w _ h => take_13 hPH hP hH B hT hB ht hts st w h) trivial trivial trivial trivial trivial
  · exact Taker.visit_7 _ F P H _ _ _ _ _ _ _ _ _ _ _ _ _ w _ h (fun st w _ h => take_9 hPH hP hH Z9 st w h) (fun st w _ h => take_10 hPH hP hH Z10 st w h) (fun st w _ h => take_11 hPH hP hH st w h) trivial trivial trivial
  · exact Taker.visit_8 _ F P H _ _ _ _ _ _ _ _ _ _ _ _ _ w _ h (fun st w _ h => take_9 hPH hP hH Z9 st w h) (fun st w _ h => take_10 hPH hP hH Z10 st w h) (fun st w _ h => take_11 hPH hP hH st w h) trivial trivial trivial
  · exact Taker.visit_9 _ F P H _ _ _ _ _ _ _ _ _ _ _ _ _ w _ h (fun st w _ h => take_9 hPH hP hH Z9 st w h) (fun st w _ h => take_10 hPH hP hH Z10 st w h) (fun st w _ h => take_11 hPH hP hH st w h) trivial trivial trivial
  · exact Taker.visit_10 _ F P H _ _ _ _ _ _ _ _ _ _ _ _ _ w _ h (fun st w _ h => take_1 hPH hP hH Z1 st w h) (fun st w _ h => take_2 hPH hP hH st w h) (fun st w _ h => take_4 hPH hP hH st w h) (fun st w _ h => take_9 hPH hP hH Z9 st w h) (fun st w _ h => take_10 hPH hP hH Z10 st w h) (fun st w _ h => take_11 hPH hP hH st w h) trivial trivial trivial trivial trivial trivial
  · exact Taker.visit_11 _ F P H _ _ _ _ _ _ _ _ _ _ _ _ _ w _ h (fun st w _ h => take_1 hPH hP hH Z1 st w h) (fun st w _ h => take_2 hPH hP hH st w h) (fun st w _ h => take_9 hPH hP hH Z9 st w h) trivial trivial trivial
  · exact Taker.visit_12 _ F P H _ _ _ _ _ _ _ _ _ _ _ _ _ w _ h (fun st w _ h => take_3 hPH hP hH st w h) trivial

theorem pick_recs (ks : List Nat) (k : Nat) (A : Option Addr) (l : List R) (cap : Nat) : ∃ A' cap', pickV ks k (.slice A l.length cap) = .slice A' (pickL ks k l).length cap' ∧ ∀ w B, Reads w B A l → Reads w B A' (pickL ks k l) := by
  by_cases h : k ∈ ks
  · exact ⟨A, cap, by simp [pickV, pickL, h], fun w B hr => by simpa [pickL, h] using hr⟩
  · exact ⟨none, 0, by simp [pickV, pickL, h], fun w B hr h0 => by simp [pickL, h] at h0⟩
theorem pick_tops (ks : List Nat) (k : Nat) (A : Option Addr) (l : List ByteArray) (cap : Nat) : ∃ A' cap', pickV ks k (.slice A l.length cap) = .slice A' (pickL ks k l).length cap' ∧ ∀ w B, ReadsT w B A l → ReadsT w B A' (pickL ks k l) := by
  by_cases h : k ∈ ks
  · exact ⟨A, cap, by simp [pickV, pickL, h], fun w B hr => by simpa [pickL, h] using hr⟩
  · exact ⟨none, 0, by simp [pickV, pickL, h], fun w B hr h0 => by simp [pickL, h] at h0⟩
theorem row_cell {w : World} {g j : Nat} {cs : Array Value} {t : TypeId} {v : Value} (hg : w.heap[g]? = some (.cells cs t (0, 0))) (hv : cs[j]? = some v) : w.cell? ⟨g, j, none⟩ = some v := (cell_of_row w g j cs t _ hg).trans hv


def AllIff (b : Bool) (o : O) (ks : List Nat) : Prop := b = true ↔ o.all ks
theorem check_inv (o : O) (RA TA : Option Addr) (rc tc : Nat) (w : World) : (takerV o RA TA rc tc w (w.heap.size + 1) (w.heap.size + 1 + 1)).Inv [] (((w.alloc (.cells #[.int .i64 o.kind, .string o.topic, .int .i64 o.pn, .int .i64 o.n, .int .i64 o.off, .int .i64 o.bp, .int .i64 o.be, .int .i64 o.bq, .slice RA o.recs.length rc, .string o.group, .string o.member, .int .i64 o.gen, .bool o.robin, .slice TA o.tops.length tc] 29 (0, 0))).alloc (.cells #[.bool false, .bool false, .int .i64 0] 84 (0, 0))).alloc (.cells #[.int .i64 o.kind, .string ⟨#[]⟩, .int .i64 0, .int .i64 0, .int .i64 0, .int .i64 0, .int .i64 0, .int .i64 0, .slice none 0 0, .string ⟨#[]⟩, .string ⟨#[]⟩, .int .i64 0, .bool false, .slice none 0 0] 29 (0, 0))) := by
  refine ⟨(heap_alloc3_1 w _ _ _).trans ?_, (heap_alloc3_2 w _ _ _).trans ?_, below3⟩
  · simp [takeRow, noForm, noNum, noBat]
  · simp [hasRow, pickS, pickI, pickB, pickV]


set_option maxRecDepth 100000 in
set_option maxHeartbeats 16000000 in
theorem check_in (o : O) (RA TA : Option Addr) (rc tc : Nat) (hk : o.kind ≤ 12) (B : Nat) (w : World) (hB : B ≤ w.heap.size)
    (Z1 : Hid (o.topic.size ≤ maxLen)) (Z9 : Hid (o.group.size ≤ maxLen)) (Z10 : Hid (o.member.size ≤ maxLen)) (hR : Hid (Reads w B RA o.recs)) (hl : o.recs.length ≤ 20) (hs : Hid (∀ r ∈ o.recs, r.key.size ≤ maxLen ∧ r.val.size ≤ maxLen))
    (hT : Hid (ReadsT w B TA o.tops)) (ht : Hid (o.tops.length ≤ maxLen)) (hts : Hid (∀ s ∈ o.tops, s.size ≤ maxLen)) :
    Calls Tryz.prog 15 #[.agg #[.int .i64 o.kind, .string o.topic, .int .i64 o.pn, .int .i64 o.n, .int .i64 o.off, .int .i64 o.bp, .int .i64 o.be, .int .i64 o.bq, .slice RA o.recs.length rc, .string o.group, .string o.member, .int .i64 o.gen, .bool o.robin, .slice TA o.tops.length tc]] w fun e w' => e = .returned (.int .i64 o.chk) ∧ Below w.heap.size w w' := by
  obtain ⟨ks, hks⟩ : ∃ ks, hasK o.kind = ks := ⟨_, rfl⟩
  obtain ⟨RA', rc', q1, hRR⟩ := pick_recs ks 5 RA o.recs rc
  obtain ⟨TA', tc', q2, hTT⟩ := pick_tops ks 13 TA o.tops tc
  obtain ⟨v1, e1⟩ : ∃ v, noForm o ks = v := ⟨_, rfl⟩
  obtain ⟨v2, e2⟩ : ∃ v, noNum o ks = v := ⟨_, rfl⟩
  obtain ⟨v3, e3⟩ : ∃ v, noBat o ks = v := ⟨_, rfl⟩
  obtain ⟨b, hb⟩ : ∃ b : Bool, b = true ↔ o.all ks := ⟨@decide (o.all ks) (Classical.propDecidable _), by simp⟩
  have hck := chk_kind o hk b (by rw [hks]; exact hb)
  rw [hks, e1, e2, e3] at hck
  have HCK := Lib.hid hck
  have HSAME : Hid (AllIff b o ks) := Lib.hid hb
  have EK := Lib.hid hks
  have EQ1 := Lib.hid q1
  have EQ2 := Lib.hid q2
  have E1 := Lib.hid e1
  have E2 := Lib.hid e2
  have E3 := Lib.hid e3
  have hRR := Lib.hid hRR
  have hTT := Lib.hid hTT
  have HRL : Hid (o.recs.length ≤ maxLen) := Lib.hid (by unfold maxLen; omega)
  clear hks q1 q2 e1 e2 e3 hb hck
  have g0 : ¬ (o.kind : Int) < 0 := by omega
  have g1 : ¬ (13 : Int) ≤ (o.kind : Int) := by omega
  cases v1 with
  | true =>
    go_enter Tryz.func15, Tryz.ntmps15
    go_wp2_with (go_at_call 13; refine (tvisit o RA TA rc tc w (w.heap.size + 1) (w.heap.size + 1 + 1) hk (by omega) (by omega) (by omega) B hB Z1 Z9 Z10 hR hl hs hT ht hts _ (check_inv o RA TA rc tc w)).mono ?_; rintro e w1 ⟨rfl, hI, hkp⟩; have rB := (hkp.2 w.heap.size (by simp; omega) (by intro q; rcases q with q | q <;> omega)).1.trans (heap_alloc3_0 w _ _ _); have rP : w1.heap[w.heap.size + 1]? = _ := hI.1; have rH : w1.heap[w.heap.size + 1 + 1]? = _ := hI.2.1; have HB1 : Hid (Below w.heap.size w w1) := Lib.hid hI.2.2; clear hI hkp; simp only [takeRow, hasRow, EK.out, EQ1.out, EQ2.out, E1.out, E2.out, E3.out] at rP rH; have x0 := row_cell (j := 0) rB rfl; have x1 := row_cell (j := 1) rB rfl; have x2 := row_cell (j := 2) rB rfl; have x3 := row_cell (j := 3) rB rfl; have x4 := row_cell (j := 4) rB rfl; have x5 := row_cell (j := 5) rB rfl; have x6 := row_cell (j := 6) rB rfl; have x7 := row_cell (j := 7) rB rfl; have x8 := row_cell (j := 8) rB rfl; have x9 := row_cell (j := 9) rB rfl; have x10 := row_cell (j := 10) rB rfl; have x11 := row_cell (j := 11) rB rfl; have x12 := row_cell (j := 12) rB rfl; have x13 := row_cell (j := 13) rB rfl; have y0 := row_cell (j := 0) rH rfl;  have y1 := row_cell (j := 1) rH rfl;  have y2 := row_cell (j := 2) rH rfl;  have y3 := row_cell (j := 3) rH rfl;  have y4 := row_cell (j := 4) rH rfl;  have y5 := row_cell (j := 5) rH rfl;  have y6 := row_cell (j := 6) rH rfl;  have y7 := row_cell (j := 7) rH rfl;  have y8 := row_cell (j := 8) rH rfl;  have y9 := row_cell (j := 9) rH rfl;  have y10 := row_cell (j := 10) rH rfl;  have y11 := row_cell (j := 11) rH rfl;  have y12 := row_cell (j := 12) rH rfl;  have y13 := row_cell (j := 13) rH rfl; have t0 := row_cell (j := 0) rP rfl; have t1 := row_cell (j := 1) rP rfl; have t2 := row_cell (j := 2) rP rfl; have RP := Lib.hid rP; clear rB rP rH)
    go_ret
    exact ⟨congrArg Ending.returned (congrArg (Value.int .i64) (Eq.trans (by simp) HCK.out)), HB1.out⟩
  | false =>
    cases b with
    | false =>
      go_enter Tryz.func15, Tryz.ntmps15
      go_wp2_with (first | (go_at_call 13; refine (tvisit o RA TA rc tc w (w.heap.size + 1) (w.heap.size + 1 + 1) hk (by omega) (by omega) (by omega) B hB Z1 Z9 Z10 hR hl hs hT ht hts _ (check_inv o RA TA rc tc w)).mono ?_; rintro e w1 ⟨rfl, hI, hkp⟩; have rB := (hkp.2 w.heap.size (by simp; omega) (by intro q; rcases q with q | q <;> omega)).1.trans (heap_alloc3_0 w _ _ _); have rP : w1.heap[w.heap.size + 1]? = _ := hI.1; have rH : w1.heap[w.heap.size + 1 + 1]? = _ := hI.2.1; have HB1 : Hid (Below w.heap.size w w1) := Lib.hid hI.2.2; clear hI hkp; simp only [takeRow, hasRow, EK.out, EQ1.out, EQ2.out, E1.out, E2.out, E3.out] at rP rH; have x0 := row_cell (j := 0) rB rfl; have x1 := row_cell (j := 1) rB rfl; have x2 := row_cell (j := 2) rB rfl; have x3 := row_cell (j := 3) rB rfl; have x4 := row_cell (j := 4) rB rfl; have x5 := row_cell (j := 5) rB rfl; have x6 := row_cell (j := 6) rB rfl; have x7 := row_cell (j := 7) rB rfl; have x8 := row_cell (j := 8) rB rfl; have x9 := row_cell (j := 9) rB rfl; have x10 := row_cell (j := 10) rB rfl; have x11 := row_cell (j := 11) rB rfl; have x12 := row_cell (j := 12) rB rfl; have x13 := row_cell (j := 13) rB rfl; have y0 := row_cell (j := 0) rH rfl;  have y1 := row_cell (j := 1) rH rfl;  have y2 := row_cell (j := 2) rH rfl;  have y3 := row_cell (j := 3) rH rfl;  have y4 := row_cell (j := 4) rH rfl;  have y5 := row_cell (j := 5) rH rfl;  have y6 := row_cell (j := 6) rH rfl;  have y7 := row_cell (j := 7) rH rfl;  have y8 := row_cell (j := 8) rH rfl;  have y9 := row_cell (j := 9) rH rfl;  have y10 := row_cell (j := 10) rH rfl;  have y11 := row_cell (j := 11) rH rfl;  have y12 := row_cell (j := 12) rH rfl;  have y13 := row_cell (j := 13) rH rfl; have t0 := row_cell (j := 0) rP rfl; have t1 := row_cell (j := 1) rP rfl; have t2 := row_cell (j := 2) rP rfl; have RP := Lib.hid rP; clear rB rP rH) | (go_at_call 23; refine (same_is _ _ _ _ _ _ _ _ _ _ _ _ _ _ _ _ _ _ _ _ _ _ _ _ _ _ _ _ _ _ _ _ _ _ _ _ B _ _ (Lib.hid (hR.out.below (HB1.out.mono hB))) (Lib.hid (hRR.out _ _ (hR.out.below (HB1.out.mono hB)))) (Lib.hid (hT.out.below (HB1.out.mono hB))) (Lib.hid (hTT.out _ _ (hT.out.below (HB1.out.mono hB)))) (Nat.le_trans hB HB1.out.size) HRL.out ht.out (Lib.hid ((show _ ↔ _ from HSAME.out).trans ⟨fun h => ⟨rfl, h⟩, fun h => h.2⟩))).mono ?_; rintro e w2 ⟨rfl, hb2⟩; have HB2 := Lib.hid (acc HB1.out hb2); have RP2 := row_keep RP.out hb2; have u1 := row_cell (j := 1) RP2 rfl; have u2 := row_cell (j := 2) RP2 rfl; clear RP2))
      go_ret
      exact ⟨congrArg Ending.returned (congrArg (Value.int .i64) (Eq.trans (by simp) HCK.out)), HB2.out⟩
    | true =>
      cases v2
      all_goals
        go_enter Tryz.func15, Tryz.ntmps15
        go_wp2_with (first | (go_at_call 13; refine (tvisit o RA TA rc tc w (w.heap.size + 1) (w.heap.size + 1 + 1) hk (by omega) (by omega) (by omega) B hB Z1 Z9 Z10 hR hl hs hT ht hts _ (check_inv o RA TA rc tc w)).mono ?_; rintro e w1 ⟨rfl, hI, hkp⟩; have rB := (hkp.2 w.heap.size (by simp; omega) (by intro q; rcases q with q | q <;> omega)).1.trans (heap_alloc3_0 w _ _ _); have rP : w1.heap[w.heap.size + 1]? = _ := hI.1; have rH : w1.heap[w.heap.size + 1 + 1]? = _ := hI.2.1; have HB1 : Hid (Below w.heap.size w w1) := Lib.hid hI.2.2; clear hI hkp; simp only [takeRow, hasRow, EK.out, EQ1.out, EQ2.out, E1.out, E2.out, E3.out] at rP rH; have x0 := row_cell (j := 0) rB rfl; have x1 := row_cell (j := 1) rB rfl; have x2 := row_cell (j := 2) rB rfl; have x3 := row_cell (j := 3) rB rfl; have x4 := row_cell (j := 4) rB rfl; have x5 := row_cell (j := 5) rB rfl; have x6 := row_cell (j := 6) rB rfl; have x7 := row_cell (j := 7) rB rfl; have x8 := row_cell (j := 8) rB rfl; have x9 := row_cell (j := 9) rB rfl; have x10 := row_cell (j := 10) rB rfl; have x11 := row_cell (j := 11) rB rfl; have x12 := row_cell (j := 12) rB rfl; have x13 := row_cell (j := 13) rB rfl; have y0 := row_cell (j := 0) rH rfl;  have y1 := row_cell (j := 1) rH rfl;  have y2 := row_cell (j := 2) rH rfl;  have y3 := row_cell (j := 3) rH rfl;  have y4 := row_cell (j := 4) rH rfl;  have y5 := row_cell (j := 5) rH rfl;  have y6 := row_cell (j := 6) rH rfl;  have y7 := row_cell (j := 7) rH rfl;  have y8 := row_cell (j := 8) rH rfl;  have y9 := row_cell (j := 9) rH rfl;  have y10 := row_cell (j := 10) rH rfl;  have y11 := row_cell (j := 11) rH rfl;  have y12 := row_cell (j := 12) rH rfl;  have y13 := row_cell (j := 13) rH rfl; have t0 := row_cell (j := 0) rP rfl; have t1 := row_cell (j := 1) rP rfl; have t2 := row_cell (j := 2) rP rfl; have RP := Lib.hid rP; clear rB rP rH) | (go_at_call 23; refine (same_is _ _ _ _ _ _ _ _ _ _ _ _ _ _ _ _ _ _ _ _ _ _ _ _ _ _ _ _ _ _ _ _ _ _ _ _ B _ _ (Lib.hid (hR.out.below (HB1.out.mono hB))) (Lib.hid (hRR.out _ _ (hR.out.below (HB1.out.mono hB)))) (Lib.hid (hT.out.below (HB1.out.mono hB))) (Lib.hid (hTT.out _ _ (hT.out.below (HB1.out.mono hB)))) (Nat.le_trans hB HB1.out.size) HRL.out ht.out (Lib.hid ((show _ ↔ _ from HSAME.out).trans ⟨fun h => ⟨rfl, h⟩, fun h => h.2⟩))).mono ?_; rintro e w2 ⟨rfl, hb2⟩; have HB2 := Lib.hid (acc HB1.out hb2); have RP2 := row_keep RP.out hb2; have u1 := row_cell (j := 1) RP2 rfl; have u2 := row_cell (j := 2) RP2 rfl; clear RP2))
        go_ret
        exact ⟨congrArg Ending.returned (congrArg (Value.int .i64) (Eq.trans (by simp) HCK.out)), HB2.out⟩

theorem check_bad (kind : Int) (a1 a2 a3 a4 a5 a6 a7 a8 a9 a10 a11 a12 a13 : Value) (w : World) (hk : kind < 0 ∨ 12 < kind) :
    Calls Tryz.prog 15 #[.agg #[.int .i64 kind, a1, a2, a3, a4, a5, a6, a7, a8, a9, a10, a11, a12, a13]] w fun e w' => e = .returned (.int .i64 41) ∧ Below w.heap.size w w' := by
  have hc : kind < 0 ∨ (¬ kind < 0 ∧ (13 : Int) ≤ kind) := by omega
  clear hk
  rcases hc with c1 | ⟨c1, c2⟩
  all_goals
    go_enter Tryz.func15, Tryz.ntmps15
    go_wp2_with fail
    go_ret
    exact ⟨rfl, one_box _⟩
theorem rcheck_bad (kind : Int) (a1 a2 a3 a4 a5 a6 a7 a8 a9 a10 a11 a12 a13 : Value) (w : World) (hk : kind < 0 ∨ 12 < kind) :
    Calls Tryz.prog 28 #[.agg #[.int .i64 kind, a1, a2, a3, a4, a5, a6, a7, a8, a9, a10, a11, a12, a13]] w fun e w' => e = .returned (.int .i64 41) ∧ Below w.heap.size w w' := by
  have hc : kind < 0 ∨ (¬ kind < 0 ∧ (12 : Int) < kind) := by omega
  clear hk
  rcases hc with c1 | ⟨c1, c2⟩
  all_goals
    go_enter Tryz.func28, Tryz.ntmps28
    go_wp2_with fail
    go_ret
    exact ⟨rfl, one_box _⟩


end Go.Proofs.YtijofikpdhapoaaGreat.L4
