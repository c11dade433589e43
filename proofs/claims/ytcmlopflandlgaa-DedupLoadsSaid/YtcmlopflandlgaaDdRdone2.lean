/-
  The document's Done, whatever is handed in.
-/
import Derived.Test.YtcmlopflandlgaaDdRdone
namespace Go.Proofs.Ytcmlopflandlgaa.L8
open Go.RowKit
open Go.Maps
open L3 L4

set_option maxRecDepth 100000 in
set_option maxHeartbeats 4000000 in
theorem rdone_is {B : Nat} {w : World} {k cE cL m : Nat} {AE AL : Option Addr} {es : List Int} {vs : List MV} (t : ByteArray) (p pr ep sq off x : Int) (R : Option Addr) (n rc : Nat) (h : Hid (RT B w k AE cE AL cL es vs)) (HB : Hid (B ≤ w.heap.size)) (hm : Hid (vs.length = m)) (hml : m ≤ 100000) (G : Hid (Good es (vs.map (·.m)))) (ht : t.size ≤ maxLen) (hp : Hid ((Lit.int .i64 p).wf = true))
    (HX : Hid (doneE es (vs.map (·.m)) t p pr ep sq n off = x)) :
    Calls Try.prog 14 #[.pointer (some ⟨k, 0, none⟩), .agg #[.string t, .int .i64 p], .agg #[.int .i64 pr, .int .i64 ep, .int .i64 sq, .slice R n rc], .int .i64 off] w fun e w' => e = .returned (.int .i64 x) ∧ RTurned w B k AE AL es (doneM es (vs.map (·.m)) t p pr ep sq n off) w' := by
  obtain ⟨W, hW⟩ : ∃ W, (w.alloc (.cells #[.string t, .int .i64 p] 31)).alloc (.cells #[.int .i64 pr, .int .i64 ep, .int .i64 sq, .slice R n rc] 34) = W := ⟨_, rfl⟩
  have HW := Lib.hid hW
  obtain ⟨hbW, _⟩ := done_boxes hW (Below.refl _ _)
  have HT := Lib.hid (h.out.below hbW)
  clear hW hbW
  obtain ⟨⟨ax, av, ae⟩, ha⟩ : ∃ q, askP es (vs.map (·.m)) t p pr ep sq n = q := ⟨_, rfl⟩
  have HA := Lib.hid ha
  have hx := HX.out
  unfold doneE at hx
  rw [ha] at hx
  dsimp only at hx
  have same : x ≠ 0 ∨ pr = 0 → Hid (doneM es (vs.map (·.m)) t p pr ep sq n off = vs.map (·.m)) := fun q => Lib.hid (by unfold doneM; rw [HX.out, if_pos q])
  have fin : ∀ w', Below w.heap.size w w' → RTurned w B k AE AL es (vs.map (·.m)) w' := fun w' hb => RTurned.same h.out hb
  by_cases h1 : ae = 0
  · subst h1
    rw [if_neg (by simp)] at hx
    cases av with
    | true =>
      rw [if_pos rfl] at hx
      subst hx
      rw [(same (.inl (by decide))).out]
      clear ha same
      go_enter Try.func14, Try.ntmps14
      go_wp2_with (go_at_call 12; rw [HW.out]; refine (rask_is t p pr ep sq ax 0 true R n rc HT hm (by omega) G ht hp HA).mono ?_; rintro e w1 ⟨rfl, hb1⟩; obtain ⟨B1, ⟨k0, k1⟩, k2, k3, k4⟩ := done_boxes HW.out hb1; have HB1 := Lib.hid B1; clear hb1 B1)
      go_ret
      exact ⟨rfl, fin _ HB1.out⟩
    | false =>
      rw [if_neg (by simp)] at hx
      by_cases h2 : n = 0 ∨ numB8 off = false
      · rw [if_pos h2] at hx
        subst hx
        rw [(same (.inl (by decide))).out]
        rcases Nat.eq_zero_or_pos n with h3 | h3
        · subst h3
          clear ha same h2
          go_enter Try.func14, Try.ntmps14
          go_wp2_with (go_at_call 12; rw [HW.out]; refine (rask_is t p pr ep sq ax 0 false R 0 rc HT hm (by omega) G ht hp HA).mono ?_; rintro e w1 ⟨rfl, hb1⟩; obtain ⟨B1, ⟨k0, k1⟩, k2, k3, k4⟩ := done_boxes HW.out hb1; have HB1 := Lib.hid B1; clear hb1 B1)
          go_ret
          exact ⟨rfl, fin _ HB1.out⟩
        · have n0 : ((n : Int) == 0) = false := by simpa using (by omega : (n : Int) ≠ 0)
          have HF : Hid (numB8 off = false) := Lib.hid (h2.resolve_left (by omega))
          clear ha same h2
          go_enter Try.func14, Try.ntmps14
          go_wp2_with (first
            | (go_at_call 12; rw [HW.out]; refine (rask_is t p pr ep sq ax 0 false R n rc HT hm (by omega) G ht hp HA).mono ?_; rintro e w1 ⟨rfl, hb1⟩; obtain ⟨B1, ⟨k0, k1⟩, k2, k3, k4⟩ := done_boxes HW.out hb1; have HB1 := Lib.hid B1; clear hb1 B1)
            | (go_at_call 34; refine (num8_is off false _ HF).mono ?_; rintro e w2 ⟨rfl, rfl⟩))
          go_ret
          exact ⟨rfl, fin _ HB1.out⟩
      · rw [if_neg h2] at hx
        subst hx
        have h3 : 0 < n := by omega
        have h4 : numB8 off = true := by cases q : numB8 off; exact absurd (.inr q) h2; rfl
        by_cases h5 : pr = 0
        · rw [(same (.inr h5)).out]
          subst h5
          have n0 : ((n : Int) == 0) = false := by simpa using (by omega : (n : Int) ≠ 0)
          have HF := Lib.hid h4
          clear ha same h2 h4
          go_enter Try.func14, Try.ntmps14
          go_wp2_with (first
            | (go_at_call 12; rw [HW.out]; refine (rask_is t p 0 ep sq ax 0 false R n rc HT hm (by omega) G ht hp HA).mono ?_; rintro e w1 ⟨rfl, hb1⟩; obtain ⟨B1, ⟨k0, k1⟩, k2, k3, k4⟩ := done_boxes HW.out hb1; have HB1 := Lib.hid B1; clear hb1 B1)
            | (go_at_call 34; refine (num8_is off true _ HF).mono ?_; rintro e w2 ⟨rfl, rfl⟩))
          go_ret
          exact ⟨rfl, fin _ HB1.out⟩
        · have hz := ask_zero (es := es) (ms := vs.map (·.m)) (t := t) (p := p) (pr := pr) (ep := ep) (sq := sq) (n := n) (by rw [ha]) h5
          have hlen := G.out.len
          obtain rfl : ax = 0 := ask_zero_x ha
          have hM : doneM es (vs.map (·.m)) t p pr ep sq n off = putM ⟨pr, ep, t, p, push (lastOf (vs.map (·.m)) pr t p) ⟨sq, n, off⟩⟩ false (vs.map (·.m)) := by
            unfold doneM; rw [if_neg (by rw [HX.out]; simp [h5])]
          rw [hM]
          exact rdone_put t p pr ep sq off R n rc _ _ _ _ h HB hm hml G ht hp (Lib.hid ⟨hz.1, by omega⟩) HA h3 (Lib.hid h4) (Lib.hid rfl) (Lib.hid rfl) (Lib.hid rfl) (Lib.hid rfl)
  · rw [if_pos h1] at hx
    subst hx
    rw [(same (.inl h1)).out]
    have e0 : (ae != 0) = true := by simpa using h1
    clear ha same h1
    go_enter Try.func14, Try.ntmps14
    go_wp2_with (go_at_call 12; rw [HW.out]; refine (rask_is t p pr ep sq ax ae av R n rc HT hm (by omega) G ht hp HA).mono ?_; rintro e w1 ⟨rfl, hb1⟩; obtain ⟨B1, ⟨k0, k1⟩, k2, k3, k4⟩ := done_boxes HW.out hb1; have HB1 := Lib.hid B1; clear hb1 B1)
    go_ret
    exact ⟨rfl, fin _ HB1.out⟩
end Go.Proofs.Ytcmlopflandlgaa.L8
