/-
  Contracts: Put, Behind.
-/
import Derived.Test.YtcpfihagcmadcaaOfSmall
namespace Go.Proofs.Ytcpfihagcmadcaa.L12
open Go.RowKit
open Go.Maps
open L3 L4

/-- behind a turn of a table's map -/
def TurnP (w : World) (g b N : Nat) (Q : List Mr) (w' : World) : Prop := ∃ N', N' ≤ N + 1 ∧ Tab w' g b N' Q ∧ Only [b] w w'
set_option maxRecDepth 100000 in
set_option maxHeartbeats 2000000 in
theorem put_is {w : World} {g b N : Nat} {Q : List Mr} (gr t : ByteArray) (p o x : Int) (h : Hid (Tab w g b N Q)) (G : Hid (Good Q)) (hN : N ≤ 1000000) (hg : Hid (gr.size ≤ maxLen)) (ht : Hid (t.size ≤ maxLen)) (hp : Hid ((Lit.int .i64 p).wf = true)) (HX : Hid (putE Q ⟨gr, t, p, o⟩ = x)) :
    Calls Try.prog 7 #[.pointer (some ⟨g, 0, none⟩), .agg #[.string gr, .string t, .int .i64 p, .int .i64 o]] w fun e w' => e = .returned (.int .i64 x) ∧ TurnP w g b N (putQ Q ⟨gr, t, p, o⟩) w' := by
  obtain ⟨W, hW⟩ : ∃ W, w.alloc (.cells #[.string gr, .string t, .int .i64 p, .int .i64 o] 32) = W := ⟨_, rfl⟩
  have hbW : Below w.heap.size w W := by rw [← hW]; exact one_box' _
  have hr : W.heap[w.heap.size]? = some (.cells #[.string gr, .string t, .int .i64 p, .int .i64 o] 32 (0, 0)) := by rw [← hW]; exact box_row w gr t p o
  obtain ⟨b0, b1, b2, b3⟩ := row4 hr
  have HW := Lib.hid hW
  have HBW := Lib.hid hbW
  clear hW hbW hr
  cases hm : mayR ⟨gr, t, p, o⟩ with
  | false =>
    have HM := Lib.hid hm
    have e1 : putE Q ⟨gr, t, p, o⟩ = 1 := by unfold putE; rw [if_pos hm]
    obtain rfl : x = 1 := HX.out.symm.trans e1
    have e2 : putQ Q ⟨gr, t, p, o⟩ = Q := by unfold putQ; rw [e1]; rfl
    rw [e2]
    clear hm e1 e2 HX
    go_enter Try.func7, Try.ntmps7
    go_wp2_with (go_at_call 23; rw [HW.out]; refine (fits_is gr t p o false _ hg ht HM).mono ?_; rintro e w1 ⟨rfl, hb1⟩; have HB1 := Lib.hid hb1; clear hb1)
    go_ret
    have q := HBW.out.trans (HB1.out.mono HBW.out.size)
    exact ⟨rfl, N, Nat.le_succ _, h.out.below q, Only.ofBelow q⟩
  | true =>
    have HM := Lib.hid hm
    have hf := may_fit hm
    dsimp only at hf
    have hwf := fit_wf hm
    dsimp only at hwf
    have HWF := Lib.hid hwf
    have gz : gr.size ≤ 281474976710656 := by omega
    have tz : t.size ≤ 281474976710656 := by omega
    have HT1 := Lib.hid (h.out.below HBW.out)
    obtain ⟨y, hy⟩ : ∃ y, atR Q gr t p = y := ⟨_, rfl⟩
    obtain ⟨v, hv⟩ : ∃ v, isR Q gr t p = v := ⟨_, rfl⟩
    have HY := Lib.hid hy
    have HV := Lib.hid hv
    have e0 : putE Q ⟨gr, t, p, o⟩ = if v = true ∧ o < y then 120 else 0 := by unfold putE; rw [if_neg (by rw [hm]; simp)]; dsimp only; rw [hy, hv]
    by_cases hback : v = true ∧ o < y
    · obtain ⟨rfl, ho⟩ := hback
      rw [if_pos ⟨rfl, ho⟩] at e0
      obtain rfl : x = 120 := HX.out.symm.trans e0
      have e2 : putQ Q ⟨gr, t, p, o⟩ = Q := by unfold putQ; rw [e0]; rfl
      rw [e2]
      have o1 : y > o := ho
      clear hm e0 e2 HX hf hwf gz tz hy hv ho
      go_enter Try.func7, Try.ntmps7
      go_wp2_with (first
        | (go_at_call 23; rw [HW.out]; refine (fits_is gr t p o true _ hg ht HM).mono ?_; rintro e w1 ⟨rfl, hb1⟩; have d0 := cell_at hb1 b0; have d1 := cell_at hb1 b1; have d2 := cell_at hb1 b2; have d3 := cell_at hb1 b3; have HB1 := Lib.hid hb1; clear hb1)
        | (go_at_call 14; refine (get_is gr t p y true (Lib.hid (HT1.out.below HB1.out)) G hg ht hp HY HV).mono ?_; rintro e w2 ⟨rfl, hb2⟩; have f3 := cell_at hb2 d3; have HB2 := Lib.hid hb2; clear hb2))
      go_ret
      have q := HBW.out.trans ((HB1.out.trans (HB2.out.mono HB1.out.size)).mono HBW.out.size)
      exact ⟨rfl, N, Nat.le_succ _, h.out.below q, Only.ofBelow q⟩
    · rw [if_neg hback] at e0
      obtain rfl : x = 0 := HX.out.symm.trans e0
      have e2 : putQ Q ⟨gr, t, p, o⟩ = insR Q ⟨gr, t, p, o⟩ := by unfold putQ; rw [if_pos e0]
      rw [e2]
      have HMEM : Hid (∀ z, z ∈ insR Q ⟨gr, t, p, o⟩ ↔ z = ⟨gr, t, p, o⟩ ∨ (z ∈ Q ∧ ¬ SameR z ⟨gr, t, p, o⟩)) := Lib.hid (fun z => mem_ins G.out.sorted)
      have HWP : Hid ((Lit.int .i64 p).wf = true) := Lib.hid HWF.out.2.2.1
      have HWO : Hid ((Lit.int .i64 o).wf = true) := Lib.hid HWF.out.2.2.2
      have HFI : Hid (Fits Q) := Lib.hid G.out.fits
      have o1 : v = true → ¬ y > o := fun q r => hback ⟨q, r⟩
      clear hm e0 e2 HX hf hwf hy hv hback
      cases v with
      | true =>
        have o2 : ¬ y > o := o1 rfl
        clear o1
        go_enter Try.func7, Try.ntmps7
        go_wp2_with (first
          | (go_at_call 23; rw [HW.out]; refine (fits_is gr t p o true _ hg ht HM).mono ?_; rintro e w1 ⟨rfl, hb1⟩; have d0 := cell_at hb1 b0; have d1 := cell_at hb1 b1; have d2 := cell_at hb1 b2; have d3 := cell_at hb1 b3; have HB1 := Lib.hid hb1; clear hb1)
          | (go_at_call 14; refine (get_is gr t p y true (Lib.hid (HT1.out.below HB1.out)) G hg ht hp HY HV).mono ?_; rintro e w2 ⟨rfl, hb2⟩; have f0 := cell_at hb2 d0; have f1 := cell_at hb2 d1; have f2 := cell_at hb2 d2; have f3 := cell_at hb2 d3; have HB2 := Lib.hid hb2; clear hb2)
          | (go_at_call 24; refine (keep_is gr t p o (Lib.hid ((HT1.out.below HB1.out).below HB2.out)) hN gz tz HWP HWO HFI HMEM).mono ?_; rintro e w3 ⟨rfl, ht3, ho3⟩; have HT3 := Lib.hid ht3; have HO3 := Lib.hid ho3; clear ht3 ho3))
        go_ret
        have q := HBW.out.trans ((HB1.out.trans (HB2.out.mono HB1.out.size)).mono HBW.out.size)
        exact ⟨rfl, N + 1, Nat.le_refl _, HT3.out, (Only.ofBelow q).trans HO3.out (fun k hk => .inl hk)⟩
      | false =>
        clear o1
        go_enter Try.func7, Try.ntmps7
        go_wp2_with (first
          | (go_at_call 23; rw [HW.out]; refine (fits_is gr t p o true _ hg ht HM).mono ?_; rintro e w1 ⟨rfl, hb1⟩; have d0 := cell_at hb1 b0; have d1 := cell_at hb1 b1; have d2 := cell_at hb1 b2; have d3 := cell_at hb1 b3; have HB1 := Lib.hid hb1; clear hb1)
          | (go_at_call 14; refine (get_is gr t p y false (Lib.hid (HT1.out.below HB1.out)) G hg ht hp HY HV).mono ?_; rintro e w2 ⟨rfl, hb2⟩; have f0 := cell_at hb2 d0; have f1 := cell_at hb2 d1; have f2 := cell_at hb2 d2; have f3 := cell_at hb2 d3; have HB2 := Lib.hid hb2; clear hb2)
          | (go_at_call 24; refine (keep_is gr t p o (Lib.hid ((HT1.out.below HB1.out).below HB2.out)) hN gz tz HWP HWO HFI HMEM).mono ?_; rintro e w3 ⟨rfl, ht3, ho3⟩; have HT3 := Lib.hid ht3; have HO3 := Lib.hid ho3; clear ht3 ho3))
        go_ret
        have q := HBW.out.trans ((HB1.out.trans (HB2.out.mono HB1.out.size)).mono HBW.out.size)
        exact ⟨rfl, N + 1, Nat.le_refl _, HT3.out, (Only.ofBelow q).trans HO3.out (fun k hk => .inl hk)⟩

set_option maxRecDepth 100000 in
set_option maxHeartbeats 2000000 in
theorem behind_is {w : World} {g b N : Nat} {Q : List Mr} (gr t : ByteArray) (p e x : Int) (h : Hid (Tab w g b N Q)) (G : Hid (Good Q)) (hg : Hid (gr.size ≤ maxLen)) (ht : Hid (t.size ≤ maxLen)) (hp : Hid ((Lit.int .i64 p).wf = true)) (HX : Hid (behindR Q gr t p e = x)) :
    Calls Try.prog 18 #[.pointer (some ⟨g, 0, none⟩), .string gr, .agg #[.string t, .int .i64 p], .int .i64 e] w fun r w' => r = .returned (.int .i64 x) ∧ Below w.heap.size w w' := by
  obtain ⟨W, hW⟩ : ∃ W, w.alloc (.cells #[.string t, .int .i64 p] 30) = W := ⟨_, rfl⟩
  have hbW : Below w.heap.size w W := by rw [← hW]; exact one_box' _
  have hr : W.heap[w.heap.size]? = some (.cells #[.string t, .int .i64 p] 30 (0, 0)) := by rw [← hW]; exact part_row w t p
  have b0 : W.cell? ⟨w.heap.size, 0, none⟩ = some (.string t) := (cell_of_row _ _ 0 _ _ _ hr).trans rfl
  have b1 : W.cell? ⟨w.heap.size, 1, none⟩ = some (.int .i64 p) := (cell_of_row _ _ 1 _ _ _ hr).trans rfl
  have HW := Lib.hid hW
  have HBW := Lib.hid hbW
  have HT1 := Lib.hid (h.out.below hbW)
  clear hW hbW hr
  have hx := HX.out
  unfold behindR at hx
  cases hn : numB e with
  | false =>
    rw [hn, if_neg (by simp)] at hx
    subst hx
    have HN := Lib.hid hn
    clear hn HX
    go_enter Try.func18, Try.ntmps18
    go_wp2_with (go_at_call 30; rw [HW.out]; refine (within_is e false _ HN).mono ?_; rintro r w1 ⟨rfl, rfl⟩)
    go_ret
    exact ⟨rfl, HBW.out⟩
  | true =>
    rw [hn, if_pos rfl] at hx
    obtain ⟨y, hy⟩ : ∃ y, atR Q gr t p = y := ⟨_, rfl⟩
    obtain ⟨v, hv⟩ : ∃ v, isR Q gr t p = v := ⟨_, rfl⟩
    have HY := Lib.hid hy
    have HV := Lib.hid hv
    have HN := Lib.hid hn
    have hat := G.out.at gr t p
    rw [hy] at hat hx
    unfold numB at hn
    rw [decide_eq_true_iff] at hn
    obtain ⟨z, hz⟩ : ∃ z, e - y = z := ⟨_, rfl⟩
    have e1 : wrap64 (e - y) = z := by simp only [wrap64]; omega
    rw [hz] at hx
    have HZX := Lib.hid hx
    clear hn HX hx hat hy hv hz
    go_enter Try.func18, Try.ntmps18
    go_wp2_with (first
      | (go_at_call 30; rw [HW.out]; refine (within_is e true _ HN).mono ?_; rintro r w1 ⟨rfl, rfl⟩)
      | (go_at_call 14; refine (get_is gr t p y v HT1 G hg ht hp HY HV).mono ?_; rintro r w2 ⟨rfl, hb2⟩; have HB2 := Lib.hid hb2; clear hb2))
    go_ret
    exact ⟨congrArg (fun z => Ending.returned (.int .i64 z)) HZX.out, HBW.out.trans (HB2.out.mono HBW.out.size)⟩
end Go.Proofs.Ytcpfihagcmadcaa.L12
