/-
  Contracts: a topic is made, grows, goes; is there a partition; another catalog in the same state.
-/
import Derived.Test.YtohfbmgonjkhhaaTpPut
import Derived.Test.YtohfbmgonjkhhaaMReqNames
namespace Go.Proofs.Ytohfbmgonjkhhaa.L9
open Go.RowKit
open Go.Maps
open L3 L4

theorem IsCat.more {w : World} {b N : Nat} {Q : List Pt} (h : IsCat w b N Q) : IsCat w b (N + 1) Q := by
  obtain ⟨D, ho, hd⟩ := h
  exact ⟨D, ho.mono (Nat.le_succ _), hd⟩
theorem Cat.more {w : World} {g b N : Nat} {Q : List Pt} (h : Cat w g b N Q) : Cat w g b (N + 1) Q := ⟨h.row, h.map.more⟩
theorem may_ways (s : ByteArray) (n : Int) : (nameB s = false ∧ mayB s n = false) ∨ (nameB s = true ∧ n < 1 ∧ mayB s n = false) ∨ (nameB s = true ∧ 1 ≤ n ∧ 8 < n ∧ mayB s n = false) ∨ (nameB s = true ∧ 1 ≤ n ∧ n ≤ 8 ∧ mayB s n = true) := by
  unfold mayB
  cases nameB s
  · exact .inl ⟨rfl, rfl⟩
  · by_cases h1 : n < 1
    · exact .inr (.inl ⟨rfl, h1, by rw [decide_eq_false (by omega)]; rfl⟩)
    · by_cases h2 : 8 < n
      · exact .inr (.inr (.inl ⟨rfl, by omega, h2, by rw [decide_eq_false (by omega)]; rfl⟩))
      · exact .inr (.inr (.inr ⟨rfl, by omega, by omega, by rw [decide_eq_true (by omega)]; rfl⟩))

set_option maxRecDepth 100000 in
set_option maxHeartbeats 2000000 in
theorem make_is {w : World} {g b N : Nat} {Q : List Pt} (s : ByteArray) (n x : Int) (h : Hid (Cat w g b N Q)) (G : Hid (Good Q)) (hN : N ≤ 1000000) (hs : s.size ≤ 281474976710656) (HX : Hid (makeE Q s n = x)) :
    Calls Try.prog 10 #[.pointer (some ⟨g, 0, none⟩), .string s, .int .i64 n] w fun e w' => e = .returned (.int .i64 x) ∧ Cat w' g b (N + 1) (makeQ Q s n) ∧ Only [b] w w' := by
  have HS : Hid (s.size ≤ maxLen) := Lib.hid (by unfold maxLen; omega)
  rcases may_ways s n with ⟨hp, hm⟩ | ⟨hp, h1, hm⟩ | ⟨hp, h1, h2, hm⟩ | ⟨hp, h1, h2, hm⟩
  rotate_left 3
  · have HP := Lib.hid hp
    have hx := HX.out
    unfold makeE at hx
    rw [hm, if_neg (by simp)] at hx
    obtain ⟨m, hmm⟩ : ∃ m, Q.length = m := ⟨_, rfl⟩
    have n1 : decide (n < 1) = false := decide_eq_false (by omega)
    have n2 : decide (8 < n) = false := decide_eq_false (by omega)
    have n3 : ¬ n < 1 := by omega
    have n4 : ¬ 8 < n := by omega
    have HWF : Hid ((Lit.int .i64 n).wf = true) := Lib.hid (WalkArith.wf_i64 (by omega))
    have HM := Lib.hid hm
    cases hh : hasB Q s with
    | true =>
      rw [hh, if_pos rfl] at hx
      subst hx
      have hq : makeQ Q s n = Q := by unfold makeQ; rw [HX.out]; rfl
      rw [hq]
      have HH := Lib.hid hh
      clear hh hm hmm hq hp
      go_enter Try.func10, Try.ntmps10
      go_wp2_with (first
        | (go_at_call 30; refine (name_is s _ _ HS HP).mono ?_; rintro e w1 ⟨rfl, hb1⟩; have H1 := Lib.hid (h.out.below hb1); have HB1 := Lib.hid hb1; clear hb1)
        | (go_at_call 31; refine (there_is s _ H1 HS.out HH).mono ?_; rintro e w2 ⟨rfl, hw2⟩; obtain rfl := hw2.symm))
      go_ret
      exact ⟨rfl, H1.out.more, Only.ofBelow HB1.out⟩
    | false =>
      rw [hh, if_neg (by simp), hmm] at hx
      have HH := Lib.hid hh
      have HLEN := Lib.hid hmm
      by_cases h8 : 8 ≤ m
      · rw [if_pos h8] at hx
        subst hx
        have hq : makeQ Q s n = Q := by unfold makeQ; rw [HX.out]; rfl
        rw [hq]
        have q1 : (8 : Int) ≤ (m : Int) := by omega
        clear hh hm hmm hq hp h8
        go_enter Try.func10, Try.ntmps10
        go_wp2_with (first
          | (go_at_call 30; refine (name_is s _ _ HS HP).mono ?_; rintro e w1 ⟨rfl, hb1⟩; have H1 := Lib.hid (h.out.below hb1); have HB1 := Lib.hid hb1; clear hb1; obtain ⟨D, ho, hd⟩ := H1.out.map; have c1 := H1.out.c0; have HO := Lib.hid ho; have HSZ : Hid (Maps.size D = m) := Lib.hid ((hd.size G.out.rise ho).trans HLEN.out); clear ho hd)
          | (go_at_call 31; refine (there_is s _ H1 HS.out HH).mono ?_; rintro e w2 ⟨rfl, hw2⟩; obtain rfl := hw2.symm)
          | (at_len; refine wpList_len_own _ rfl _ 57 rfl 9 3 Try.underlying57 _ b N D rfl HO.out ?_; rw [HSZ.out]))
        go_ret
        exact ⟨rfl, H1.out.more, Only.ofBelow HB1.out⟩
      · rw [if_neg h8] at hx
        subst hx
        have hq : makeQ Q s n = insQ Q ⟨s, n⟩ := by unfold makeQ; rw [HX.out]; rfl
        rw [hq]
        have q1 : (m : Int) < 8 := by omega
        have q2 : ¬ (8 : Int) ≤ (m : Int) := by omega
        have HQ : Hid (∀ x, x ∈ insQ Q ⟨s, n⟩ ↔ x = ⟨s, n⟩ ∨ (x ∈ Q ∧ x.t ≠ s)) := Lib.hid (fun x => by
          rw [mem_ins]
          exact ⟨fun q => q.imp id (fun q => ⟨q, has_not.1 hh x q⟩), fun q => q.imp id (fun q => q.1)⟩)
        clear hh hm hmm hq hp h8
        go_enter Try.func10, Try.ntmps10
        go_wp2_with (first
          | (go_at_call 30; refine (name_is s _ _ HS HP).mono ?_; rintro e w1 ⟨rfl, hb1⟩; have H1 := Lib.hid (h.out.below hb1); have HB1 := Lib.hid hb1; clear hb1; obtain ⟨D, ho, hd⟩ := H1.out.map; have c1 := H1.out.c0; have HO := Lib.hid ho; have HSZ : Hid (Maps.size D = m) := Lib.hid ((hd.size G.out.rise ho).trans HLEN.out); clear ho hd)
          | (go_at_call 31; refine (there_is s _ H1 HS.out HH).mono ?_; rintro e w2 ⟨rfl, hw2⟩; obtain rfl := hw2.symm)
          | (at_len; refine wpList_len_own _ rfl _ 57 rfl 9 3 Try.underlying57 _ b N D rfl HO.out ?_; rw [HSZ.out])
          | (go_at_call 32; refine (put_is s n H1 hN hs HWF.out HQ).mono ?_; rintro e w3 ⟨rfl, hc3, ho3⟩; have H3 := Lib.hid hc3; have O3 := Lib.hid ho3; clear hc3 ho3))
        go_ret
        exact ⟨rfl, H3.out, (Only.ofBelow HB1.out).trans O3.out (fun k hk => .inl hk)⟩
  all_goals
    have hx1 : makeE Q s n = 1 := by unfold makeE; rw [if_pos hm]
    have hq : makeQ Q s n = Q := by unfold makeQ; rw [hx1]; rfl
    obtain rfl : 1 = x := hx1.symm.trans HX.out
    rw [hq]
    have HP := Lib.hid hp
    try have n1 : decide (n < 1) = false := decide_eq_false (by omega)
    try have n3 : ¬ n < 1 := by omega
    clear hm hq hp hx1
    go_enter Try.func10, Try.ntmps10
    go_wp2_with (go_at_call 30; refine (name_is s _ _ HS HP).mono ?_; rintro e w1 ⟨rfl, hb1⟩)
    go_ret
    exact ⟨rfl, (h.out.below hb1).more, Only.ofBelow hb1⟩

set_option maxRecDepth 100000 in
set_option maxHeartbeats 2000000 in
theorem grow_is {w : World} {g b N : Nat} {Q : List Pt} (s : ByteArray) (n x : Int) (h : Hid (Cat w g b N Q)) (G : Hid (Good Q)) (hN : N ≤ 1000000) (hs : s.size ≤ 281474976710656) (HX : Hid (growE Q s n = x)) :
    Calls Try.prog 12 #[.pointer (some ⟨g, 0, none⟩), .string s, .int .i64 n] w fun e w' => e = .returned (.int .i64 x) ∧ Cat w' g b (N + 1) (growQ Q s n) ∧ Only [b] w w' := by
  have HS : Hid (s.size ≤ maxLen) := Lib.hid (by unfold maxLen; omega)
  have hx := HX.out
  unfold growE at hx
  cases hh : hasB Q s with
  | false =>
    rw [hh, if_pos rfl] at hx
    subst hx
    have hq : growQ Q s n = Q := by unfold growQ; rw [HX.out]; rfl
    rw [hq]
    have HH := Lib.hid hh
    clear hh hq
    go_enter Try.func12, Try.ntmps12
    go_wp2_with (go_at_call 31; refine (there_is s _ h HS.out HH).mono ?_; rintro e w2 ⟨rfl, hw2⟩; obtain rfl := hw2.symm)
    go_ret
    exact ⟨rfl, h.out.more, Only.refl _ _⟩
  | true =>
    rw [hh, if_neg (by simp)] at hx
    have HH := Lib.hid hh
    obtain ⟨y, hy⟩ : ∃ y, numOf Q s = y := ⟨_, rfl⟩
    have hny := (G.out.num s).2.2 hh
    rw [hy] at hx hny
    have c0 := h.out.c0
    obtain ⟨D, ho, hd⟩ := h.out.map
    have HO := Lib.hid ho
    have HK := Lib.hid (keyStr HS.out)
    have HAT : Hid (D.atKey (.string s.data.toList) (.lit (.int .i64 0)) = .lit (.int .i64 y)) := Lib.hid ((hd.num G.out.rise s).trans (by rw [hy]))
    by_cases h1 : n < y
    · rw [if_pos (.inl h1)] at hx
      subst hx
      have hq : growQ Q s n = Q := by unfold growQ; rw [HX.out]; rfl
      rw [hq]
      clear hh hq ho hd hy
      go_enter Try.func12, Try.ntmps12
      go_wp2_with (first
        | (go_at_call 31; refine (there_is s _ h HS.out HH).mono ?_; rintro e w2 ⟨rfl, hw2⟩; obtain rfl := hw2.symm)
        | (at_lookup; refine wpList_lookup_own_int _ rfl _ _ 57 rfl 9 3 .i64 lawStr Try.underlying57 Try.underlying3 (zeroInt _) b N D rfl HO.out _ _ rfl HK.out ?_; intro c hat hwc; obtain rfl : c = y := lit_inj (hat.symm.trans HAT.out)))
      go_ret
      exact ⟨rfl, h.out.more, Only.refl _ _⟩
    · by_cases h2 : 8 < n
      · rw [if_pos (.inr h2)] at hx
        subst hx
        have hq : growQ Q s n = Q := by unfold growQ; rw [HX.out]; rfl
        rw [hq]
        clear hh hq ho hd hy
        go_enter Try.func12, Try.ntmps12
        go_wp2_with (first
          | (go_at_call 31; refine (there_is s _ h HS.out HH).mono ?_; rintro e w2 ⟨rfl, hw2⟩; obtain rfl := hw2.symm)
          | (at_lookup; refine wpList_lookup_own_int _ rfl _ _ 57 rfl 9 3 .i64 lawStr Try.underlying57 Try.underlying3 (zeroInt _) b N D rfl HO.out _ _ rfl HK.out ?_; intro c hat hwc; obtain rfl : c = y := lit_inj (hat.symm.trans HAT.out)))
        go_ret
        exact ⟨rfl, h.out.more, Only.refl _ _⟩
      · rw [if_neg (by omega)] at hx
        subst hx
        have hq : growQ Q s n = setQ Q s n := by unfold growQ; rw [HX.out]; rfl
        rw [hq]
        have HQ : Hid (∀ x, x ∈ setQ Q s n ↔ x = ⟨s, n⟩ ∨ (x ∈ Q ∧ x.t ≠ s)) := Lib.hid (fun x => mem_set hh)
        have HWF : Hid ((Lit.int .i64 n).wf = true) := Lib.hid (WalkArith.wf_i64 (by omega))
        clear hh hq ho hd hy
        go_enter Try.func12, Try.ntmps12
        go_wp2_with (first
          | (go_at_call 31; refine (there_is s _ h HS.out HH).mono ?_; rintro e w2 ⟨rfl, hw2⟩; obtain rfl := hw2.symm)
          | (at_lookup; refine wpList_lookup_own_int _ rfl _ _ 57 rfl 9 3 .i64 lawStr Try.underlying57 Try.underlying3 (zeroInt _) b N D rfl HO.out _ _ rfl HK.out ?_; intro c hat hwc; obtain rfl : c = y := lit_inj (hat.symm.trans HAT.out))
          | (go_at_call 32; refine (put_is s n h hN hs HWF.out HQ).mono ?_; rintro e w3 ⟨rfl, hc3, ho3⟩; have H3 := Lib.hid hc3; have O3 := Lib.hid ho3; clear hc3 ho3))
        go_ret
        exact ⟨rfl, H3.out, O3.out⟩

set_option maxRecDepth 100000 in
set_option maxHeartbeats 2000000 in
theorem drop_is {w : World} {g b N : Nat} {Q : List Pt} (s : ByteArray) (x : Int) (h : Hid (Cat w g b N Q)) (hs : s.size ≤ maxLen) (HX : Hid (dropE Q s = x)) :
    Calls Try.prog 14 #[.pointer (some ⟨g, 0, none⟩), .string s] w fun e w' => e = .returned (.int .i64 x) ∧ Cat w' g b N (dropQ Q s) ∧ Only [b] w w' := by
  have hx := HX.out
  unfold dropE at hx
  cases hh : hasB Q s with
  | false =>
    rw [hh, if_neg (by simp)] at hx
    subst hx
    rw [drop_none hh]
    have HH := Lib.hid hh
    clear hh
    go_enter Try.func14, Try.ntmps14
    go_wp2_with (go_at_call 31; refine (there_is s _ h hs HH).mono ?_; rintro e w2 ⟨rfl, hw2⟩; obtain rfl := hw2.symm)
    go_ret
    exact ⟨rfl, h.out, Only.refl _ _⟩
  | true =>
    rw [hh, if_pos rfl] at hx
    subst hx
    have HH := Lib.hid hh
    have c0 := h.out.c0
    obtain ⟨D, ho, hd⟩ := h.out.map
    have HO := Lib.hid ho
    have HD := Lib.hid hd
    have HK := Lib.hid (keyStr hs)
    clear hh ho hd
    go_enter Try.func14, Try.ntmps14
    go_wp2_with (first
      | (go_at_call 31; refine (there_is s _ h hs HH).mono ?_; rintro e w2 ⟨rfl, hw2⟩; obtain rfl := hw2.symm)
      | (at_delete; refine wpList_delete_own _ rfl _ _ 57 9 rfl 3 lawStr Try.underlying57 _ b N D rfl HO.out _ _ rfl HK.out ?_; intro w1 hown1 hturn1))
    go_ret
    have o1 : Only [b] w w1 := Only.ofGrown hturn1.grown
    exact ⟨rfl, h.out.turned o1 ⟨_, hown1, HD.out.del s (fun x => mem_drop)⟩, o1⟩

/-- a map cloned -/
theorem clone_map {w : World} {b N : Nat} {Q : List Pt} (h : Hid (IsCat w b N Q)) :
    Calls Try.prog 35 #[.map (some b)] w fun e w' => ∃ b', e = .returned (.map (some b')) ∧ IsCat w' b' N Q ∧ w.heap.size ≤ b' ∧ Below w.heap.size w w' := by
  obtain ⟨D, ho, hd⟩ := h.out
  have hc := AnyW.maps_Clone_owns Try.cloneT 9 _ b N D w ho
  change Calls Try.prog 35 _ _ _ at hc
  exact hc.mono fun e w' ⟨he, h1, _, hb⟩ => ⟨_, he, ⟨D, h1, hd⟩, Nat.le_refl _, hb⟩
set_option maxRecDepth 100000 in
set_option maxHeartbeats 2000000 in
theorem copy_is {w : World} {g b N : Nat} {Q : List Pt} (h : Hid (Cat w g b N Q)) :
    Calls Try.prog 16 #[.pointer (some ⟨g, 0, none⟩)] w fun e w' => ∃ g' b', e = .returned (.pointer (some ⟨g', 0, none⟩)) ∧ Cat w' g' b' N Q ∧ w.heap.size ≤ g' ∧ w.heap.size ≤ b' ∧ Below w.heap.size w w' := by
  have c0 := h.out.c0
  have HM := Lib.hid h.out.map
  go_enter Try.func16, Try.ntmps16
  go_wp2_with (go_at_call 35; refine (clone_map HM).mono ?_; rintro e w2 ⟨b', rfl, hm2, hbb2, hb2⟩)
  go_ret
  exact ⟨_, b', rfl, ⟨heap_alloc_new _ _, hm2.at ((one_box' _).block _ hm2.lt)⟩, hb2.size, hbb2, hb2.trans ((one_box' _).mono hb2.size)⟩
end Go.Proofs.Ytohfbmgonjkhhaa.L9
