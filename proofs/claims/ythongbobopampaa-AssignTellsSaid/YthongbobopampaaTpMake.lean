/-
  Contracts: a topic is made, grows, goes; is there a partition; another catalog in the same state.
-/
import Derived.Test.YthongbobopampaaTpPut
import Derived.Test.YthongbobopampaaMReqNames
namespace Go.Proofs.Ythongbobopampaa.L9
open Go.RowKit
open Go.Maps
open L3 L4

theorem IsCat.more {w : World} {b N : Nat} {Q : List Pt} (h : IsCat w b N Q) : IsCat w b (N + 1) Q := by
  obtain ⟨D, ho, hd⟩ := h
  exact ⟨D, ho.mono (Nat.le_succ _), hd⟩
theorem Cat.more {w : World} {g b N : Nat} {Q : List Pt} (h : Cat w g b N Q) : Cat w g b (N + 1) Q := ⟨h.row, h.map.more⟩
theorem may_ways (s : ByteArray) (n : Int) : (nameB s = false ∧ mayB s n = false) ∨ (nameB s = true ∧ n < 1 ∧ mayB s n = false) ∨ (nameB s = true ∧ 1 ≤ n ∧ 8 < n ∧ mayB s n = false) ∨ (nameB s = true ∧ 1 ≤ n ∧ n ≤ 8 ∧ mayB s n = true) := by
  unfold mayB
  cases nameB s
  · exact .inl ⟨rfl, rfl⟩
  · by_cases h1 : n < 1
    · exact .inr (.inl ⟨rfl, h1, by rw [decide_eq_false (by omega)]; rfl⟩)
    · by_cases h2 : 8 < n
      · exact .inr (.inr (.inl ⟨rfl, by omega, h2, by rw [decide_eq_false (by omega)]; rfl⟩))
      · exact .inr (.inr (.inr ⟨rfl, by omega, by omega, by rw [decide_eq_true (by omega)]; rfl⟩))

set_option maxRecDepth 100000 in
set_option maxHeartbeats 2000000 in
theorem make_is {w : World} {g b N : Nat} {Q : List Pt} (s : ByteArray) (n x : Int) (h : Hid (Cat w g b N Q)) (G : Hid (Good Q)) (hN : N ≤ 1000000) (hs : s.size ≤ 281474976710656) (HX : Hid (makeE Q s n = x)) :
    Calls Try.prog 34 #[.pointer (some ⟨g, 0, none⟩), .string s, .int .i64 n] w fun e w' => e = .returned (.int .i64 x) ∧ Cat w' g b (N + 1) (makeQ Q s n) ∧ Only [b] w w' := by
  have HS : Hid (s.size ≤ maxLen) := Lib.hid (by unfold maxLen; omega)
  rcases may_ways s n with ⟨hp, hm⟩ | ⟨hp, h1, hm⟩ | ⟨hp, h1, h2, hm⟩ | ⟨hp, h1, h2, hm⟩
  rotate_left 3
  · have HP := Lib.hid hp
    have hx := HX.out
    unfold makeE at hx
    rw [hm, if_neg (by simp)] at hx
    obtain ⟨m, hmm⟩ : ∃ m, Q.length = m := ⟨_, rfl⟩
    have n1 : decide (n < 1) = false := decide_eq_false (by omega)
    have n2 : decide (8 < n) = false := decide_eq_false (by omega)
    have n3 : ¬ n < 1 := by omega
    have n4 : ¬ 8 < n := by omega
    have HWF : Hid ((Lit.int .i64 n).wf = true) := Lib.hid (WalkArith.wf_i64 (by omega))
    have HM := Lib.hid hm
    cases hh : hasB Q s with
    | true =>
      rw [hh, if_pos rfl] at hx
      subst hx
      have hq : makeQ Q s n = Q := by unfold makeQ; rw [HX.out]; rfl
      rw [hq]
      have HH := Lib.hid hh
      clear hh hm hmm hq hp
      go_enter Try.func34, Try.ntmps34
      go_wp2_with (first
        | (go_at_call 38; refine (name_is s _ _ HS HP).mono ?_; rintro e w1 ⟨rfl, hb1⟩; have H1 := Lib.hid (h.out.below hb1); have HB1 := Lib.hid hb1; clear hb1)
        | (go_at_call 39; refine (there_is s _ H1 HS.out HH).mono ?_; rintro e w2 ⟨rfl, hw2⟩; obtain rfl := hw2.symm))
      go_ret
      exact ⟨rfl, H1.out.more, Only.ofBelow HB1.out⟩
    | false =>
      rw [hh, if_neg (by simp), hmm] at hx
      have HH := Lib.hid hh
      have HLEN := Lib.hid hmm
      by_cases h8 : 8 ≤ m
      · rw [if_pos h8] at hx
        subst hx
        have hq : makeQ Q s n = Q := by unfold makeQ; rw [HX.out]; rfl
        rw [hq]
        have q1 : (8 : Int) ≤ (m : Int) := by omega
        clear hh hm hmm hq hp h8
        go_enter Try.func34, Try.ntmps34
        go_wp2_with (first
          | (go_at_call 38; refine (name_is s _ _ HS HP).mono ?_; rintro e w1 ⟨rfl, hb1⟩; have H1 := Lib.hid (h.out.below hb1); have HB1 := Lib.hid hb1; clear hb1; obtain ⟨D, ho, hd⟩ := H1.out.map; have c1 := H1.out.c0; have HO := Lib.hid ho; have HSZ : Hid (Maps.size D = m) := Lib.hid ((hd.size G.out.rise ho).trans HLEN.out); clear ho hd)
          | (go_at_call 39; refine (there_is s _ H1 HS.out HH).mono ?_; rintro e w2 ⟨rfl, hw2⟩; obtain rfl := hw2.symm)
          | (at_len; refine wpList_len_own _ rfl _ 73 rfl 9 3 Try.underlying73 _ b N D rfl HO.out ?_; rw [HSZ.out]))
        go_ret
        exact ⟨rfl, H1.out.more, Only.ofBelow HB1.out⟩
      · rw [if_neg h8] at hx
        subst hx
        have hq : makeQ Q s n = insQ Q ⟨s, n⟩ := by unfold makeQ; rw [HX.out]; rfl
        rw [hq]
        have q1 : (m : Int) < 8 := by omega
        have q2 : ¬ (8 : Int) ≤ (m : Int) := by omega
        have HQ : Hid (∀ x, x ∈ insQ Q ⟨s, n⟩ ↔ x = ⟨s, n⟩ ∨ (x ∈ Q ∧ x.t ≠ s)) := Lib.hid (fun x => by
          rw [mem_ins]
          exact ⟨fun q => q.imp id (fun q => ⟨q, has_not.1 hh x q⟩), fun q => q.imp id (fun q => q.1)⟩)
        clear hh hm hmm hq hp h8
        go_enter Try.func34, Try.ntmps34
        go_wp2_with (first
          | (go_at_call 38; refine (name_is s _ _ HS HP).mono ?_; rintro e w1 ⟨rfl, hb1⟩; have H1 := Lib.hid (h.out.below hb1); have HB1 := Lib.hid hb1; clear hb1; obtain ⟨D, ho, hd⟩ := H1.out.map; have c1 := H1.out.c0; have HO := Lib.hid ho; have HSZ : Hid (Maps.size D = m) := Lib.hid ((hd.size G.out.rise ho).trans HLEN.out); clear ho hd)
          | (go_at_call 39; refine (there_is s _ H1 HS.out HH).mono ?_; rintro e w2 ⟨rfl, hw2⟩; obtain rfl := hw2.symm)
          | (at_len; refine wpList_len_own _ rfl _ 73 rfl 9 3 Try.underlying73 _ b N D rfl HO.out ?_; rw [HSZ.out])
          | (go_at_call 40; refine (put_is s n H1 hN hs HWF.out HQ).mono ?_; rintro e w3 ⟨rfl, hc3, ho3⟩; have H3 := Lib.hid hc3; have O3 := Lib.hid ho3; clear hc3 ho3))
        go_ret
        exact ⟨rfl, H3.out, (Only.ofBelow HB1.out).trans O3.out (fun k hk => .inl hk)⟩
  all_goals
    have hx1 : makeE Q s n = 1 := by unfold makeE; rw [if_pos hm]
    have hq : makeQ Q s n = Q := by unfold makeQ; rw [hx1]; rfl
    obtain rfl : 1 = x := hx1.symm.trans HX.out
    rw [hq]
    have HP := Lib.hid hp
    try have n1 : decide (n < 1) = false := decide_eq_false (by omega)
    try have n3 : ¬ n < 1 := by omega
    clear hm hq hp hx1
    go_enter Try.func34, Try.ntmps34
    go_wp2_with (go_at_call 38; refine (name_is s _ _ HS HP).mono ?_; rintro e w1 ⟨rfl, hb1⟩)
    go_ret
    exact ⟨rfl, (h.out.below hb1).more, Only.ofBelow hb1⟩

end Go.Proofs.Ythongbobopampaa.L9
