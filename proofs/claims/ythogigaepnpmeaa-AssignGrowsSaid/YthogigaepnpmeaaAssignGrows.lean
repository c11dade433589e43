/-
  Proved: when a topic has one more partition, by stretches each member has of the other topics what it had (of at most 8 topics and members). No condition.
-/
import Derived.Test.YthogigaepnpmeaaRows
import Derived.WalkKit
import Derived.ProofKit
import Derived.OpenShut
import Derived.ShutString
import Derived.ChangeOld
import Derived.Below
import Derived.Test.YthogigaepnpmeaaAsWords
import Derived.Test.YthogigaepnpmeaaAsRng
import Derived.Test.YthogigaepnpmeaaTpRdrop
import Derived.LoopTactic
import Derived.IntWalk
namespace Go.Proofs.Ythogigaepnpmeaa.assignGrows
open Go.ChangeShapes Go.WideShapes Go.ChangeAt Go.RowKit Go.Deep
open Go.ChangeMaps (open_string shut_string)
open L3 L4 L9 L10

theorem own : ownKnob Try.prog.godebug = none := by kernel_rfl
theorem laidOut : laidOutB Try.prog = true := by kernel_rfl

theorem mask_le (m : Nat) (hm : m < 9223372036854775808) (x : Int) : 0 ≤ bits .and .i64 x (m : Int) ∧ bits .and .i64 x (m : Int) ≤ m := by
  have e : (BitVec.ofInt 64 x &&& BitVec.ofInt 64 (m : Int)).toNat ≤ m := by
    rw [BitVec.toNat_and]
    refine Nat.le_trans Nat.and_le_right ?_
    rw [BitVec.ofInt_natCast, BitVec.toNat_ofNat, Nat.mod_eq_of_lt (by omega)]
    exact Nat.le_refl _
  show 0 ≤ IntKind.i64.wrap ((BitVec.ofInt 64 x &&& BitVec.ofInt 64 (m : Int)).toNat : Int) ∧ IntKind.i64.wrap ((BitVec.ofInt 64 x &&& BitVec.ofInt 64 (m : Int)).toNat : Int) ≤ m
  rw [IntWalk.i64_in _ (by omega)]
  omega
theorem ne_own {o g' a b c d k : Nat} (e : (Value.slice (some ⟨o, 0, none⟩) a b).ownBlock = some k) (e2 : some k = (Value.slice (some ⟨g', 0, none⟩) c d).ownBlock) (h : g' ≠ o) : False := by
  injection e with e
  injection e2 with e2
  exact h (e2.symm.trans e.symm)
theorem new_ne {q c' g' g7 N b : Nat} (h : (Value.slice (some ⟨g', 0, none⟩) q c').ownBlock = some g7 ∨ g7 = N) (hn : g' ≠ b) (hb : b < N) : g7 ≠ b := by
  rcases h with h | h
  · injection h with h
    exact fun e => hn (h.trans e)
  · omega
def filt (t : ByteArray) (l : List Pt) : List Pt := l.filter (fun y => !decide (y.t = t))
theorem filt_next (t : ByteArray) {l : List Pt} {k : Nat} {y : Pt} (h : l[k]? = some y) : filt t (l.take (k + 1)) = filt t (l.take k) ++ (if y.t = t then [] else [y]) := by
  unfold filt
  rw [List.take_add_one, h, List.filter_append]
  congr 1
  by_cases e : y.t = t <;> simp [e]
set_option maxRecDepth 100000 in
set_option maxHeartbeats 16000000 in
theorem walk (W : World) (A0 B0 : Option Addr) (l0 : List Pt) (m0 : List Me) (c0 d0 : Nat) (R0 : IsAsk W A0 B0 l0 m0) (a1 : Int) (_ : (Lit.int .i64 a1).wf = true) :
    Calls Try.prog 7 #[.agg #[.slice A0 l0.length c0, .slice B0 m0.length d0], .int .i64 a1] W fun e w' => e = .returned (.bool true) ∧ Below W.heap.size W w' := by
  have hI1 := R0.below (one_box' (w := W) (.cells #[.slice A0 l0.length c0, .slice B0 m0.length d0] 25))
  obtain ⟨L, hLL⟩ : ∃ L, (l0.take 10).map cutP = L := ⟨_, rfl⟩
  obtain ⟨M, hMM⟩ : ∃ M, (m0.take 10).map (fun v => cutM v.m) = M := ⟨_, rfl⟩
  have HLL := Lib.hid hLL
  have HMM := Lib.hid hMM
  have HI1 := Lib.hid hI1
  clear hI1 hLL hMM
  go_enter Try.func7, Try.ntmps7
  go_upto_region 2 with (go_at_call 9; refine (cut_is _ A0 B0 l0 m0 l0.length c0 m0.length d0 HI1.out (Lib.hid rfl) (Lib.hid rfl) L M HLL HMM).mono ?_; intro e w1 hcp; obtain ⟨A, c, Am, cm, rfl, hL1, hM1, hb1⟩ := hcp; have hrow := (hb1.block W.heap.size (by simp)).trans (heap_alloc_new W (.cells #[.slice A0 l0.length c0, .slice B0 m0.length d0] 25)); have x0 := (cell_of_row _ _ 0 _ _ _ hrow).trans rfl; have x1 := (cell_of_row _ _ 1 _ _ _ hrow).trans rfl; have f0 := frozen_of_row _ _ 0 _ _ hrow; have f1 := frozen_of_row _ _ 1 _ _ hrow; have HC1 := Lib.hid (And.intro hL1 (And.intro hM1 (And.intro hb1 hrow))); clear hL1 hM1 hb1 hrow)
  have hAW := ask_start HC1.out
  obtain ⟨w2, hw2⟩ : ∃ w2, (w1.setCell ⟨W.heap.size, 0, none⟩ (.slice A L.length c)).setCell ⟨W.heap.size, 1, none⟩ (.slice Am M.length cm) = w2 := ⟨_, rfl⟩
  rw [hw2] at hAW ⊢
  have AW := Lib.hid hAW
  have y0 := (cell_of_row _ _ 0 _ _ _ hAW.row).trans rfl
  have y1 := (cell_of_row _ _ 1 _ _ _ hAW.row).trans rfl
  obtain ⟨n, hn⟩ : ∃ n, L.length = n := ⟨_, rfl⟩
  obtain ⟨m, hm⟩ : ∃ m, M.length = m := ⟨_, rfl⟩
  rw [hn, hm] at AW y0 y1 ⊢
  have HN := Lib.hid hn
  have HM := Lib.hid hm
  obtain ⟨bw, hbw⟩ : ∃ b, W.heap.size = b := ⟨_, rfl⟩
  rw [hbw] at AW y0 y1 ⊢
  clear hw2 hAW x0 x1 f0 f1 hn hm hbw
  obtain ⟨x, hx⟩ := chk_is1 L M
  by_cases hx0 : x = 0
  · subst hx0
    have HX := Lib.hid hx
    have HG := Lib.hid (chk_ok hx).1
    have hm8 : m ≤ 8 := by rw [← HM.out]; exact (chk_ok hx).2.1
    have hn8 : n ≤ 8 := by rw [← HN.out]; exact (chk_ok hx).1.len
    clear hx
    by_cases hn0 : n = 0
    · have q : ((n : Int) == 0) = true := by simp [hn0]
      clear hn0
      go_wp2_with (first
        | (go_at_call 21; refine (fixed10_any _).mono ?_; rintro e w20 ⟨rfl, hb20⟩; have HB20 := Lib.hid hb20; clear hb20)
        | (go_at_call 15; refine (check_is _ A Am n c m cm L M 0 (Lib.hid AW.out.il) (Lib.hid AW.out.im) HX).mono ?_; rintro e w3 ⟨rfl, hb3⟩; have AW3 := Lib.hid (AW.out.below hb3); have y03 := (cell_of_row _ _ 0 _ _ _ AW3.out.row).trans rfl; have y13 := (cell_of_row _ _ 1 _ _ _ AW3.out.row).trans rfl; have hbw3 := (Array.getElem?_eq_some_iff.1 AW3.out.row).1; clear hb3))
      go_ret
      exact ⟨rfl, AW3.out.bel.trans (HB20.out.mono AW3.out.bel.size)⟩
    · have q : ((n : Int) == 0) = false := by simpa using hn0
      obtain ⟨yk, hyk⟩ : ∃ y : Nat, bits .and .i64 a1 65535 = (y : Int) := by
        have h := mask_le 65535 (by decide) a1
        exact ⟨(bits .and .i64 a1 65535).toNat, by have : (0 : Int) ≤ bits .and .i64 a1 65535 := h.1; omega⟩
      have hyb : yk ≤ 65535 := by
        have h : bits .and .i64 a1 65535 ≤ 65535 := (mask_le 65535 (by decide) a1).2
        omega
      obtain ⟨tq, htq⟩ : ∃ tq, yk % n = tq := ⟨_, rfl⟩
      have htq1 : tq < n := by rw [← htq]; exact Nat.mod_lt _ (by omega)
      have em1 := emod_n yk n tq htq
      have em2 := tmod_w yk n tq htq (by omega)
      have z1' : (n : Int) ≠ 0 := by omega
      obtain ⟨⟨xt, N0⟩, hs⟩ : ∃ s, L[tq]? = some s := ⟨_, List.getElem?_eq_getElem (by rw [HN.out]; exact htq1)⟩
      have hfit := HG.out.fit _ (List.mem_of_getElem? hs)
      dsimp only at hfit
      obtain ⟨N, rfl⟩ : ∃ N : Nat, N0 = (N : Int) := ⟨N0.toNat, by omega⟩
      have hN8 : N ≤ 8 := by omega
      obtain ⟨r, hr⟩ : ∃ r, N % 8 = r := ⟨_, rfl⟩
      have hr7 : r ≤ 7 := by omega
      have em3 : (N : Int) % 8 = (r : Int) := by omega
      have HS := Lib.hid hs
      obtain ⟨L', hL'⟩ : ∃ L', L.set tq ⟨xt, (r : Int) + 1⟩ = L' := ⟨_, rfl⟩
      have HXG : Hid (chkE L' M 0) := Lib.hid (by rw [← hL']; exact chk_grown HX.out hs (by omega))
      have HRG : Hid (∀ a, filt xt (rngL L' M a) = filt xt (rngL L M a)) := Lib.hid (fun a => by rw [← hL']; exact rng_grown M a hs _)
      have HLS : Hid (rowP L' = (rowP L).set (tq * 2 + 1) (.int .i64 ((r : Int) + 1))) := Lib.hid (by rw [← hL']; exact rowP_set hs)
      have HLT : Hid (L'.length = n ∧ (∀ y ∈ L', y.t.size ≤ 281474976710656) ∧ L'[tq]? = some ⟨xt, (r : Int) + 1⟩) := Lib.hid (by
        rw [← hL']
        refine ⟨by rw [List.length_set, HN.out], fun y hy => ?_, by rw [List.getElem?_set_self (by rw [HN.out]; exact htq1)]⟩
        rcases List.mem_or_eq_of_mem_set hy with h | h
        · exact AW.out.il.sz y h
        · rw [h]; show xt.size ≤ _; exact AW.out.il.sz ⟨xt, (N : Int)⟩ (List.mem_of_getElem? hs))
      obtain ⟨i1, hi1, hy0, hy1, hy2⟩ := info_parts topicInfo
      have q0 : (0 : Int) ≤ (tq : Int) := by omega
      have q1 : (tq : Int) < (n : Int) := by omega
      clear hs hfit hL' htq hr hn0
      go_upto_region 6 with (first
        | (at_builtin; have _q := AW3; go_loud (refine wpList_append_src (by rfl) _ _ 22 (by rfl) w3.heap.size 46 i1 _ 2 24 Try.underlying22 hi1 hy0 hy1 hy2 rfl (by decide) (.slice (some ⟨w3.heap.size, 0, none⟩) 0 0) 0 [] (by rfl) (World.ownsRow_made (size := 2) w3 #[] 0 (Nat.le_refl _) (by unfold maxLen; omega) rfl) A n c (rowP L) (by rfl) (by rw [rowP_len, HN.out]) ((readsP_src AW3.out.il.rd (fun e => List.eq_nil_of_length_eq_zero (by rw [HN.out]; exact (AW3.out.il.nil e).1))).below (one_box' _)) AW3.out.il.nil (rowP_one _) (by unfold maxLen; omega) (by omega) (by simp) ?_; intro v5 w5 hown5 hgrow5; rw [Nat.zero_add, List.nil_append] at hown5; have HB5 : Hid (Below w3.heap.size w3 w5) := Lib.hid ((one_box' _).grown hgrow5 (by simp) (fun q e => by simp [Value.ownBlock] at e; omega)); obtain ⟨A5, c5, rfl⟩ := own_len hown5; have HO5 := Lib.hid hown5; clear hown5 hgrow5))
        | (go_at_call 15; refine (check_is _ A Am n c m cm L M 0 (Lib.hid AW.out.il) (Lib.hid AW.out.im) HX).mono ?_; rintro e w3 ⟨rfl, hb3⟩; have AW3 := Lib.hid (AW.out.below hb3); have y03 := (cell_of_row _ _ 0 _ _ _ AW3.out.row).trans rfl; have y13 := (cell_of_row _ _ 1 _ _ _ AW3.out.row).trans rfl; have hbw3 := (Array.getElem?_eq_some_iff.1 AW3.out.row).1; clear hb3))
      have AW5 := Lib.hid (AW3.out.below HB5.out)
      have hrd5 := own_reads HO5.out HN.out (own_lt HO5.out)
      obtain ⟨g5, hA5, hg5, hc5⟩ := hrd5 (by rw [HN.out]; omega)
      subst hA5
      obtain ⟨k0, k1⟩ := hc5 tq _ HS.out
      dsimp only at k0 k1
      have hrow5 : ∃ cs, w5.heap[g5]? = some (.cells cs 46 (0, 0)) := by obtain ⟨cs, _, h⟩ := own_bk HO5.out g5 (by simp [bk]); exact ⟨cs, h⟩
      obtain ⟨cs5, hrow5⟩ := hrow5
      have f5 := frozen_of_row _ g5 (tq * 2 + 1) _ _ hrow5
      have HG5a : Hid (w3.heap.size ≤ g5) := Lib.hid (by obtain ⟨_, h, _⟩ := own_bk HO5.out g5 (by simp [bk]); exact h)
      clear hrd5 hc5 hrow5 y0 y1 y03 y13
      go_upto_region 7 with fail
      have hO6 := own_set (i := tq * 2 + 1) (u := .int .i64 ((r : Int) + 1)) HO5.out
      have hB6 : Below w3.heap.size w3 (w5.setCell ⟨g5, tq * 2 + 1, none⟩ (.int .i64 ((r : Int) + 1))) := ((Only.ofBelow (S := [g5]) HB5.out).setCell (.inl (by simp)) _).below (Nat.le_refl _) (fun k hk => by rw [show k = g5 by simpa using hk]; exact HG5a.out)
      obtain ⟨w6, hw6⟩ : ∃ w6, w5.setCell ⟨g5, tq * 2 + 1, none⟩ (.int .i64 ((r : Int) + 1)) = w6 := ⟨_, rfl⟩
      rw [hw6] at hO6 hB6 ⊢
      rw [← HLS.out] at hO6
      have HO6 := Lib.hid hO6
      have AW6 := Lib.hid (AW3.out.below hB6)
      have HL6 : Hid (IsL w6 w6.heap.size (some ⟨g5, 0, none⟩) n c5 L') := Lib.hid ⟨own_reads hO6 HLT.out.1 (own_lt hO6), HLT.out.1, (fun e => by cases e), HLT.out.2.1, by omega, by
        rcases hO6.2 with ⟨q, q0⟩ | ⟨g, cap, cur, q, _, _, hc, _⟩
        · cases q
        · injection q with _ _ q2; omega⟩
      have y06 := (cell_of_row _ _ 0 _ _ _ AW6.out.row).trans rfl
      have y16 := (cell_of_row _ _ 1 _ _ _ AW6.out.row).trans rfl
      obtain ⟨RA, hRA⟩ : ∃ RA, rangeL L M = RA := ⟨_, rfl⟩
      obtain ⟨RB, hRB⟩ : ∃ RB, rangeL L' M = RB := ⟨_, rfl⟩
      have HRA := Lib.hid hRA
      have HRB := Lib.hid hRB
      have HRAB : Hid (∀ i xa xb, RA[i]? = some xa → RB[i]? = some xb → filt xt xb = filt xt xa) := Lib.hid (fun i xa xb ha hb => by
        rw [← hRA, rangeL_eq] at ha
        rw [← hRB, rangeL_eq] at hb
        rw [List.getElem?_map] at ha hb
        obtain ⟨a, h1, rfl⟩ := Option.map_eq_some_iff.1 ha
        obtain ⟨b, h2, rfl⟩ := Option.map_eq_some_iff.1 hb
        rw [h1] at h2
        injection h2 with h2
        subst h2
        exact HRG.out a)
      have HA6n : Hid (RA.length = m) := Lib.hid (by rw [← hRA]; unfold rangeL; rw [listsL_len, HM.out])
      have HA7n : Hid (RB.length = m) := Lib.hid (by rw [← hRB]; unfold rangeL; rw [listsL_len, HM.out])
      have HA64 : Hid (∀ x ∈ RA, x.length ≤ 64) := Lib.hid (fun x hx => by rw [← hRA] at hx; exact range_64 HX.out hx)
      have HB64 : Hid (∀ x ∈ RB, x.length ≤ 64) := Lib.hid (fun x hx => by rw [← hRB] at hx; exact range_64 HXG.out hx)
      obtain ⟨i0, hi0, hz0, hz1, hz2⟩ := info_parts ptInfo
      clear hRA hRB hw6 hO6 hB6 k0 k1 f5
      go_upto_region 11 with (first
        | (go_at_call 10; have _q := HA7r; refine (range_ok _ (some ⟨g5, 0, none⟩) Am n c5 m cm L' M RB HL7 (Lib.hid AW7.out.im) HXG HRB).mono ?_; rintro e w8 ⟨A8, c8, rfl, hr8, hb8⟩; have AW8 := Lib.hid (AW7.out.below hb8); have HA6 := Lib.hid ((HA7r.out.below hb8).mono hb8.size); have HA7 := Lib.hid hr8; have HL8 := Lib.hid (HL7.out.up (Nat.le_refl _) hb8); have y18 := (cell_of_row _ _ 1 _ _ _ AW8.out.row).trans rfl; clear hr8 hb8)
        | (go_at_call 10; refine (range_ok _ A Am n c m cm L M RA (Lib.hid AW6.out.il) (Lib.hid AW6.out.im) HX HRA).mono ?_; rintro e w7 ⟨A7, c7, rfl, hr7, hb7⟩; have AW7 := Lib.hid (AW6.out.below hb7); have HL7 := Lib.hid (HL6.out.up (Nat.le_refl _) hb7); have y17 := (cell_of_row _ _ 1 _ _ _ AW7.out.row).trans rfl; have HA7r := Lib.hid hr7; clear hr7 hb7))
      clear y06 y16 y17
      go_wp2_with fail
      clear y18
      go_loopw [11] (fun s wr => ∃ i : Nat, i ≤ m ∧ s = .int .i64 i ∧ Hid (Below w8.heap.size w8 wr)) (fun s _ => m - (intOf s).toNat)
      case atStart => exact ⟨0, by omega, rfl, Lib.hid (Below.refl _ _)⟩
      case round =>
        obtain ⟨i, hi, rfl, HB⟩ := hrel
        have hAW := AW8.out.below HB.out
        have y1 := (cell_of_row _ _ 1 _ _ _ hAW.row).trans rfl
        by_cases hlt : i < m
        · obtain ⟨xa, hxa⟩ : ∃ x, RA[i]? = some x := ⟨_, List.getElem?_eq_getElem (by rw [HA6n.out]; exact hlt)⟩
          obtain ⟨xb, hxb⟩ : ∃ x, RB[i]? = some x := ⟨_, List.getElem?_eq_getElem (by rw [HA7n.out]; exact hlt)⟩
          have h64a := HA64.out xa (List.mem_of_getElem? hxa)
          have h64b := HB64.out xb (List.mem_of_getElem? hxb)
          have HEQ := Lib.hid (HRAB.out i xa xb hxa hxb)
          have HXxa := Lib.hid hxa
          have HXxb := Lib.hid hxb
          obtain ⟨xan, hxan⟩ : ∃ k, xa.length = k := ⟨_, rfl⟩
          obtain ⟨xbn, hxbn⟩ : ∃ k, xb.length = k := ⟨_, rfl⟩
          rw [hxan] at h64a
          rw [hxbn] at h64b
          have HLxa := Lib.hid hxan
          have HLxb := Lib.hid hxbn
          have H64 : Hid (xan ≤ 64 ∧ xbn ≤ 64) := Lib.hid ⟨h64a, h64b⟩
          obtain ⟨gl, hgl, hgl2, hcl⟩ := HL8.out.rd (by rw [HLT.out.1]; omega)
          injection hgl with hgl
          injection hgl with hgl
          subst hgl
          have L1 := Lib.hid (hcl tq _ HLT.out.2.2).1
          have HG5 := Lib.hid hgl2
          have b0 : (0 : Int) ≤ (i : Int) := by omega
          have b1 : (i : Int) < (m : Int) := by omega
          obtain ⟨bz, hbz⟩ : ∃ b, wr.heap.size = b := ⟨_, rfl⟩
          have HB0 : Hid (Below bz wr ((wr.alloc (.cells #[] 27)).alloc (.cells #[] 27))) := Lib.hid (hbz ▸ two_box _ _)
          have HO0a : Hid (((wr.alloc (.cells #[] 27)).alloc (.cells #[] 27)).ownsRow bz 27 2 (.slice (some ⟨bz, 0, none⟩) 0 0) 0 []) := Lib.hid (hbz ▸ own_below (World.ownsRow_made (size := 2) wr #[] 0 (Nat.le_refl _) (by unfold maxLen; omega) rfl) (one_box' _))
          have HO0b : Hid (((wr.alloc (.cells #[] 27)).alloc (.cells #[] 27)).ownsRow bz 27 2 (.slice (some ⟨bz + 1, 0, none⟩) 0 0) 0 []) := Lib.hid (by
            have h := World.ownsRow_made (base := bz) (e := 27) (size := 2) (wr.alloc (.cells #[] 27)) #[] 0 (by simp; omega) (by unfold maxLen; omega) rfl
            rw [show (wr.alloc (.cells #[] 27)).heap.size = bz + 1 by simp [hbz]] at h
            exact h)
          have HZA : Hid (w8.heap.size ≤ bz) := Lib.hid (by rw [← hbz]; exact HB.out.size)
          have HA6 := Lib.hid ((HA6.out.below HB.out))
          have HA7 := Lib.hid ((HA7.out.below HB.out))
          have L1 := Lib.hid ((HB.out.cell (p := ⟨g5, tq * 2, none⟩) HG5.out).trans L1.out)
          have HAWI := Lib.hid hAW
          obtain ⟨wz, hwz⟩ : ∃ wz, wz = wr := ⟨_, rfl⟩
          have HWZ : Hid (wz.heap.size = bz) := Lib.hid (by rw [hwz]; exact hbz)
          rw [← hwz] at HB0 HA6 HA7 L1 HO0a HO0b HAWI HB
          clear hxa hxb hxan hxbn hcl hAW
          go_wp2_with fail
          (try rw [hbz])
          (try simp only [← hwz])
          clear y1 hbz hwz
          go_loopw [12, 14] (fun v s wr => ∃ k q g' c' : Nat, k ≤ xan ∧ s = .int .i64 k ∧ v = .slice (some ⟨g', 0, none⟩) q c' ∧ q ≤ k ∧ Hid ((filt xt (xa.take k)).length = q) ∧ Hid (wr.ownsRow bz 27 2 (.slice (some ⟨g', 0, none⟩) q c') q (rowP (filt xt (xa.take k)))) ∧ Hid (g' ≠ (bz + 1)) ∧ Hid (wr.ownsRow bz 27 2 (.slice (some ⟨bz + 1, 0, none⟩) 0 0) 0 []) ∧ Hid (Below bz wz wr)) (fun _ s _ => xan - (intOf s).toNat)
          case atStart => exact ⟨0, 0, _, 0, by omega, rfl, rfl, by omega, Lib.hid rfl, HO0a, Lib.hid (by omega), HO0b, HB0⟩
          case round =>
            obtain ⟨k, q, g', c', hk, rfl, rfl, hqk, HQ, HO, HNE, HOO, HBK⟩ := hrel
            obtain ⟨gA, hAe, _, hgA, hcA⟩ := HA6.out (by rw [HA6n.out]; omega)
            subst hAe
            obtain ⟨Ai, ci, d0, hrd, _⟩ := hcA i _ HXxa.out
            have d0 := (HBK.out.cell (p := ⟨gA, i, none⟩) (by have := HZA.out; show gA < _; omega)).trans d0
            rw [HLxa.out] at d0
            have HRD := Lib.hid (hrd.below (HBK.out.mono HZA.out))
            have HGA := Lib.hid hgA
            have l1 := (HBK.out.cell (p := ⟨g5, tq * 2, none⟩) (by have := HG5.out; have := HZA.out; show g5 < _; omega)).trans L1.out
            clear hcA hrd
            by_cases hkn : k < xan
            · obtain ⟨gi, hAi, hgi, hci⟩ := HRD.out (by rw [HLxa.out]; omega)
              subst hAi
              obtain ⟨⟨yt, yn⟩, hs⟩ : ∃ s, xa[k]? = some s := ⟨_, List.getElem?_eq_getElem (by rw [HLxa.out]; exact hkn)⟩
              obtain ⟨e0, e1⟩ := hci k _ hs
              dsimp only at e0 e1
              have j0 : (0 : Int) ≤ (k : Int) := by omega
              have j1 : (k : Int) < (xan : Int) := by omega
              have HF := Lib.hid (filt_next xt hs)
              have HZB : Hid (bz ≤ wr.heap.size) := Lib.hid (by rw [← HWZ.out]; exact HBK.out.size)
              have HGI : Hid (gi < wr.heap.size) := Lib.hid (by have h1 := HZA.out; have h2 := HZB.out; omega)
              clear hs hci
              by_cases heq : yt = xt
              · have hq : (yt.toList == xt.toList) = true := by rw [heq]; simp
                have HF' : Hid (filt xt (xa.take (k + 1)) = filt xt (xa.take k)) := Lib.hid (by rw [HF.out, if_pos heq, List.append_nil])
                clear heq
                go_wp2_with fail
                go_quiet (fail)
                go_wp2_with fail
                go_roundw
                case rel => exact ⟨k + 1, q, g', c', by omega, by go_num, rfl, by omega, by rw [HF'.out]; exact HQ, by rw [HF'.out]; exact Lib.hid (own_below HO.out (drewN_below (Below.refl _ _) _)), HNE, Lib.hid (own_below HOO.out (drewN_below (Below.refl _ _) _)), Lib.hid (drewN_below HBK.out _)⟩
                case measure => simp [intOf]; omega
              · have hq : (yt.toList == xt.toList) = false := bytes_off heq
                have HF' : Hid (filt xt (xa.take (k + 1)) = filt xt (xa.take k) ++ [⟨yt, yn⟩]) := Lib.hid (by rw [HF.out, if_neg heq])
                clear heq
                go_wp2_with fail
                go_quiet (fail)
                obtain ⟨wd, hwd⟩ : ∃ wd, wr.drewN nq = wd := ⟨_, rfl⟩
                have hbd : Below wr.heap.size wr wd := by rw [← hwd]; exact drewN_below (Below.refl _ _) _
                have HOD := Lib.hid (own_below HO.out hbd)
                have HOOD := Lib.hid (own_below HOO.out hbd)
                have HBD : Hid (Below bz wz wd) := Lib.hid (HBK.out.trans (hbd.mono HZB.out))
                have HWD : Hid (bz ≤ wd.heap.size) := Lib.hid (Nat.le_trans HZB.out hbd.size)
                have d0d := (hbd.cell (p := ⟨gA, i, none⟩) (by have := HZB.out; have := HGA.out; have := HZA.out; show gA < _; omega)).trans d0
                have e0d := (hbd.cell (p := ⟨gi, k * 2, none⟩) HGI.out).trans e0
                have e1d := (hbd.cell (p := ⟨gi, k * 2 + 1, none⟩) HGI.out).trans e1
                rw [hwd]
                clear d0 e0 e1 l1 hwd hbd
                go_wp2_with (at_builtin; go_loud (refine wpList_append_lies _ rfl _ _ 36 (by rfl) bz 27 i0 _ 2 24 Try.underlying36 hi0 hz0 hz1 hz2 rfl (by decide) (.slice (some ⟨g', 0, none⟩) q c') q (rowP (filt xt (xa.take k))) (by rfl) (HOD.out.alloc _) ⟨wd.heap.size, 0, none⟩ 1 1 [.string yt, .int .i64 yn] (by rfl) (by rfl) (World.news_of_block (cs := #[.string yt, .int .i64 yn]) (t := 27) (fr := (0, 0)) (heap_alloc_new wd _)) (by simp [Value.oneCell']) (by decide) (by have := H64.out; unfold maxLen; omega) (by have := H64.out; omega) (by have := HWD.out; simp; omega) (wd.heap.size + 1) (by simp) ?_; intro g7 c7 w7 hown7 hgrow7 hat7 hlt7; have HO7 := Lib.hid hown7; have HT7 := Lib.hid hat7; have HOO7 := Lib.hid (own_at HOOD.out (fun b e => (hgrow7.block b (Nat.lt_of_lt_of_le (HOOD.out.lt b e).2 (one_box' _).size) (fun e2 => ne_own e e2 HNE.out)).trans (Below.heap_alloc _ _ _ (HOOD.out.lt b e).2))); have HB7 := Lib.hid ((HBD.out.alloc HWD.out _).grown hgrow7 (by have := HWD.out; simp; omega) (fun b e => (HOD.out.lt b e).1)); have HN7 : Hid (g7 ≠ (bz + 1)) := Lib.hid (new_ne HT7.out HNE.out (by have := (HOOD.out.lt (bz + 1) rfl).2; omega)); clear hown7 hgrow7 hat7 hlt7))
                go_roundw
                case rel => exact ⟨k + 1, q + 1, g7, c7, by omega, by go_num, rfl, by omega, Lib.hid (by rw [HF'.out, List.length_append, HQ.out]; rfl), Lib.hid (by rw [HF'.out, rowP_app]; exact HO7.out), HN7, HOO7, HB7⟩
                case measure => simp [intOf]; omega
            · obtain rfl : xan = k := by omega
              have HFQ : Hid ((filt xt xa).length = q) := Lib.hid (by have := HQ.out; rwa [List.take_of_length_le (by rw [HLxa.out]; exact Nat.le_refl _)] at this)
              have HFO : Hid (wr.ownsRow bz 27 2 (.slice (some ⟨g', 0, none⟩) q c') q (rowP (filt xt xa))) := Lib.hid (by have := HO.out; rwa [List.take_of_length_le (by rw [HLxa.out]; exact Nat.le_refl _)] at this)
              clear l1
              have HXO := HFO
              have HXQ := HFQ
              have HNEx := Lib.hid (Ne.symm HNE.out)
              have HYb := HOO
              have HBX := HBK
              obtain ⟨gx, hgx⟩ : ∃ gx, g' = gx := ⟨_, rfl⟩
              obtain ⟨qx, hqx⟩ : ∃ qx, q = qx := ⟨_, rfl⟩
              obtain ⟨cx, hcx⟩ : ∃ cx, c' = cx := ⟨_, rfl⟩
              have HQX : Hid (qx ≤ 64) := Lib.hid (by rw [← hqx]; have := H64.out; omega)
              rw [hgx, hqx, hcx] at HXO
              rw [hqx] at HXQ
              rw [hgx] at HNEx
              go_wp2_with fail
              rw [hgx, hqx, hcx]
              clear HO HQ HNE HOO HBK HFO HFQ hgx hqx hcx HRD d0 hqk
              go_loopw [13, 15] (fun v s wr => ∃ k q g' c' : Nat, k ≤ xbn ∧ s = .int .i64 k ∧ v = .slice (some ⟨g', 0, none⟩) q c' ∧ q ≤ k ∧ Hid ((filt xt (xb.take k)).length = q) ∧ Hid (wr.ownsRow bz 27 2 (.slice (some ⟨g', 0, none⟩) q c') q (rowP (filt xt (xb.take k)))) ∧ Hid (g' ≠ gx) ∧ Hid (wr.ownsRow bz 27 2 (.slice (some ⟨gx, 0, none⟩) qx cx) qx (rowP (filt xt xa))) ∧ Hid (Below bz wz wr)) (fun _ s _ => xbn - (intOf s).toNat)
              case atStart => exact ⟨0, 0, _, 0, by omega, rfl, rfl, by omega, Lib.hid rfl, HYb, HNEx, HXO, HBX⟩
              case round =>
                obtain ⟨k, q, g', c', hk, rfl, rfl, hqk, HQ, HO, HNE, HOO, HBK⟩ := hrel
                obtain ⟨gA, hAe, _, hgA, hcA⟩ := HA7.out (by rw [HA7n.out]; omega)
                subst hAe
                obtain ⟨Ai, ci, d0, hrd, _⟩ := hcA i _ HXxb.out
                have d0 := (HBK.out.cell (p := ⟨gA, i, none⟩) (by have := HZA.out; show gA < _; omega)).trans d0
                rw [HLxb.out] at d0
                have HRD := Lib.hid (hrd.below (HBK.out.mono HZA.out))
                have HGA := Lib.hid hgA
                have l1 := (HBK.out.cell (p := ⟨g5, tq * 2, none⟩) (by have := HG5.out; have := HZA.out; show g5 < _; omega)).trans L1.out
                clear hcA hrd
                by_cases hkn : k < xbn
                · obtain ⟨gi, hAi, hgi, hci⟩ := HRD.out (by rw [HLxb.out]; omega)
                  subst hAi
                  obtain ⟨⟨yt, yn⟩, hs⟩ : ∃ s, xb[k]? = some s := ⟨_, List.getElem?_eq_getElem (by rw [HLxb.out]; exact hkn)⟩
                  obtain ⟨e0, e1⟩ := hci k _ hs
                  dsimp only at e0 e1
                  have j0 : (0 : Int) ≤ (k : Int) := by omega
                  have j1 : (k : Int) < (xbn : Int) := by omega
                  have HF := Lib.hid (filt_next xt hs)
                  have HZB : Hid (bz ≤ wr.heap.size) := Lib.hid (by rw [← HWZ.out]; exact HBK.out.size)
                  have HGI : Hid (gi < wr.heap.size) := Lib.hid (by have h1 := HZA.out; have h2 := HZB.out; omega)
                  clear hs hci
                  by_cases heq : yt = xt
                  · have hq : (yt.toList == xt.toList) = true := by rw [heq]; simp
                    have HF' : Hid (filt xt (xb.take (k + 1)) = filt xt (xb.take k)) := Lib.hid (by rw [HF.out, if_pos heq, List.append_nil])
                    clear heq
                    go_wp2_with fail
                    go_quiet (fail)
                    go_wp2_with fail
                    go_roundw
                    case rel => exact ⟨k + 1, q, g', c', by omega, by go_num, rfl, by omega, by rw [HF'.out]; exact HQ, by rw [HF'.out]; exact Lib.hid (own_below HO.out (drewN_below (Below.refl _ _) _)), HNE, Lib.hid (own_below HOO.out (drewN_below (Below.refl _ _) _)), Lib.hid (drewN_below HBK.out _)⟩
                    case measure => simp [intOf]; omega
                  · have hq : (yt.toList == xt.toList) = false := bytes_off heq
                    have HF' : Hid (filt xt (xb.take (k + 1)) = filt xt (xb.take k) ++ [⟨yt, yn⟩]) := Lib.hid (by rw [HF.out, if_neg heq])
                    clear heq
                    go_wp2_with fail
                    go_quiet (fail)
                    obtain ⟨wd, hwd⟩ : ∃ wd, wr.drewN nq = wd := ⟨_, rfl⟩
                    have hbd : Below wr.heap.size wr wd := by rw [← hwd]; exact drewN_below (Below.refl _ _) _
                    have HOD := Lib.hid (own_below HO.out hbd)
                    have HOOD := Lib.hid (own_below HOO.out hbd)
                    have HBD : Hid (Below bz wz wd) := Lib.hid (HBK.out.trans (hbd.mono HZB.out))
                    have HWD : Hid (bz ≤ wd.heap.size) := Lib.hid (Nat.le_trans HZB.out hbd.size)
                    have d0d := (hbd.cell (p := ⟨gA, i, none⟩) (by have := HZB.out; have := HGA.out; have := HZA.out; show gA < _; omega)).trans d0
                    have e0d := (hbd.cell (p := ⟨gi, k * 2, none⟩) HGI.out).trans e0
                    have e1d := (hbd.cell (p := ⟨gi, k * 2 + 1, none⟩) HGI.out).trans e1
                    rw [hwd]
                    clear d0 e0 e1 l1 hwd hbd
                    go_wp2_with (at_builtin; go_loud (refine wpList_append_lies _ rfl _ _ 36 (by rfl) bz 27 i0 _ 2 24 Try.underlying36 hi0 hz0 hz1 hz2 rfl (by decide) (.slice (some ⟨g', 0, none⟩) q c') q (rowP (filt xt (xb.take k))) (by rfl) (HOD.out.alloc _) ⟨wd.heap.size, 0, none⟩ 1 1 [.string yt, .int .i64 yn] (by rfl) (by rfl) (World.news_of_block (cs := #[.string yt, .int .i64 yn]) (t := 27) (fr := (0, 0)) (heap_alloc_new wd _)) (by simp [Value.oneCell']) (by decide) (by have := H64.out; unfold maxLen; omega) (by have := H64.out; omega) (by have := HWD.out; simp; omega) (wd.heap.size + 1) (by simp) ?_; intro g7 c7 w7 hown7 hgrow7 hat7 hlt7; have HO7 := Lib.hid hown7; have HT7 := Lib.hid hat7; have HOO7 := Lib.hid (own_at HOOD.out (fun b e => (hgrow7.block b (Nat.lt_of_lt_of_le (HOOD.out.lt b e).2 (one_box' _).size) (fun e2 => ne_own e e2 HNE.out)).trans (Below.heap_alloc _ _ _ (HOOD.out.lt b e).2))); have HB7 := Lib.hid ((HBD.out.alloc HWD.out _).grown hgrow7 (by have := HWD.out; simp; omega) (fun b e => (HOD.out.lt b e).1)); have HN7 : Hid (g7 ≠ gx) := Lib.hid (new_ne HT7.out HNE.out (by have := (HOOD.out.lt gx rfl).2; omega)); clear hown7 hgrow7 hat7 hlt7))
                    go_roundw
                    case rel => exact ⟨k + 1, q + 1, g7, c7, by omega, by go_num, rfl, by omega, Lib.hid (by rw [HF'.out, List.length_append, HQ.out]; rfl), Lib.hid (by rw [HF'.out, rowP_app]; exact HO7.out), HN7, HOO7, HB7⟩
                    case measure => simp [intOf]; omega
                · obtain rfl : xbn = k := by omega
                  have HFQ : Hid ((filt xt xb).length = q) := Lib.hid (by have := HQ.out; rwa [List.take_of_length_le (by rw [HLxb.out]; exact Nat.le_refl _)] at this)
                  have HFO : Hid (wr.ownsRow bz 27 2 (.slice (some ⟨g', 0, none⟩) q c') q (rowP (filt xt xb))) := Lib.hid (by have := HO.out; rwa [List.take_of_length_le (by rw [HLxb.out]; exact Nat.le_refl _)] at this)
                  clear l1
                  have HRX := Lib.hid (own_reads HOO.out HXQ.out (own_lt HOO.out))
                  have HRY := Lib.hid (own_reads HFO.out HFQ.out (own_lt HFO.out))
                  have HBN : Hid (Below w8.heap.size w8 wr) := Lib.hid (HB.out.trans (HBK.out.mono HZA.out))
                  have hqx64 : qx ≤ 1000000 := Nat.le_trans HQX.out (by decide)
                  go_wp2_with (go_at_call 23; refine (parts_is (some ⟨gx, 0, none⟩) (some ⟨g', 0, none⟩) (filt xt xa) (filt xt xb) qx q cx c' wr.heap.size true _ HRX HRY (Nat.le_refl _) HXQ HFQ hqx64 (Lib.hid ⟨fun _ => HEQ.out.symm, fun _ => rfl⟩)).mono ?_; rintro e w9 ⟨rfl, hb9⟩; have HB9 := Lib.hid (HBN.out.trans (hb9.mono HBN.out.size)); clear hb9)
                  go_roundw
                  case rel => exact ⟨i + 1, by omega, by go_num, HB9⟩
                  case measure => simp [intOf]; omega
        · obtain rfl : i = m := by omega
          go_wp2_with (go_at_call 21; refine (fixed10_any _).mono ?_; rintro e w20 ⟨rfl, hb20⟩; have HB20 := Lib.hid hb20; clear hb20)
          go_ret
          exact ⟨rfl, hAW.bel.trans (HB20.out.mono hAW.bel.size)⟩
  · have HX := Lib.hid hx
    have q := ne_zero hx0
    clear hx
    go_wp2_with (first
      | (go_at_call 21; refine (fixed10_any _).mono ?_; rintro e w20 ⟨rfl, hb20⟩; have HB20 := Lib.hid hb20; clear hb20)
      | (go_at_call 15; refine (check_is _ A Am n c m cm L M x (Lib.hid AW.out.il) (Lib.hid AW.out.im) HX).mono ?_; rintro e w3 ⟨rfl, hb3⟩; have AW3 := Lib.hid (AW.out.below hb3); have y03 := (cell_of_row _ _ 0 _ _ _ AW3.out.row).trans rfl; have y13 := (cell_of_row _ _ 1 _ _ _ AW3.out.row).trans rfl; have hbw3 := (Array.getElem?_eq_some_iff.1 AW3.out.row).1; clear hb3))
    go_ret
    exact ⟨rfl, AW3.out.bel.trans (HB20.out.mono AW3.out.bel.size)⟩

set_option maxRecDepth 100000 in
set_option maxHeartbeats 1000000 in
theorem lifted (os : Os) (started : os.Started) (H : Type) (enc : TypeId × Value → H) :
    ReturnsInHanded {} Try.checked os 7 .any (Rows.assignGrowsSpec.pre6 enc Try.prog Try.f7 Rows.assignGrowsRow.domain false) (Rows.assignGrowsSpec.post enc Try.prog Try.f7 false true false false) := by
  refine returnsInHanded_of_change (C := Try.checked) own started (by kernel_rfl) Try.func7
    (ChangeSpec.witness6 (enc := enc) (C := Try.checked) false ⟨#[], #[.agg #[.slice none 0 0, .slice none 0 0], .int .i64 0], []⟩ 8 (by kernel_rfl) (by kernel_rfl) (by kernel_rfl) (by kernel_rfl)) ?_
  intro W base args ds gs before hval0 hW _ _
  have hval : ∀ (j : Nat) t v, Try.f7.params[j]? = some t → args[j]? = some v → Value.okWide Try.prog W .any base t v := hval0
  have hW' := hW
  obtain ⟨p, q, hA0, hV, rfl, hfz, hnd⟩ := hW
  have hA : DataW.TrodAll enc Try.prog W 0 (fun _ => true) true Try.f7.params.toList args.toList ds p := hA0
  rw [Try.params7] at hA hval
  obtain ⟨v0, vs0, d0, ds0, p0, q0, hargs, rfl, rfl, h0, r0⟩ := trodAll_cons hA
  obtain ⟨v1, vs1, d1, ds1, p1, q1, rfl, rfl, rfl, h1, r1⟩ := trodAll_cons r0
  obtain ⟨rfl, rfl, rfl⟩ := trodAll_nil r1
  obtain rfl : args = #[v0, v1] := by cases args; simp_all
  obtain ⟨rfl, rfl⟩ := trodVars_none hV
  have k0 := h0
  have lt0 : ∀ x ∈ p0, x.block < W.heap.size := by obtain ⟨m, hm⟩ := k0; exact DataW.trod_lt m _ _ _ hm
  have k1 := h1
  have lt1 : ∀ x ∈ p1, x.block < W.heap.size := by obtain ⟨m, hm⟩ := k1; exact DataW.trod_lt m _ _ _ hm
  obtain ⟨A0, B0, l0, m0, c0, d0, e0, R0⟩ := L10.open_ask (hval 0 25 v0 rfl rfl) h0
  subst e0
  obtain ⟨a1, e1, _, _, w1⟩ := open_int Try.underlying3 (hval 1 3 v1 rfl rfl) h1
  subst e1
  clear hA0 hval0
  refine (walk W A0 B0 l0 m0 c0 d0 R0 a1 w1).mono fun e W' ⟨he, bel⟩ => ?_
  subst he
  exact ⟨_, rfl, _, _, _, [], _, [], hW', trodAll_mk1 (shut_bool Try.underlying4 _), (trodAll_cons_mk (Below.trod laidOut (by kernel_rfl) (of_decide_eq_true (by kernel_rfl)) k0 bel lt0) (trodAll_cons_mk (Below.trod laidOut (by kernel_rfl) (of_decide_eq_true (by kernel_rfl)) k1 bel lt1) trodAll_mk0)), rfl, bel.frame _, fun h => by cases h⟩

theorem over : Rows.assignGrowsRow.holds Try.pinned (OpenSpec.ofChange Rows.assignGrowsSpec) :=
  OpenClaim.holds_of_wide 7 Try.f7 rfl rfl rfl rfl rfl rfl rfl ⟨rfl, rfl, rfl, rfl, rfl⟩ rfl rfl rfl rfl rfl (by kernel_rfl) Try.func7 (by kernel_rfl)
    (of_decide_eq_true (by kernel_rfl)) (by unfold Func.isWrapper; first | (rw [if_pos (by decide +kernel)]; kernel_rfl) | (rw [if_neg (by decide +kernel)]; exact ⟨rfl, rfl⟩))
    (fun os started H enc _ => lifted os started H enc)

/-- the statement -/
theorem proved : Rows.AssignGrowsSaid :=
  over
#print axioms proved
end Go.Proofs.Ythogigaepnpmeaa.assignGrows
