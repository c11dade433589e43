/-
  Proved: a member that leaves gives its partitions to others that want them, and a topic that only it wanted is nobody's; members that want nothing have none, and change nothing of what others have (of at most 8 topics and members). No condition.
-/
import Derived.Test.YthogigaepnpmeaaRows
import Derived.WalkKit
import Derived.ProofKit
import Derived.OpenShut
import Derived.ShutString
import Derived.ChangeOld
import Derived.Below
import Derived.Test.YthogigaepnpmeaaAsMems
import Derived.LoopTactic
import Derived.IntWalk
namespace Go.Proofs.Ythogigaepnpmeaa.assignLess
open Go.ChangeShapes Go.WideShapes Go.ChangeAt Go.RowKit Go.Deep
open Go.ChangeMaps (open_string shut_string)
open L3 L4 L9 L10

theorem own : ownKnob Try.prog.godebug = none := by kernel_rfl
theorem laidOut : laidOutB Try.prog = true := by kernel_rfl

theorem mask_le (m : Nat) (hm : m < 9223372036854775808) (x : Int) : 0 ≤ bits .and .i64 x (m : Int) ∧ bits .and .i64 x (m : Int) ≤ m := by
  have e : (BitVec.ofInt 64 x &&& BitVec.ofInt 64 (m : Int)).toNat ≤ m := by
    rw [BitVec.toNat_and]
    refine Nat.le_trans Nat.and_le_right ?_
    rw [BitVec.ofInt_natCast, BitVec.toNat_ofNat, Nat.mod_eq_of_lt (by omega)]
    exact Nat.le_refl _
  show 0 ≤ IntKind.i64.wrap ((BitVec.ofInt 64 x &&& BitVec.ofInt 64 (m : Int)).toNat : Int) ∧ IntKind.i64.wrap ((BitVec.ofInt 64 x &&& BitVec.ofInt 64 (m : Int)).toNat : Int) ≤ m
  rw [IntWalk.i64_in _ (by omega)]
  omega
set_option maxRecDepth 100000 in
set_option maxHeartbeats 16000000 in
theorem walk (W : World) (A0 B0 : Option Addr) (l0 : List Pt) (m0 : List Me) (c0 d0 : Nat) (R0 : IsAsk W A0 B0 l0 m0) (a1 : Int) (_ : (Lit.int .i64 a1).wf = true) :
    Calls Try.prog 6 #[.agg #[.slice A0 l0.length c0, .slice B0 m0.length d0], .int .i64 a1] W fun e w' => e = .returned (.bool true) ∧ Below W.heap.size W w' := by
  have hI1 := R0.below (one_box' (w := W) (.cells #[.slice A0 l0.length c0, .slice B0 m0.length d0] 25))
  obtain ⟨L, hLL⟩ : ∃ L, (l0.take 10).map cutP = L := ⟨_, rfl⟩
  obtain ⟨M, hMM⟩ : ∃ M, (m0.take 10).map (fun v => cutM v.m) = M := ⟨_, rfl⟩
  have HLL := Lib.hid hLL
  have HMM := Lib.hid hMM
  have HI1 := Lib.hid hI1
  clear hI1 hLL hMM
  go_enter Try.func6, Try.ntmps6
  go_upto_region 2 with (go_at_call 9; refine (cut_is _ A0 B0 l0 m0 l0.length c0 m0.length d0 HI1.out (Lib.hid rfl) (Lib.hid rfl) L M HLL HMM).mono ?_; intro e w1 hcp; obtain ⟨A, c, Am, cm, rfl, hL1, hM1, hb1⟩ := hcp; have hrow := (hb1.block W.heap.size (by simp)).trans (heap_alloc_new W (.cells #[.slice A0 l0.length c0, .slice B0 m0.length d0] 25)); have x0 := (cell_of_row _ _ 0 _ _ _ hrow).trans rfl; have x1 := (cell_of_row _ _ 1 _ _ _ hrow).trans rfl; have f0 := frozen_of_row _ _ 0 _ _ hrow; have f1 := frozen_of_row _ _ 1 _ _ hrow; have HC1 := Lib.hid (And.intro hL1 (And.intro hM1 (And.intro hb1 hrow))); clear hL1 hM1 hb1 hrow)
  have hAW := ask_start HC1.out
  obtain ⟨w2, hw2⟩ : ∃ w2, (w1.setCell ⟨W.heap.size, 0, none⟩ (.slice A L.length c)).setCell ⟨W.heap.size, 1, none⟩ (.slice Am M.length cm) = w2 := ⟨_, rfl⟩
  rw [hw2] at hAW ⊢
  have AW := Lib.hid hAW
  have y0 := (cell_of_row _ _ 0 _ _ _ hAW.row).trans rfl
  have y1 := (cell_of_row _ _ 1 _ _ _ hAW.row).trans rfl
  obtain ⟨n, hn⟩ : ∃ n, L.length = n := ⟨_, rfl⟩
  obtain ⟨m, hm⟩ : ∃ m, M.length = m := ⟨_, rfl⟩
  rw [hn, hm] at AW y0 y1 ⊢
  have HN := Lib.hid hn
  have HM := Lib.hid hm
  obtain ⟨bw, hbw⟩ : ∃ b, W.heap.size = b := ⟨_, rfl⟩
  rw [hbw] at AW y0 y1 ⊢
  clear hw2 hAW x0 x1 f0 f1 hn hm hbw
  obtain ⟨x, hx⟩ := chk_is1 L M
  by_cases hx0 : x = 0
  · subst hx0
    have HX := Lib.hid hx
    have hm8 : m ≤ 8 := by rw [← HM.out]; exact (chk_ok hx).2.1
    clear hx
    by_cases hm0 : m = 0
    · have q : ((m : Int) == 0) = true := by simp [hm0]
      clear hm0
      go_wp2_with (first
        | (go_at_call 21; refine (fixed10_any _).mono ?_; rintro e w20 ⟨rfl, hb20⟩; have HB20 := Lib.hid hb20; clear hb20)
        | (go_at_call 15; refine (check_is _ A Am n c m cm L M 0 (Lib.hid AW.out.il) (Lib.hid AW.out.im) HX).mono ?_; rintro e w3 ⟨rfl, hb3⟩; have AW3 := Lib.hid (AW.out.below hb3); have y03 := (cell_of_row _ _ 0 _ _ _ AW3.out.row).trans rfl; have y13 := (cell_of_row _ _ 1 _ _ _ AW3.out.row).trans rfl; have hbw3 := (Array.getElem?_eq_some_iff.1 AW3.out.row).1; clear hb3))
      go_ret
      exact ⟨rfl, AW3.out.bel.trans (HB20.out.mono AW3.out.bel.size)⟩
    · have q : ((m : Int) == 0) = false := by simpa using hm0
      obtain ⟨yk, hyk⟩ : ∃ y : Nat, bits .and .i64 a1 65535 = (y : Int) := by
        have h := mask_le 65535 (by decide) a1
        exact ⟨(bits .and .i64 a1 65535).toNat, by have : (0 : Int) ≤ bits .and .i64 a1 65535 := h.1; omega⟩
      have hyb : yk ≤ 65535 := by
        have h : bits .and .i64 a1 65535 ≤ 65535 := (mask_le 65535 (by decide) a1).2
        omega
      obtain ⟨z, hz⟩ : ∃ z, yk % m = z := ⟨_, rfl⟩
      have hz1 : z < m := by rw [← hz]; exact Nat.mod_lt _ (by omega)
      have em1 := emod_n yk m z hz
      have em2 := tmod_w yk m z hz (by omega)
      have z1' : (m : Int) ≠ 0 := by omega
      have HZM : Hid (z < M.length) := Lib.hid (by rw [HM.out]; exact hz1)
      clear hz
      have hyk2 := Lib.hid hyk
      go_upto_region 5 with (go_at_call 15; refine (check_is _ A Am n c m cm L M 0 (Lib.hid AW.out.il) (Lib.hid AW.out.im) HX).mono ?_; rintro e w3 ⟨rfl, hb3⟩; have AW3 := Lib.hid (AW.out.below hb3); have y03 := (cell_of_row _ _ 0 _ _ _ AW3.out.row).trans rfl; have y13 := (cell_of_row _ _ 1 _ _ _ AW3.out.row).trans rfl; have hbw3 := (Array.getElem?_eq_some_iff.1 AW3.out.row).1; clear hb3)
      simp only [em1]
      clear em1 em2 z1' hyk hyb
      obtain ⟨sl, gm, hsl, hAm, hgm, hcl, hmr⟩ := mes_of AW3.out.im (by omega)
      subst hAm
      have HSL := Lib.hid hsl
      have HCL := Lib.hid hcl
      have HMR := Lib.hid hmr
      have HSM : Hid (sl.length = m) := Lib.hid (by rw [← HM.out, ← hsl, List.length_map])
      have HCM := Lib.hid AW3.out.im.cap
      have hcm1 : (m : Int) ≤ (cm : Int) := by have := HCM.out; omega
      have hcm2 : m ≤ cm := HCM.out
      have HGM := Lib.hid hgm
      obtain ⟨⟨⟨zn, zts⟩, zA, zc⟩, hzs⟩ : ∃ s, sl[z]? = some s := ⟨_, List.getElem?_eq_getElem (by rw [HSM.out]; exact hz1)⟩
      have HZS := Lib.hid hzs
      have zc0 := hcl (z * 2 + 0) _ (rowE_at hzs 0 _ rfl)
      simp only [Nat.add_zero] at zc0
      have HSZ : Hid (∀ s ∈ sl, s.m.name.size ≤ 281474976710656 ∧ s.m.ts.length ≤ 1000000 ∧ ∀ t ∈ s.m.ts, t.size ≤ 281474976710656) := Lib.hid (fun s hs => AW3.out.im.sz _ (by rw [← hsl]; exact List.mem_map_of_mem hs))
      have hq0 : (0 : Int) ≤ (z : Int) := by omega
      have hq1 : (z : Int) < (m : Int) := by omega
      have hq2 : (z : Int) ≤ (m : Int) := by omega
      have hq3 : (z : Int) + 1 ≤ (m : Int) := by omega
      have hq4 : (z : Int) ≤ (cm : Int) := by omega
      have hz64 : wrap64 ((z : Int) + 1) = ((z + 1 : Nat) : Int) := by simp only [wrap64]; omega
      have hz65 : ((z + 1 : Nat) : Int) ≤ (m : Int) := by omega
      obtain ⟨i1, hi1, hy0, hy1, hy2⟩ := info_parts memInfo
      have HSD : Hid (∀ w', Below w3.heap.size w3 w' → Src w' (if cm = z + 1 then some ⟨gm, 0, none⟩ else some ⟨gm, (z + 1) * 2, none⟩) (rowE (sl.drop (z + 1)))) := Lib.hid (fun w' hb => by
        by_cases hcz : cm = z + 1
        · rw [if_pos hcz]
          have e : rowE (sl.drop (z + 1)) = [] := List.eq_nil_of_length_eq_zero (by rw [rowE_len, List.length_drop, HSM.out]; omega)
          rw [e]
          exact ⟨(fun _ => rfl), fun ad _ j u hu => by simp at hu⟩
        · rw [if_neg hcz]
          exact (src_drop' HCL.out (z + 1)).below hb)
      clear hsl hcl hmr hgm hzs y0 y1
      go_upto_region 6 with (at_builtin; refine wpList_append_src (by rfl) _ _ 23 (by rfl) w3.heap.size 40 i1 _ 2 40 Try.underlying23 hi1 hy0 hy1 hy2 rfl (by decide) (.slice (some ⟨w3.heap.size, 0, none⟩) 0 0) 0 [] (by rfl) (World.ownsRow_made (size := 2) w3 #[] 0 (Nat.le_refl _) (by unfold maxLen; omega) rfl) (some ⟨gm, 0, none⟩) z cm (rowE (sl.take z)) (by rfl) (by rw [rowE_len, List.length_take, HSM.out]; omega) ((src_take' HCL.out z).below (one_box' _)) (fun e => by cases e) (rowE_one _) (by unfold maxLen; omega) (by omega) (by simp) ?_; intro v5 w5 hown5 hgrow5; rw [Nat.zero_add, List.nil_append] at hown5; have HB5 : Hid (Below w3.heap.size w3 w5) := Lib.hid ((one_box' _).grown hgrow5 (by simp) (fun q e => by simp [Value.ownBlock] at e; omega)); obtain ⟨A5, c5, rfl⟩ := own_len hown5; have HO5 := Lib.hid hown5; have y15 := (HB5.out.cell (p := ⟨bw, 1, none⟩) hbw3).trans y13; clear hown5 hgrow5)
      go_upto_region 7 with (at_builtin; refine wpList_append_src (by rfl) _ _ 23 (by rfl) w3.heap.size 40 i1 _ 2 40 Try.underlying23 hi1 hy0 hy1 hy2 rfl (by decide) (.slice A5 z c5) z (rowE (sl.take z)) (by rfl) HO5.out (if cm = z + 1 then some ⟨gm, 0, none⟩ else some ⟨gm, (z + 1) * 2, none⟩) (m - (z + 1)) (cm - (z + 1)) (rowE (sl.drop (z + 1))) (by rfl) (by rw [rowE_len, List.length_drop, HSM.out]) (HSD.out w5 HB5.out) (fun e => absurd e (by split <;> simp)) (rowE_one _) (by unfold maxLen; omega) (by omega) (HB5.out.size) ?_; intro v6 w6 hown6 hgrow6; have HB6 : Hid (Below w3.heap.size w3 w6) := Lib.hid (HB5.out.grown hgrow6 HB5.out.size (fun q e => (HO5.out.lt q e).1)); obtain ⟨A6, c6, rfl⟩ := own_len hown6; have HO6 := Lib.hid hown6; have y16 := (HB6.out.cell (p := ⟨bw, 1, none⟩) hbw3).trans y13; have hbw6 : bw < w6.heap.size := Nat.lt_of_lt_of_le hbw3 HB6.out.size; clear hown6 hgrow6)
      go_upto_region 8 with (at_builtin; refine wpList_append_src (by rfl) _ _ 23 (by rfl) w6.heap.size 40 i1 _ 2 40 Try.underlying23 hi1 hy0 hy1 hy2 rfl (by decide) (.slice (some ⟨w6.heap.size, 0, none⟩) 0 0) 0 [] (by rfl) (World.ownsRow_made (size := 2) w6 #[] 0 (Nat.le_refl _) (by unfold maxLen; omega) rfl) (some ⟨gm, 0, none⟩) m cm (rowE sl) (by rfl) (by rw [rowE_len, HSM.out]) (((src_mes HCL.out).below HB6.out).below (one_box' _)) (fun e => by cases e) (rowE_one _) (by unfold maxLen; omega) (by omega) (by simp) ?_; intro v7 w7 hown7 hgrow7; rw [Nat.zero_add, List.nil_append] at hown7; have HB7 : Hid (Below w6.heap.size w6 w7) := Lib.hid ((one_box' _).grown hgrow7 (by simp) (fun q e => by simp [Value.ownBlock] at e; omega)); obtain ⟨A7, c7, rfl⟩ := own_len hown7; have HO7 := Lib.hid hown7; have y17 := (HB7.out.cell (p := ⟨bw, 1, none⟩) hbw6).trans y16; clear hown7 hgrow7)
      have hrd7 : ∃ g7 c7', (Value.slice A7 m c7) = .slice (some ⟨g7, 0, none⟩) m c7' ∧ (∃ cs, w7.heap[g7]? = some (.cells cs 40 (0, 0))) ∧ w6.heap.size ≤ g7 := by
        rcases HO7.out.2 with ⟨e, e0⟩ | ⟨g, cap, cur, e, h1, hh, _⟩
        · omega
        · injection e with e1 e2 e3; exact ⟨g, c7, by rw [e1], ⟨cur, hh⟩, h1⟩
      obtain ⟨g7, c7', he7, ⟨cs7, hr7⟩, hg7⟩ := hrd7
      injection he7 with he7 _ he8
      subst he7
      have HR7 := Lib.hid hr7
      have HG7 := Lib.hid hg7
      have zc7 := ((HB6.out.trans (HB7.out.mono HB6.out.size)).cell (p := ⟨gm, z * 2, none⟩) HGM.out).trans zc0
      have HB37 : Hid (Below w3.heap.size w3 w7) := Lib.hid (HB6.out.trans (HB7.out.mono HB6.out.size))
      have k70 := HO7.out.cells (g := g7) rfl (z * 2 + 0) _ (rowE_at HZS.out 0 _ rfl)
      have k71 := HO7.out.cells (g := g7) rfl (z * 2 + 1) _ (rowE_at HZS.out 1 _ rfl)
      rw [Addr.add_lit, Nat.zero_add] at k70 k71
      simp only [Nat.add_zero] at k70
      have f70 := frozen_of_row _ g7 (z * 2) _ _ hr7
      have f71 := frozen_of_row _ g7 (z * 2 + 1) _ _ hr7
      clear hr7 hg7 he8 zc0 y03 y13 y15 y16
      go_upto_region 9 with fail
      have hO8 := own_set (i := z * 2 + 1) (u := .slice none 0 0) (own_set (i := z * 2) (u := .string zn) HO7.out)
      have hB8 : Below w6.heap.size w6 ((w7.setCell ⟨g7, z * 2, none⟩ (.string zn)).setCell ⟨g7, z * 2 + 1, none⟩ (.slice none 0 0)) := (((Only.ofBelow (S := [g7]) HB7.out).setCell (.inl (by simp)) _).setCell (.inl (by simp)) _).below (Nat.le_refl _) (fun k hk => by rw [show k = g7 by simpa using hk]; exact HG7.out)
      obtain ⟨w8, hw8⟩ : ∃ w8, (w7.setCell ⟨g7, z * 2, none⟩ (.string zn)).setCell ⟨g7, z * 2 + 1, none⟩ (.slice none 0 0) = w8 := ⟨_, rfl⟩
      rw [hw8] at hO8 hB8 ⊢
      have hset := rowE_set HZS.out
      dsimp only at hset
      rw [← hset] at hO8
      have HB38 : Hid (Below w3.heap.size w3 w8) := Lib.hid (HB6.out.trans (hB8.mono HB6.out.size))
      have AW8 := Lib.hid (AW3.out.below HB38.out)
      have HMR8 := Lib.hid (HMR.out.below HB38.out)
      have hO6 := own_below HO6.out hB8
      obtain ⟨ml, hml⟩ : ∃ ml, m - 1 = ml := ⟨_, rfl⟩
      have hmz : z + (m - (z + 1)) = ml := by omega
      rw [hmz] at hO6 ⊢
      obtain ⟨MO, hMO⟩ : ∃ MO, outM M z = MO := ⟨_, rfl⟩
      obtain ⟨MI, hMI⟩ : ∃ MI, idleM M z ⟨zn, zts⟩ = MI := ⟨_, rfl⟩
      have hMz : M[z]? = some ⟨zn, zts⟩ := by rw [← HSL.out, List.getElem?_map, HZS.out]; rfl
      have HMOI : Hid (IsM w8 w8.heap.size A6 ml c6 MO) := Lib.hid (by
        have h := rows_isM (sl := sl.take z ++ sl.drop (z + 1)) (n := ml) (B := w3.heap.size) (by rw [rowE_app]; exact hO6) (by rw [List.length_append, List.length_take, List.length_drop, HSM.out]; omega) (fun s hs => HMR8.out s (by rcases List.mem_append.1 hs with h | h; exact List.mem_of_mem_take h; exact List.mem_of_mem_drop h)) HB38.out.size (fun s hs => HSZ.out s (by rcases List.mem_append.1 hs with h | h; exact List.mem_of_mem_take h; exact List.mem_of_mem_drop h)) (by omega)
        rw [← hMO]
        unfold outM
        rw [← HSL.out, ← List.map_take, ← List.map_drop, ← List.map_append]
        exact h)
      have HMII : Hid (IsM w8 w8.heap.size (some ⟨g7, 0, none⟩) m c7 MI) := Lib.hid (by
        have hmem : ∀ s ∈ sl.set z (⟨⟨zn, []⟩, none, 0⟩ : Me), s ∈ sl ∨ s = ⟨⟨zn, []⟩, none, 0⟩ := fun s hs => List.mem_or_eq_of_mem_set hs
        have h := rows_isM (sl := sl.set z ⟨⟨zn, []⟩, none, 0⟩) (B := w3.heap.size) hO8 (by rw [List.length_set, HSM.out]) (fun s hs => by
          rcases hmem s hs with h | h
          · exact HMR8.out s h
          · subst h; exact fun h0 => absurd h0 (by simp)) HB38.out.size (fun s hs => by
          rcases hmem s hs with h | h
          · exact HSZ.out s h
          · subst h; exact ⟨(HSZ.out _ (List.mem_of_getElem? HZS.out)).1, by show 0 ≤ _; omega, fun t ht => by cases ht⟩) (by omega)
        rw [← hMI]
        unfold idleM
        rw [← HSL.out]
        rw [List.map_set] at h
        exact h)
      have HXO : Hid (chkE L MO 0) := Lib.hid (by rw [← hMO]; exact chk_out HX.out z)
      have HXI : Hid (chkE L MI 0) := Lib.hid (by rw [← hMI]; exact chk_idle HX.out hMz)
      obtain ⟨ra, hra⟩ : ∃ r, rangeL L MO = r := ⟨_, rfl⟩
      obtain ⟨rb, hrb⟩ : ∃ r, rangeL L MI = r := ⟨_, rfl⟩
      obtain ⟨rc, hrc⟩ : ∃ r, robinL L MO = r := ⟨_, rfl⟩
      obtain ⟨rd, hrd⟩ : ∃ r, robinL L MI = r := ⟨_, rfl⟩
      have hlo : MO.length = ml := by rw [← hMO]; unfold outM; rw [List.length_append, List.length_take, List.length_drop, HM.out]; omega
      have hli : MI.length = m := by rw [← hMI]; unfold idleM; rw [List.length_set, HM.out]
      have HLEN : Hid ((ra.length = ml ∧ rc.length = ml) ∧ rb.length = m ∧ rd.length = m) := Lib.hid (by
        rw [← hra, ← hrb, ← hrc, ← hrd]; unfold rangeL robinL; simp only [listsL_len]; exact ⟨⟨hlo, hlo⟩, hli, hli⟩)
      have HPR : Hid (∀ i, i < m → (i = z → rb[i]? = some [] ∧ rd[i]? = some []) ∧ (i ≠ z → ∃ x y, ra[sh z i]? = some x ∧ rb[i]? = some x ∧ rc[sh z i]? = some y ∧ rd[i]? = some y ∧ x.length ≤ 64 ∧ y.length ≤ 64)) := Lib.hid (fun i hi => by
        have h1 := lists_sh chR_ok (chR_sh z) (m := ⟨zn, zts⟩) HZM.out L
        have h2 := lists_sh chB_ok (chB_sh z) (m := ⟨zn, zts⟩) HZM.out L
        rw [hMO, hMI] at h1 h2
        have hb : rb[i]? = some (ownL (seqT chR MI L 0).1 i) := by rw [← hrb]; exact listsL_at _ (by rw [hli]; exact hi)
        have hd : rd[i]? = some (ownL (seqT chB MI L 0).1 i) := by rw [← hrd]; exact listsL_at _ (by rw [hli]; exact hi)
        refine ⟨fun e => ?_, fun e => ?_⟩
        · subst e; rw [hb, hd, h1.1, h2.1]; exact ⟨rfl, rfl⟩
        · have hs : sh z i < ml := by unfold sh; split <;> omega
          have ha : ra[sh z i]? = some (ownL (seqT chR MO L 0).1 (sh z i)) := by rw [← hra]; exact listsL_at _ (by rw [hlo]; exact hs)
          have hc : rc[sh z i]? = some (ownL (seqT chB MO L 0).1 (sh z i)) := by rw [← hrc]; exact listsL_at _ (by rw [hlo]; exact hs)
          rw [h1.2 i e] at ha
          rw [h2.2 i e] at hc
          exact ⟨_, _, ha, hb, hc, hd, range_64 HXI.out (List.mem_of_getElem? (by rw [hrb]; exact hb)), robin_64 HXI.out (List.mem_of_getElem? (by rw [hrd]; exact hd))⟩)
      have HRA := Lib.hid hra
      have HRB := Lib.hid hrb
      have HRC := Lib.hid hrc
      have HRD := Lib.hid hrd
      have y08 := (cell_of_row _ _ 0 _ _ _ AW8.out.row).trans rfl
      clear hra hrb hrc hrd hlo hli hMO hMI hMz hO6 hO8 hB8 hw8 hset k70 k71 f70 f71 zc7 y17 hz64 hz65 hmz
      go_upto_region 15 with (first
        | (go_at_call 12; have _q := AW11; refine (robin_ok _ A (some ⟨g7, 0, none⟩) n c m c7 L MI rd (Lib.hid AW11.out.il) (Lib.hid (HMII.out.up (Nat.le_refl _) HB11.out)) HXI HRD).mono ?_; rintro e w12 ⟨A12, c12, rfl, hr12, hb12⟩; have HB12 := Lib.hid (HB11.out.trans (hb12.mono HB11.out.size)); have AW12 := Lib.hid (AW11.out.below hb12); have HA := Lib.hid ((HA11.out.below hb12).mono hb12.size); have HB' := Lib.hid ((HBl11.out.below hb12).mono hb12.size); have HC := Lib.hid ((HC11.out.below hb12).mono hb12.size); have HD := Lib.hid hr12; have y112 := (cell_of_row _ _ 1 _ _ _ AW12.out.row).trans rfl; clear hr12 hb12)
        | (go_at_call 12; refine (robin_ok _ A A6 n c ml c6 L MO rc (Lib.hid AW10.out.il) (Lib.hid (HMOI.out.up (Nat.le_refl _) HB10.out)) HXO HRC).mono ?_; rintro e w11 ⟨A11, c11, rfl, hr11, hb11⟩; have HB11 := Lib.hid (HB10.out.trans (hb11.mono HB10.out.size)); have AW11 := Lib.hid (AW10.out.below hb11); have HA11 := Lib.hid ((HA10.out.below hb11).mono hb11.size); have HBl11 := Lib.hid ((HBl10.out.below hb11).mono hb11.size); have HC11 := Lib.hid hr11; have y011 := (cell_of_row _ _ 0 _ _ _ AW11.out.row).trans rfl; clear hr11 hb11)
        | (go_at_call 10; have _q := AW9; refine (range_ok _ A (some ⟨g7, 0, none⟩) n c m c7 L MI rb (Lib.hid AW9.out.il) (Lib.hid (HMII.out.up (Nat.le_refl _) HB9.out)) HXI HRB).mono ?_; rintro e w10 ⟨A10, c10, rfl, hr10, hb10⟩; have HB10 := Lib.hid (HB9.out.trans (hb10.mono HB9.out.size)); have AW10 := Lib.hid (AW9.out.below hb10); have HA10 := Lib.hid ((HA9.out.below hb10).mono hb10.size); have HBl10 := Lib.hid hr10; have y010 := (cell_of_row _ _ 0 _ _ _ AW10.out.row).trans rfl; clear hr10 hb10)
        | (go_at_call 10; refine (range_ok _ A A6 n c ml c6 L MO ra (Lib.hid AW8.out.il) HMOI HXO HRA).mono ?_; rintro e w9 ⟨A9, c9, rfl, hr9, hb9⟩; have HB9 := Lib.hid hb9; have AW9 := Lib.hid (AW8.out.below hb9); have HA9 := Lib.hid hr9; have y09 := (cell_of_row _ _ 0 _ _ _ AW9.out.row).trans rfl; clear hr9 hb9))
      clear y08 y09 y010 y011
      go_wp2_with fail
      clear y112
      all_goals
        go_loopw [16, 17] (fun u s wr => ∃ i : Nat, i ≤ m ∧ s = .int .i64 i ∧ (∃ j : Nat, u = .int .i64 j ∧ Hid (j = if z < i then i - 1 else i)) ∧ Hid (Below w12.heap.size w12 wr)) (fun _ s _ => m - (intOf s).toNat)
        case atStart => exact ⟨0, by omega, rfl, ⟨0, rfl, Lib.hid (by simp)⟩, Lib.hid (Below.refl _ _)⟩
        case round =>
          obtain ⟨i, hi, rfl, ⟨j, rfl, HJ⟩, HBI⟩ := hrel
          have hAW := AW12.out.below HBI.out
          have y1 := (cell_of_row _ _ 1 _ _ _ hAW.row).trans rfl
          by_cases hlt : i < m
          · obtain ⟨hP1, hP2⟩ := HPR.out i hlt
            have b0 : (0 : Int) ≤ (i : Int) := by omega
            have b1 : (i : Int) < (m : Int) := by omega
            obtain ⟨gb, hAb, _, hgb, hcb⟩ := HB'.out (by rw [HLEN.out.2.1]; omega)
            obtain ⟨gd, hAd, _, hgd, hcd⟩ := HD.out (by rw [HLEN.out.2.2]; omega)
            by_cases hiz : i = z
            · obtain ⟨hb, hd⟩ := hP1 hiz
              obtain ⟨Ab, cb, e1, _⟩ := hcb i _ hb
              obtain ⟨Ad, cd, e2, _⟩ := hcd i _ hd
              have e1 := (HBI.out.cell (p := ⟨gb, i, none⟩) hgb).trans e1
              have e2 := (HBI.out.cell (p := ⟨gd, i, none⟩) hgd).trans e2
              simp only [List.length_nil] at e1 e2
              have q9 : ((i : Int) == (z : Int)) = true := by rw [hiz]; simp
              have HJ' : Hid (j = if z < i + 1 then i + 1 - 1 else i + 1) := Lib.hid (by rw [HJ.out, hiz]; simp)
              subst hAb
              subst hAd
              clear hP1 hP2 hcb hcd hb hd hAW hiz
              go_wp2_with fail
              go_roundw
              case rel => exact ⟨i + 1, by omega, by go_num, ⟨j, rfl, HJ'⟩, HBI⟩
              case measure => simp [intOf]; omega
            · obtain ⟨x, y, ha, hb, hc, hd, hx64, hy64⟩ := hP2 hiz
              have hjs : j = sh z i := by rw [HJ.out]; unfold sh; split <;> split <;> omega
              rw [← hjs] at ha hc
              have hjl : j < ml := by have := (List.getElem?_eq_some_iff.1 ha).1; rwa [HLEN.out.1.1] at this
              obtain ⟨ga, hAa, _, hga, hca⟩ := HA.out (by rw [HLEN.out.1.1]; omega)
              obtain ⟨gc, hAc, _, hgc, hcc⟩ := HC.out (by rw [HLEN.out.1.2]; omega)
              obtain ⟨Aa, ca, k1, r1, _⟩ := hca j _ ha
              obtain ⟨Ab, cb, k2, r2, _⟩ := hcb i _ hb
              obtain ⟨Ac, cc, k3, r3, _⟩ := hcc j _ hc
              obtain ⟨Ad, cd, k4, r4, _⟩ := hcd i _ hd
              obtain ⟨xl, hxl⟩ : ∃ k, x.length = k := ⟨_, rfl⟩
              obtain ⟨yl, hyl⟩ : ∃ k, y.length = k := ⟨_, rfl⟩
              rw [hxl] at k1 k2 hx64
              rw [hyl] at k3 k4 hy64
              have k1 := (HBI.out.cell (p := ⟨ga, j, none⟩) hga).trans k1
              have k2 := (HBI.out.cell (p := ⟨gb, i, none⟩) hgb).trans k2
              have k3 := (HBI.out.cell (p := ⟨gc, j, none⟩) hgc).trans k3
              have k4 := (HBI.out.cell (p := ⟨gd, i, none⟩) hgd).trans k4
              have HXL := Lib.hid hxl
              have HYL := Lib.hid hyl
              have hx6 : xl ≤ 1000000 := by omega
              have hy6 : yl ≤ 1000000 := by omega
              have HW : Hid (w12.heap.size ≤ wr.heap.size) := Lib.hid HBI.out.size
              have R1 := Lib.hid (r1.below HBI.out)
              have R2 := Lib.hid (r2.below HBI.out)
              have R3 := Lib.hid (r3.below HBI.out)
              have R4 := Lib.hid (r4.below HBI.out)
              have HR12 : Hid (∀ W, Below wr.heap.size wr W → ReadsP W w12.heap.size Aa x ∧ ReadsP W w12.heap.size Ab x) := Lib.hid (fun W hW => ⟨R1.out.below (hW.mono HW.out), R2.out.below (hW.mono HW.out)⟩)
              have HR34 : Hid (∀ W, Below wr.heap.size wr W → ReadsP W w12.heap.size Ac y ∧ ReadsP W w12.heap.size Ad y) := Lib.hid (fun W hW => ⟨R3.out.below (hW.mono HW.out), R4.out.below (hW.mono HW.out)⟩)
              have q9 : ((i : Int) == (z : Int)) = false := by simp; omega
              have c0 : (0 : Int) ≤ (j : Int) := by omega
              have c1 : (j : Int) < (ml : Int) := by omega
              have hij : j ≤ i := by rw [HJ.out]; split <;> omega
              have HJ' : Hid (j + 1 = if z < i + 1 then i + 1 - 1 else i + 1) := Lib.hid (by have h := HJ.out; split at h <;> split <;> omega)
              have hS4 := Lib.hid (show ((wr.cell? ⟨ga, j, none⟩ = some (.slice Aa xl ca) ∧ wr.cell? ⟨gb, i, none⟩ = some (.slice Ab xl cb)) ∧ wr.cell? ⟨gc, j, none⟩ = some (.slice Ac yl cc) ∧ wr.cell? ⟨gd, i, none⟩ = some (.slice Ad yl cd)) ∧ Below wr.heap.size wr wr from ⟨⟨⟨k1, k2⟩, k3, k4⟩, Below.refl _ _⟩)
              subst hAa
              subst hAb
              subst hAc
              subst hAd
              clear hP1 hP2 hca hcb hcc hcd ha hb hc hd r1 r2 r3 r4 hxl hyl hAW hjs hiz R1 R2 R3 R4
              go_wp2_with fail
              go_region_held3 (fun w' => ((w'.cell? ⟨ga, j, none⟩ = some (.slice Aa xl ca) ∧ w'.cell? ⟨gb, i, none⟩ = some (.slice Ab xl cb)) ∧ w'.cell? ⟨gc, j, none⟩ = some (.slice Ac yl cc) ∧ w'.cell? ⟨gd, i, none⟩ = some (.slice Ad yl cd)) ∧ Below wr.heap.size wr w')
                (first | with_reducible assumption | exact keep4 hS4.out HB14.out | exact keep4 hS4.out HB13.out | exact keep4 hS4.out (Below.refl _ _).drew)
                (first
                  | (go_at_call 23; have _q := HB13; refine (parts_is Ac Ad y y yl yl cc cd w12.heap.size true _ (Lib.hid (HR34.out _ HB13.out).1) (Lib.hid (HR34.out _ HB13.out).2) (Nat.le_trans HW.out HB13.out.size) HYL HYL hy6 (Lib.hid (by simp))).mono ?_; rintro e w14 ⟨rfl, hb14⟩; have HB14 := Lib.hid (HB13.out.trans (hb14.mono HB13.out.size)))
                  | (go_at_call 23; refine (parts_is Aa Ab x x xl xl ca cb w12.heap.size true _ (Lib.hid (HR12.out _ (Below.refl _ _).drew).1) (Lib.hid (HR12.out _ (Below.refl _ _).drew).2) HW.out HXL HXL hx6 (Lib.hid (by simp))).mono ?_; rintro e w13 ⟨rfl, hb13⟩; have HB13 := Lib.hid ((Below.refl _ wr).drew.trans hb13)))
              rename_i hHeld
              have HH := Lib.hid (HBI.out.trans (hHeld.2.mono HBI.out.size))
              clear hHeld k1 k2 k3 k4
              go_wp2_with fail
              go_roundw
              case rel => exact ⟨i + 1, by omega, by go_num, ⟨j + 1, by go_num, HJ'⟩, HH⟩
              case measure => simp [intOf]; omega
          · obtain rfl : i = m := by omega
            go_wp2_with (go_at_call 21; refine (fixed10_any _).mono ?_; rintro e w20 ⟨rfl, hb20⟩; have HB20 := Lib.hid hb20; clear hb20)
            go_ret
            exact ⟨rfl, hAW.bel.trans (HB20.out.mono hAW.bel.size)⟩
  · have HX := Lib.hid hx
    have q := ne_zero hx0
    clear hx
    go_wp2_with (first
      | (go_at_call 21; refine (fixed10_any _).mono ?_; rintro e w20 ⟨rfl, hb20⟩; have HB20 := Lib.hid hb20; clear hb20)
      | (go_at_call 15; refine (check_is _ A Am n c m cm L M x (Lib.hid AW.out.il) (Lib.hid AW.out.im) HX).mono ?_; rintro e w3 ⟨rfl, hb3⟩; have AW3 := Lib.hid (AW.out.below hb3); have y03 := (cell_of_row _ _ 0 _ _ _ AW3.out.row).trans rfl; have y13 := (cell_of_row _ _ 1 _ _ _ AW3.out.row).trans rfl; have hbw3 := (Array.getElem?_eq_some_iff.1 AW3.out.row).1; clear hb3))
    go_ret
    exact ⟨rfl, AW3.out.bel.trans (HB20.out.mono AW3.out.bel.size)⟩

set_option maxRecDepth 100000 in
set_option maxHeartbeats 1000000 in
theorem lifted (os : Os) (started : os.Started) (H : Type) (enc : TypeId × Value → H) :
    ReturnsInHanded {} Try.checked os 6 .any (Rows.assignLessSpec.pre6 enc Try.prog Try.f6 Rows.assignLessRow.domain false) (Rows.assignLessSpec.post enc Try.prog Try.f6 false true false false) := by
  refine returnsInHanded_of_change (C := Try.checked) own started (by kernel_rfl) Try.func6
    (ChangeSpec.witness6 (enc := enc) (C := Try.checked) false ⟨#[], #[.agg #[.slice none 0 0, .slice none 0 0], .int .i64 0], []⟩ 8 (by kernel_rfl) (by kernel_rfl) (by kernel_rfl) (by kernel_rfl)) ?_
  intro W base args ds gs before hval0 hW _ _
  have hval : ∀ (j : Nat) t v, Try.f6.params[j]? = some t → args[j]? = some v → Value.okWide Try.prog W .any base t v := hval0
  have hW' := hW
  obtain ⟨p, q, hA0, hV, rfl, hfz, hnd⟩ := hW
  have hA : DataW.TrodAll enc Try.prog W 0 (fun _ => true) true Try.f6.params.toList args.toList ds p := hA0
  rw [Try.params6] at hA hval
  obtain ⟨v0, vs0, d0, ds0, p0, q0, hargs, rfl, rfl, h0, r0⟩ := trodAll_cons hA
  obtain ⟨v1, vs1, d1, ds1, p1, q1, rfl, rfl, rfl, h1, r1⟩ := trodAll_cons r0
  obtain ⟨rfl, rfl, rfl⟩ := trodAll_nil r1
  obtain rfl : args = #[v0, v1] := by cases args; simp_all
  obtain ⟨rfl, rfl⟩ := trodVars_none hV
  have k0 := h0
  have lt0 : ∀ x ∈ p0, x.block < W.heap.size := by obtain ⟨m, hm⟩ := k0; exact DataW.trod_lt m _ _ _ hm
  have k1 := h1
  have lt1 : ∀ x ∈ p1, x.block < W.heap.size := by obtain ⟨m, hm⟩ := k1; exact DataW.trod_lt m _ _ _ hm
  obtain ⟨A0, B0, l0, m0, c0, d0, e0, R0⟩ := L10.open_ask (hval 0 25 v0 rfl rfl) h0
  subst e0
  obtain ⟨a1, e1, _, _, w1⟩ := open_int Try.underlying3 (hval 1 3 v1 rfl rfl) h1
  subst e1
  clear hA0 hval0
  refine (walk W A0 B0 l0 m0 c0 d0 R0 a1 w1).mono fun e W' ⟨he, bel⟩ => ?_
  subst he
  exact ⟨_, rfl, _, _, _, [], _, [], hW', trodAll_mk1 (shut_bool Try.underlying4 _), (trodAll_cons_mk (Below.trod laidOut (by kernel_rfl) (of_decide_eq_true (by kernel_rfl)) k0 bel lt0) (trodAll_cons_mk (Below.trod laidOut (by kernel_rfl) (of_decide_eq_true (by kernel_rfl)) k1 bel lt1) trodAll_mk0)), rfl, bel.frame _, fun h => by cases h⟩

theorem over : Rows.assignLessRow.holds Try.pinned (OpenSpec.ofChange Rows.assignLessSpec) :=
  OpenClaim.holds_of_wide 6 Try.f6 rfl rfl rfl rfl rfl rfl rfl ⟨rfl, rfl, rfl, rfl, rfl⟩ rfl rfl rfl rfl rfl (by kernel_rfl) Try.func6 (by kernel_rfl)
    (of_decide_eq_true (by kernel_rfl)) (by unfold Func.isWrapper; first | (rw [if_pos (by decide +kernel)]; kernel_rfl) | (rw [if_neg (by decide +kernel)]; exact ⟨rfl, rfl⟩))
    (fun os started H enc _ => lifted os started H enc)

/-- the statement -/
theorem proved : Rows.AssignLessSaid :=
  over
#print axioms proved
end Go.Proofs.Ythogigaepnpmeaa.assignLess
