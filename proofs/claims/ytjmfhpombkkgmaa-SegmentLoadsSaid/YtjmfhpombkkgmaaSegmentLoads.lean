/-
  Whether any records are a segment is as the document says; loaded again it is the same.
-/
import Derived.Test.YtjmfhpombkkgmaaRows
import Derived.WalkKit
import Derived.ProofKit
import Derived.OpenShut
import Derived.ShutString
import Derived.ChangeOld
import Derived.Below
import Derived.Test.YtjmfhpombkkgmaaSegLoads
import Derived.Test.YtjmfhpombkkgmaaSegOpen
import Derived.Deep.QuietTactic
import Derived.BigQuiet
import Derived.LoopTactic
namespace Go.Proofs.Ytjmfhpombkkgmaa.segmentLoads
open Go.ChangeShapes Go.WideShapes Go.ChangeAt Go.RowKit
open Go.ChangeMaps (open_string shut_string)
open L3 L4 L5

theorem own : ownKnob Try.prog.godebug = none := by kernel_rfl
theorem laidOut : laidOutB Try.prog = true := by kernel_rfl

/-- what the law's rows are -/
theorem cut_len (l : List L4.Fd) (k : Nat) (hk : k ≤ l.length) : ((l.take k).map cutF).length = k := by
  rw [List.length_map, List.length_take]; omega
theorem newE_of {base next : Int} {M : List L4.Fd} (h : loadE base next M = 0) : newE base = 0 := by
  have g := load_good h
  have : numB base = true := by
    unfold loadE at h
    split at h
    · rename_i hc; simp only [Bool.and_eq_true] at hc; exact hc.1.1.1.1
    · simp at h
  unfold newE; rw [if_pos this]
theorem newE_or (base : Int) : newE base = 0 ∨ newE base = 1 := by
  unfold newE; split <;> simp

set_option maxRecDepth 100000 in
set_option maxHeartbeats 8000000 in
theorem walk (w : World) (a0 : Int) (_ : (Lit.int .i64 a0).wf = true) (a1 : Int) (_ : (Lit.int .i64 a1).wf = true) (A0 : Option Addr) (l0 : List L4.Fd) (c0 : Nat) (R0 : IsFds w A0 l0) :
    Calls Try.prog 4 #[.int .i64 a0, .int .i64 a1, .slice A0 l0.length c0] w fun e w' => e = .returned (.bool true) ∧ Below w.heap.size w w' := by
  obtain ⟨i0, hi0, hz0, hz1, hz2⟩ := info_parts fdInfo
  obtain ⟨n, hn⟩ : ∃ n, l0.length = n := ⟨_, rfl⟩
  have hnm : n ≤ maxLen := by rw [← hn]; exact R0.2.2
  unfold maxLen at hnm
  have HN := Lib.hid hn
  rw [hn]
  have HR := R0.1
  have HS := R0.2.1
  clear hn R0
  go_enter Try.func4, Try.ntmps4
  go_wp2_with fail
  go_loopw [7, 8] (fun v i wr => ∃ (k b c1 : Nat), k ≤ n ∧ k ≤ 70 ∧ i = .int .i64 k ∧ v = .slice (some ⟨b, 0, none⟩) k c1 ∧ Hid (wr.ownsRow w.heap.size 43 5 (.slice (some ⟨b, 0, none⟩) k c1) k (rowF ((l0.take k).map cutF))) ∧ Below w.heap.size w wr) (fun _ i _ => n - (intOf i).toNat)
  case atStart => exact ⟨0, w.heap.size, 0, by omega, by omega, rfl, rfl, Lib.hid (by simpa [rowF] using World.ownsRow_made (size := 5) w #[] 0 (Nat.le_refl _) (by unfold maxLen; omega) rfl), one_box _⟩
  case round =>
    obtain ⟨k, b, c1, hkn, hk70, rfl, rfl, hown, hbel⟩ := hrel
    by_cases hlt : k < n ∧ k < 70
    · obtain ⟨h1, h2⟩ := hlt
      obtain ⟨gl, go, rfl, hg, hcells⟩ := HR.out (by rw [HN.out]; omega)
      obtain ⟨⟨o, ⟨hk, key, tb, val⟩⟩, hf⟩ : ∃ s, l0[k]? = some s := ⟨_, List.getElem?_eq_getElem (by rw [HN.out]; omega)⟩
      obtain ⟨x0, x1, x2, x3, x4⟩ := hcells k _ hf
      have d0 := (hbel.cell (p := ⟨gl, go + k * 5, none⟩) hg).trans x0
      have d1 := (hbel.cell (p := ⟨gl, go + k * 5 + 1, none⟩) hg).trans x1
      have d2 := (hbel.cell (p := ⟨gl, go + k * 5 + 2, none⟩) hg).trans x2
      have d3 := (hbel.cell (p := ⟨gl, go + k * 5 + 3, none⟩) hg).trans x3
      have d4 := (hbel.cell (p := ⟨gl, go + k * 5 + 4, none⟩) hg).trans x4
      dsimp only at d0 d1 d2 d3 d4
      have hsz := HS.out _ (List.mem_of_getElem? hf)
      have HS1 : Hid (key.size ≤ maxLen) := Lib.hid hsz.1.1
      have HS2 : Hid (val.size ≤ maxLen) := Lib.hid hsz.1.2
      have HROW := Lib.hid (cut_row hf)
      obtain ⟨key2, e2⟩ : ∃ s, cutS key 80 = s := ⟨_, rfl⟩
      obtain ⟨val2, e3⟩ : ∃ s, cutS val 600 = s := ⟨_, rfl⟩
      rw [e2, e3] at HROW
      have E2 := Lib.hid e2
      have E3 := Lib.hid e3
      have k0 : (0 : Int) ≤ (k : Int) := by omega
      have k1 : (k : Int) < (n : Int) := by omega
      have HGL := Lib.hid hg
      clear x0 x1 x2 x3 x4 hcells hf hsz e2 e3
      go_wp2_with (go_at_call 10; refine (rec_one _ _ _ _ wr HS1.out HS2.out).mono ?_; rw [E2.out, E3.out]; rintro e wn ⟨g9, c9, rfl, ⟨r0, r1, r2, r3⟩, hg9, hg9', hbn⟩)
      have HO := Lib.hid (own_below hown.out hbn)
      have HB := Lib.hid (acc hbel hbn)
      have hb1 := hown.out.lt b rfl
      have HBB : Hid (w.heap.size ≤ b) := Lib.hid hb1.1
      have HZ : Hid (w.heap.size ≤ wn.heap.size) := Lib.hid HB.out.size
      have y0 := (hbn.cell (p := ⟨gl, go + k * 5, none⟩) (by have := hbel.size; have := HGL.out; show gl < _; omega)).trans d0
      have q1 : gl ≠ b := by have := HGL.out; omega
      have q2 : some gl ≠ some b := fun e => q1 (by injection e)
      have q3 : g9 ≠ b := by omega
      have q4 : some g9 ≠ some b := fun e => q3 (by injection e)
      have HT : Hid (∀ w', But b (some b) wn w' → (w'.cell? ⟨gl, go + k * 5, none⟩ = some (.int .i64 o) ∧ w'.cell? ⟨g9, 0, none⟩ = some (.bool hk) ∧ w'.cell? ⟨g9, 1, none⟩ = some (.string key2) ∧ w'.cell? ⟨g9, 2, none⟩ = some (.bool tb) ∧ w'.cell? ⟨g9, 3, none⟩ = some (.string val2)) ∧ But b (some b) wn w') := Lib.hid (fun w' q => ⟨⟨q.cell y0 q1 q2, q.cell r0 q3 q4, q.cell r1 q3 q4, q.cell r2 q3 q4, q.cell r3 q3 q4⟩, q⟩)
      clear r0 r1 r2 r3 d0 d1 d2 d3 d4 y0 q1 q2 q3 q4 hb1 hg9 hg9' hg
      refine wp_region_held_drew (S := fun w' => (w'.cell? ⟨gl, go + k * 5, none⟩ = some (.int .i64 o) ∧ w'.cell? ⟨g9, 0, none⟩ = some (.bool hk) ∧ w'.cell? ⟨g9, 1, none⟩ = some (.string key2) ∧ w'.cell? ⟨g9, 2, none⟩ = some (.bool tb) ∧ w'.cell? ⟨g9, 3, none⟩ = some (.string val2)) ∧ But b (some b) wn w') (by kernel_rfl) (HT.out _ (But.ofBelow (Below.refl _ _).drew)) (fun hHeld => ?_)
      refine wpAnyH_take (i := 0) (oi := ?o1) (v := ?v1) ?a1 (by kernel_rfl) (by kernel_rfl) (by kernel_rfl) ?q1 (Or.inl ⟨?g1, ?y1⟩) (by assumption) ?r1; (case' a1 => (simp only [List.getElem?_toArray, List.getElem?_cons_zero]; rfl)); (case' q1 => (exact fun _ _ _ h => h)); (case' g1 => rfl); (case' y1 => (intro w hSw; (try dsimp only at hSw); go_simp; try with_reducible rfl)); (case' r1 => (try simp only [Act.put, List.setIfInBounds_toArray, List.set_cons_zero, List.set_cons_succ]))
      refine wpAnyH_take (i := 1) (oi := ?o2) (v := ?v2) ?a2 (by kernel_rfl) (by kernel_rfl) (by kernel_rfl) ?q2 (Or.inl ⟨?g2, ?y2⟩) (by assumption) ?r2; (case' a2 => (simp only [List.getElem?_toArray, List.getElem?_cons_zero, List.getElem?_cons_succ]; rfl)); (case' q2 => (exact fun _ _ _ h => h)); (case' g2 => rfl); (case' y2 => (intro w hSw; (try dsimp only at hSw); go_simp; try with_reducible rfl)); (case' r2 => (try simp only [Act.put, List.setIfInBounds_toArray, List.set_cons_zero, List.set_cons_succ]))
      refine wpAnyH_take (i := 2) (oi := ?o3) (v := ?v3) ?a3 (by kernel_rfl) (by kernel_rfl) (by kernel_rfl) ?q3 (Or.inl ⟨?g3, ?y3⟩) (by assumption) ?r3; (case' a3 => (simp only [List.getElem?_toArray, List.getElem?_cons_zero, List.getElem?_cons_succ]; rfl)); (case' q3 => (exact fun _ _ _ h => h)); (case' g3 => rfl); (case' y3 => (intro w hSw; (try dsimp only at hSw); go_simp; try with_reducible rfl)); (case' r3 => (try simp only [Act.put, List.setIfInBounds_toArray, List.set_cons_zero, List.set_cons_succ]))
      refine wpAnyH_take (i := 3) (oi := ?o4) (v := ?v4) ?a4 (by kernel_rfl) (by kernel_rfl) (by kernel_rfl) ?q4 (Or.inl ⟨?g4, ?y4⟩) (by assumption) ?r4; (case' a4 => (simp only [List.getElem?_toArray, List.getElem?_cons_zero, List.getElem?_cons_succ]; rfl)); (case' q4 => (exact fun _ _ _ h => h)); (case' g4 => rfl); (case' y4 => (intro w hSw; (try dsimp only at hSw); go_simp; try with_reducible rfl)); (case' r4 => (try simp only [Act.put, List.setIfInBounds_toArray, List.set_cons_zero, List.set_cons_succ]))
      refine wpAnyH_take (i := 4) (oi := ?o5) (v := ?v5) ?a5 (by kernel_rfl) (by kernel_rfl) (by kernel_rfl) ?q5 (Or.inl ⟨?g5, ?y5⟩) (by assumption) ?r5; (case' a5 => (simp only [List.getElem?_toArray, List.getElem?_cons_zero, List.getElem?_cons_succ]; rfl)); (case' q5 => (exact fun _ _ _ h => h)); (case' g5 => rfl); (case' y5 => (intro w hSw; (try dsimp only at hSw); go_simp; try with_reducible rfl)); (case' r5 => (try simp only [Act.put, List.setIfInBounds_toArray, List.set_cons_zero, List.set_cons_succ]))
      refine wpAnyH_take (i := 5) (oi := ?o6) (v := ?v6) ?a6 (by kernel_rfl) (by kernel_rfl) (by kernel_rfl) ?q6 (Or.inl ⟨?g6, ?y6⟩) (by assumption) ?r6; (case' a6 => (simp only [List.getElem?_toArray, List.getElem?_cons_zero, List.getElem?_cons_succ]; rfl)); (case' q6 => (exact fun _ _ _ h => h)); (case' g6 => rfl); (case' y6 => (intro w hSw; (try dsimp only at hSw); go_simp; try with_reducible rfl)); (case' r6 => (try simp only [Act.put, List.setIfInBounds_toArray, List.set_cons_zero, List.set_cons_succ]))
      refine wpAnyH_take (i := 6) (oi := ?o7) (v := ?v7) ?a7 (by kernel_rfl) (by kernel_rfl) (by kernel_rfl) ?q7 (Or.inl ⟨?g7, ?y7⟩) (by assumption) ?r7; (case' a7 => (simp only [List.getElem?_toArray, List.getElem?_cons_zero, List.getElem?_cons_succ]; rfl)); (case' q7 => (exact fun _ _ _ h => h)); (case' g7 => rfl); (case' y7 => (intro w hSw; (try dsimp only at hSw); go_simp; try with_reducible rfl)); (case' r7 => (try simp only [Act.put, List.setIfInBounds_toArray, List.set_cons_zero, List.set_cons_succ]))
      refine wpAnyH_take (i := 7) (oi := ?o8) (v := ?v8) ?a8 (by kernel_rfl) (by kernel_rfl) (by kernel_rfl) ?q8 (Or.inl ⟨?g8, ?y8⟩) (by assumption) ?r8; (case' a8 => (simp only [List.getElem?_toArray, List.getElem?_cons_zero, List.getElem?_cons_succ]; rfl)); (case' q8 => (exact fun _ _ _ h => h)); (case' g8 => rfl); (case' y8 => (intro w hSw; (try dsimp only at hSw); go_simp; try with_reducible rfl)); (case' r8 => (try simp only [Act.put, List.setIfInBounds_toArray, List.set_cons_zero, List.set_cons_succ]))
      refine wpAnyH_take (i := 8) (oi := ?o9) (v := ?v9) ?a9 (by kernel_rfl) (by kernel_rfl) (by kernel_rfl) ?q9 (Or.inl ⟨?g9, ?y9⟩) (by assumption) ?r9; (case' a9 => (simp only [List.getElem?_toArray, List.getElem?_cons_zero, List.getElem?_cons_succ]; rfl)); (case' q9 => (exact fun _ _ _ h => h)); (case' g9 => rfl); (case' y9 => (intro w hSw; (try dsimp only at hSw); go_simp; try with_reducible rfl)); (case' r9 => (try simp only [Act.put, List.setIfInBounds_toArray, List.set_cons_zero, List.set_cons_succ]))
      refine wpAnyH_take (i := 9) (oi := ?o10) (v := ?v10) ?a10 (by kernel_rfl) (by kernel_rfl) (by kernel_rfl) ?q10 (Or.inl ⟨?g10, ?y10⟩) (by assumption) ?r10; (case' a10 => (simp only [List.getElem?_toArray, List.getElem?_cons_zero, List.getElem?_cons_succ]; rfl)); (case' q10 => (exact fun _ _ _ h => h)); (case' g10 => rfl); (case' y10 => (intro w hSw; (try dsimp only at hSw); go_simp; try with_reducible rfl)); (case' r10 => (try simp only [Act.put, List.setIfInBounds_toArray, List.set_cons_zero, List.set_cons_succ]))
      refine wpAnyH_ready (rs := [10]) (by kernel_rfl) (by simp) ?_
      refine AllReadyH.cons (o := ?o11) ?a11 (fun K hK => ?s11) ?m11; (case' a11 => (simp only [List.getElem?_toArray, List.getElem?_cons_zero, List.getElem?_cons_succ]; rfl))
      case s11 =>
        go_simp
        refine hK.out _ _ (HT.out _ (hHeld.2.alloc _)) (fun hHeld => ?_)
        clear hK K
        (try simp only [Act.put, List.setIfInBounds_toArray, List.set_cons_zero, List.set_cons_succ])
        refine wpAnyH_ready (rs := [11]) (by kernel_rfl) (by simp) ?_
        refine AllReadyH.cons (o := ?o12) ?a12 (fun K hK => ?s12) ?m12; (case' a12 => (simp only [List.getElem?_toArray, List.getElem?_cons_zero, List.getElem?_cons_succ]; rfl))
        case s12 =>
          refine step_append_lies _ (by rfl) _ _ _ (by rfl) w.heap.size 43 i0 _ 5 56 Try.underlying37 hi0 hz0 hz1 hz2 rfl (by omega) (.slice (some ⟨b, 0, none⟩) k c1) k (rowF ((l0.take k).map cutF)) (by rfl) ((own_below HO.out (Below.refl _ _).drew).alloc _) ⟨wn.heap.size, 0, none⟩ 1 1 [.int .i64 o, .bool hk, .string key2, .bool tb, .string val2] (by rfl) (by rfl) (World.news_of_block (cs := #[.int .i64 o, .bool hk, .string key2, .bool tb, .string val2]) (t := 43) (fr := (0, 0)) (heap_alloc_new wn.drew _)) (by simp [Value.oneCell']) (by omega) (by unfold maxLen; omega) (by omega) (by have := HZ.out; show w.heap.size ≤ (wn.heap.push _).size; simp; omega) (wn.heap.size + 1) (by simp) ?_
          intro gg cc w2 hown2 hgrow hat hltg
          refine hK.out _ _ (HT.out _ (but_grown hgrow)) (fun hHeld => ?_)
          clear hK K
          (try simp only [Act.put, List.setIfInBounds_toArray, List.set_cons_zero, List.set_cons_succ])
          refine wpAnyH_take (i := 12) (oi := ?o13) (v := ?v13) ?a13 (by kernel_rfl) (by kernel_rfl) (by kernel_rfl) ?q13 (Or.inl ⟨?g13, ?y13⟩) (by assumption) ?r13; (case' a13 => (simp only [List.getElem?_toArray, List.getElem?_cons_zero, List.getElem?_cons_succ]; rfl)); (case' q13 => (exact fun _ _ _ h => h)); (case' g13 => rfl); (case' y13 => (intro w hSw; (try dsimp only at hSw); go_simp; try with_reducible rfl)); (case' r13 => (try simp only [Act.put, List.setIfInBounds_toArray, List.set_cons_zero, List.set_cons_succ]))
          refine wpAnyH_done (by kernel_rfl) ?_ _
          go_wp2_with fail
          go_roundw
          case rel => exact ⟨k + 1, gg, cc, by omega, by omega, by go_num, rfl, Lib.hid (by rw [HROW.out]; exact hown2), HB.out.trans (hHeld.2.below HZ.out HBB.out (fun j e => by injection e with e; exact e ▸ HBB.out))⟩
          case measure => simp [intOf]; omega
        exact AllReadyH.nil
      exact AllReadyH.nil
    · have hd : n ≤ k ∨ (k < n ∧ 70 ≤ k) := by omega
      obtain ⟨M, hM⟩ : ∃ M, (l0.take k).map cutF = M := ⟨_, rfl⟩
      have HL : Hid (M.length = k) := Lib.hid (by rw [← hM]; exact cut_len l0 k (by rw [HN.out]; exact hkn))
      have SM : Hid (∀ f ∈ M, f.r.key.size ≤ maxLen ∧ f.r.val.size ≤ maxLen) := Lib.hid (by rw [← hM]; exact cut_small _)
      have KM : Hid (k ≤ maxLen) := Lib.hid (by unfold maxLen; omega)
      rw [hM] at hown
      have HB := Lib.hid hbel
      clear hM HR HS
      obtain ⟨x, hx⟩ : ∃ x, loadE a0 a1 M = x := ⟨_, rfl⟩
      have HX := Lib.hid hx
      by_cases hx0 : x = 0
      · subst hx0
        have HG := Lib.hid (load_good hx)
        have NE := Lib.hid (newE_of hx)
        have K64 : Hid (k ≤ 64) := Lib.hid (by have := HG.out.len; rw [HL.out] at this; exact this)
        clear hx
        rcases hd with hd | ⟨hd1, hd2⟩
        · go_wp2_with (first
            | (go_at_call 21; have _q := M8; refine (fixed5_any _).mono ?_; rintro e w9 ⟨rfl, hb9⟩)
            | (go_at_call 20; have _q := M7; refine (same_mine N7 M7 HG).mono ?_; rintro e w8 ⟨rfl, hb8⟩; have M8 := Lib.hid (M7.out.below' hb8))
            | (go_at_call 20; have _q := N6; refine (same_mine P6 M6 HG).mono ?_; rintro e w7 ⟨rfl, hb7⟩; have M7 := Lib.hid (M6.out.below' hb7); have N7 := Lib.hid (N6.out.below' hb7))
            | (go_at_call 22; have _q := R5; refine (load_yes a0 a1 A5 M k c5 w5.heap.size w w5 (Lib.hid M5.out.old) R5 (Nat.le_refl _) HL.out KM.out SM HX).mono ?_; rintro e w6 ⟨g6, rfl, hm6, hb6⟩; have N6 := Lib.hid hm6; have M6 := Lib.hid (M5.out.below' hb6); have P6 := Lib.hid (P5.out.below' hb6); clear hm6)
            | (go_at_call 24; have _q := M4; refine (all_mine P4 HL.out K64.out).mono ?_; rintro e w5 ⟨A5, c5, rfl, hr5, hb5⟩; have R5 := Lib.hid hr5; have M5 := Lib.hid (M4.out.below' hb5); have P5 := Lib.hid (P4.out.below' hb5); clear hr5)
            | (go_at_call 9; have _q := M3; refine (rnew_yes a0 _ NE).mono ?_; rintro e w4 ⟨g4, rfl, hb4⟩; have M4 := Lib.hid (M3.out.below' hb4); have P4 := Lib.hid (P3.out.below' hb4))
            | (go_at_call 8; have _q := M2; refine (new_yes a0 _ NE).mono ?_; rintro e w3 ⟨g3, rfl, hb3⟩; have M3 := Lib.hid (M2.out.below' hb3); have P3 := Lib.hid (P2.out.below' hb3))
            | (go_at_call 23; have _q := P1; refine (rload_yes a0 a1 b k c1 w.heap.size M w w1 (Lib.hid P1.out.old) O1 HL.out KM.out SM HX).mono ?_; rintro e w2 ⟨g2, rfl, hm2, hb2⟩; have M2 := Lib.hid hm2; have P2 := Lib.hid (P1.out.below' hb2); clear hm2)
            | (go_at_call 22; refine (load_yes a0 a1 (some ⟨b, 0, none⟩) M k c1 wr.heap.size w wr HB (Lib.hid (own_reads HL.out hown.out)) (Nat.le_refl _) HL.out KM.out SM HX).mono ?_; rintro e w1 ⟨g1, rfl, hm1, hb1⟩; have P1 := Lib.hid hm1; have O1 := Lib.hid (own_below hown.out hb1); clear hm1))
          go_ret
          exact ⟨rfl, acc M8.out.old hb9⟩
        · go_wp2_with (first
            | (go_at_call 21; have _q := M8; refine (fixed5_any _).mono ?_; rintro e w9 ⟨rfl, hb9⟩)
            | (go_at_call 20; have _q := M7; refine (same_mine N7 M7 HG).mono ?_; rintro e w8 ⟨rfl, hb8⟩; have M8 := Lib.hid (M7.out.below' hb8))
            | (go_at_call 20; have _q := N6; refine (same_mine P6 M6 HG).mono ?_; rintro e w7 ⟨rfl, hb7⟩; have M7 := Lib.hid (M6.out.below' hb7); have N7 := Lib.hid (N6.out.below' hb7))
            | (go_at_call 22; have _q := R5; refine (load_yes a0 a1 A5 M k c5 w5.heap.size w w5 (Lib.hid M5.out.old) R5 (Nat.le_refl _) HL.out KM.out SM HX).mono ?_; rintro e w6 ⟨g6, rfl, hm6, hb6⟩; have N6 := Lib.hid hm6; have M6 := Lib.hid (M5.out.below' hb6); have P6 := Lib.hid (P5.out.below' hb6); clear hm6)
            | (go_at_call 24; have _q := M4; refine (all_mine P4 HL.out K64.out).mono ?_; rintro e w5 ⟨A5, c5, rfl, hr5, hb5⟩; have R5 := Lib.hid hr5; have M5 := Lib.hid (M4.out.below' hb5); have P5 := Lib.hid (P4.out.below' hb5); clear hr5)
            | (go_at_call 9; have _q := M3; refine (rnew_yes a0 _ NE).mono ?_; rintro e w4 ⟨g4, rfl, hb4⟩; have M4 := Lib.hid (M3.out.below' hb4); have P4 := Lib.hid (P3.out.below' hb4))
            | (go_at_call 8; have _q := M2; refine (new_yes a0 _ NE).mono ?_; rintro e w3 ⟨g3, rfl, hb3⟩; have M3 := Lib.hid (M2.out.below' hb3); have P3 := Lib.hid (P2.out.below' hb3))
            | (go_at_call 23; have _q := P1; refine (rload_yes a0 a1 b k c1 w.heap.size M w w1 (Lib.hid P1.out.old) O1 HL.out KM.out SM HX).mono ?_; rintro e w2 ⟨g2, rfl, hm2, hb2⟩; have M2 := Lib.hid hm2; have P2 := Lib.hid (P1.out.below' hb2); clear hm2)
            | (go_at_call 22; refine (load_yes a0 a1 (some ⟨b, 0, none⟩) M k c1 wr.heap.size w wr HB (Lib.hid (own_reads HL.out hown.out)) (Nat.le_refl _) HL.out KM.out SM HX).mono ?_; rintro e w1 ⟨g1, rfl, hm1, hb1⟩; have P1 := Lib.hid hm1; have O1 := Lib.hid (own_below hown.out hb1); clear hm1))
          go_ret
          exact ⟨rfl, acc M8.out.old hb9⟩
      · have NE := newE_or a0
        rcases NE with hne | hne
        · have HNE := Lib.hid hne
          clear hne hx
          rcases hd with hd | ⟨hd1, hd2⟩
          · go_wp2_with (first
              | (go_at_call 21; have _q := B4; refine (fixed5_any _).mono ?_; rintro e w9 ⟨rfl, hb9⟩)
              | (go_at_call 9; have _q := B3; refine (rnew_yes a0 _ HNE).mono ?_; rintro e w4 ⟨g4, rfl, hb4⟩; have B4 := Lib.hid (acc B3.out hb4))
              | (go_at_call 8; have _q := B2; refine (new_yes a0 _ HNE).mono ?_; rintro e w3 ⟨g3, rfl, hb3⟩; have B3 := Lib.hid (acc B2.out hb3))
              | (go_at_call 23; have _q := O1; refine (rload_not a0 a1 b k c1 w.heap.size M x w1 O1 HL.out KM.out SM HX hx0).mono ?_; rintro e w2 ⟨rfl, hb2⟩; have B2 := Lib.hid (acc B1.out hb2))
              | (go_at_call 22; refine (load_not a0 a1 (some ⟨b, 0, none⟩) M k c1 wr.heap.size x wr (Lib.hid (own_reads HL.out hown.out)) (Nat.le_refl _) HL.out KM.out SM HX hx0).mono ?_; rintro e w1 ⟨rfl, hb1⟩; have B1 := Lib.hid (acc HB.out hb1); have O1 := Lib.hid (own_below hown.out hb1)))
            go_ret
            exact ⟨rfl, acc B4.out hb9⟩
          · go_wp2_with (first
              | (go_at_call 21; have _q := B4; refine (fixed5_any _).mono ?_; rintro e w9 ⟨rfl, hb9⟩)
              | (go_at_call 9; have _q := B3; refine (rnew_yes a0 _ HNE).mono ?_; rintro e w4 ⟨g4, rfl, hb4⟩; have B4 := Lib.hid (acc B3.out hb4))
              | (go_at_call 8; have _q := B2; refine (new_yes a0 _ HNE).mono ?_; rintro e w3 ⟨g3, rfl, hb3⟩; have B3 := Lib.hid (acc B2.out hb3))
              | (go_at_call 23; have _q := O1; refine (rload_not a0 a1 b k c1 w.heap.size M x w1 O1 HL.out KM.out SM HX hx0).mono ?_; rintro e w2 ⟨rfl, hb2⟩; have B2 := Lib.hid (acc B1.out hb2))
              | (go_at_call 22; refine (load_not a0 a1 (some ⟨b, 0, none⟩) M k c1 wr.heap.size x wr (Lib.hid (own_reads HL.out hown.out)) (Nat.le_refl _) HL.out KM.out SM HX hx0).mono ?_; rintro e w1 ⟨rfl, hb1⟩; have B1 := Lib.hid (acc HB.out hb1); have O1 := Lib.hid (own_below hown.out hb1)))
            go_ret
            exact ⟨rfl, acc B4.out hb9⟩
        · have HNE := Lib.hid hne
          clear hne hx
          rcases hd with hd | ⟨hd1, hd2⟩
          · go_wp2_with (first
              | (go_at_call 21; have _q := B4; refine (fixed5_any _).mono ?_; rintro e w9 ⟨rfl, hb9⟩)
              | (go_at_call 9; have _q := B3; refine (rnew_no a0 _ HNE).mono ?_; rintro e w4 ⟨rfl, hb4⟩; have B4 := Lib.hid (acc B3.out hb4))
              | (go_at_call 8; have _q := B2; refine (new_no a0 _ HNE).mono ?_; rintro e w3 ⟨rfl, hb3⟩; have B3 := Lib.hid (acc B2.out hb3))
              | (go_at_call 23; have _q := O1; refine (rload_not a0 a1 b k c1 w.heap.size M x w1 O1 HL.out KM.out SM HX hx0).mono ?_; rintro e w2 ⟨rfl, hb2⟩; have B2 := Lib.hid (acc B1.out hb2))
              | (go_at_call 22; refine (load_not a0 a1 (some ⟨b, 0, none⟩) M k c1 wr.heap.size x wr (Lib.hid (own_reads HL.out hown.out)) (Nat.le_refl _) HL.out KM.out SM HX hx0).mono ?_; rintro e w1 ⟨rfl, hb1⟩; have B1 := Lib.hid (acc HB.out hb1); have O1 := Lib.hid (own_below hown.out hb1)))
            go_ret
            exact ⟨rfl, acc B4.out hb9⟩
          · go_wp2_with (first
              | (go_at_call 21; have _q := B4; refine (fixed5_any _).mono ?_; rintro e w9 ⟨rfl, hb9⟩)
              | (go_at_call 9; have _q := B3; refine (rnew_no a0 _ HNE).mono ?_; rintro e w4 ⟨rfl, hb4⟩; have B4 := Lib.hid (acc B3.out hb4))
              | (go_at_call 8; have _q := B2; refine (new_no a0 _ HNE).mono ?_; rintro e w3 ⟨rfl, hb3⟩; have B3 := Lib.hid (acc B2.out hb3))
              | (go_at_call 23; have _q := O1; refine (rload_not a0 a1 b k c1 w.heap.size M x w1 O1 HL.out KM.out SM HX hx0).mono ?_; rintro e w2 ⟨rfl, hb2⟩; have B2 := Lib.hid (acc B1.out hb2))
              | (go_at_call 22; refine (load_not a0 a1 (some ⟨b, 0, none⟩) M k c1 wr.heap.size x wr (Lib.hid (own_reads HL.out hown.out)) (Nat.le_refl _) HL.out KM.out SM HX hx0).mono ?_; rintro e w1 ⟨rfl, hb1⟩; have B1 := Lib.hid (acc HB.out hb1); have O1 := Lib.hid (own_below hown.out hb1)))
            go_ret
            exact ⟨rfl, acc B4.out hb9⟩

set_option maxRecDepth 100000 in
theorem lifted (os : Os) (started : os.Started) (H : Type) (enc : TypeId × Value → H) :
    ReturnsInHanded {} Try.checked os 4 .any (Rows.segmentLoadsSpec.pre6 enc Try.prog Try.f4 Rows.segmentLoadsRow.domain false) (Rows.segmentLoadsSpec.post enc Try.prog Try.f4 false true false false) := by
  refine returnsInHanded_of_change (C := Try.checked) own started (by kernel_rfl) Try.func4
    (ChangeSpec.witness6 (enc := enc) (C := Try.checked) false ⟨#[], #[.int .i64 0, .int .i64 0, .slice none 0 0], []⟩ 8 (by kernel_rfl) (by kernel_rfl) (by kernel_rfl) (by kernel_rfl)) ?_
  intro W base args ds gs before hval0 hW _ _
  have hval : ∀ (j : Nat) t v, Try.f4.params[j]? = some t → args[j]? = some v → Value.okWide Try.prog W .any base t v := hval0
  have hW' := hW
  obtain ⟨p, q, hA0, hV, rfl, hfz, hnd⟩ := hW
  have hA : DataW.TrodAll enc Try.prog W 0 (fun _ => true) true Try.f4.params.toList args.toList ds p := hA0
  rw [Try.params4] at hA hval
  obtain ⟨v0, vs0, d0, ds0, p0, q0, hargs, rfl, rfl, h0, r0⟩ := trodAll_cons hA
  obtain ⟨v1, vs1, d1, ds1, p1, q1, rfl, rfl, rfl, h1, r1⟩ := trodAll_cons r0
  obtain ⟨v2, vs2, d2, ds2, p2, q2, rfl, rfl, rfl, h2, r2⟩ := trodAll_cons r1
  obtain ⟨rfl, rfl, rfl⟩ := trodAll_nil r2
  obtain rfl : args = #[v0, v1, v2] := by cases args; simp_all
  obtain ⟨rfl, rfl⟩ := trodVars_none hV
  have k0 := h0
  have lt0 : ∀ x ∈ p0, x.block < W.heap.size := by obtain ⟨m, hm⟩ := k0; exact DataW.trod_lt m _ _ _ hm
  have k1 := h1
  have lt1 : ∀ x ∈ p1, x.block < W.heap.size := by obtain ⟨m, hm⟩ := k1; exact DataW.trod_lt m _ _ _ hm
  have k2 := h2
  have lt2 : ∀ x ∈ p2, x.block < W.heap.size := by obtain ⟨m, hm⟩ := k2; exact DataW.trod_lt m _ _ _ hm
  obtain ⟨a0, e0, _, _, w0⟩ := open_int Try.underlying3 (hval 0 3 v0 rfl rfl) h0
  subst e0
  obtain ⟨a1, e1, _, _, w1⟩ := open_int Try.underlying3 (hval 1 3 v1 rfl rfl) h1
  subst e1
  obtain ⟨A2, l2, c2, e2, R2⟩ := L5.open_fds (hval 2 37 v2 rfl rfl) h2
  subst e2
  clear hA0 hval0
  refine (walk W a0 w0 a1 w1 A2 l2 c2 R2).mono fun e W' ⟨he, bel⟩ => ?_
  subst he
  exact ⟨_, rfl, _, _, _, [], _, [], hW', trodAll_mk1 (shut_bool Try.underlying4 _), (trodAll_cons_mk (Below.trod laidOut (by kernel_rfl) (of_decide_eq_true (by kernel_rfl)) k0 bel lt0) (trodAll_cons_mk (Below.trod laidOut (by kernel_rfl) (of_decide_eq_true (by kernel_rfl)) k1 bel lt1) (trodAll_cons_mk (Below.trod laidOut (by kernel_rfl) (of_decide_eq_true (by kernel_rfl)) k2 bel lt2) trodAll_mk0))), rfl, bel.frame _, fun h => by cases h⟩

theorem over : Rows.segmentLoadsRow.holds Try.pinned (OpenSpec.ofChange Rows.segmentLoadsSpec) :=
  OpenClaim.holds_of_wide 4 Try.f4 rfl rfl rfl rfl rfl rfl rfl ⟨rfl, rfl, rfl, rfl, rfl⟩ rfl rfl rfl rfl rfl (by kernel_rfl) Try.func4 (by kernel_rfl)
    (of_decide_eq_true (by kernel_rfl)) (by unfold Func.isWrapper; first | (rw [if_pos (by decide +kernel)]; kernel_rfl) | (rw [if_neg (by decide +kernel)]; exact ⟨rfl, rfl⟩))
    (fun os started H enc _ => lifted os started H enc)

/-- the statement -/
theorem proved : Rows.SegmentLoadsSaid :=
  over
#print axioms proved
end Go.Proofs.Ytjmfhpombkkgmaa.segmentLoads
