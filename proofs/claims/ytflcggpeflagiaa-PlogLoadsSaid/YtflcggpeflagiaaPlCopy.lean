/-
  Contracts: a log's copy.
-/
import Derived.Test.YtflcggpeflagiaaPlRsegs
import Derived.Deep.DeepCutAuto
import Derived.Deep.CutBlock
namespace Go.Proofs.Ytflcggpeflagiaa.L6
open Go.RowKit
open L3 L4 L5

/-- a copy on its way: some of its segments are there -/
structure CpI (W wr : World) (room C Bq N : Nat) (qs : List Pl) (xs : List Value) : Prop where
  old : Below W.heap.size W wr
  c0 : W.heap.size ≤ C
  b0 : W.heap.size ≤ Bq
  row : wr.heap[C]? = some (.cells #[.int .i64 room, .slice (some ⟨Bq, 0, none⟩) N N] 65 (0, 0))
  own : wr.ownsRow W.heap.size 67 1 (.slice (some ⟨Bq, 0, none⟩) N N) N xs
  tk : xs.take qs.length = ptrs qs
  segs : ∀ p ∈ qs, Seg 93 wr p.g p.A p.c p.s.b p.s.n p.s.L
  since : ∀ k ∈ qs.flatMap Pl.bs, W.heap.size ≤ k
  nodup : (blocks C (some ⟨Bq, 0, none⟩) qs).Nodup
theorem CpI.lt {W wr : World} {room C Bq N : Nat} {qs : List Pl} {xs : List Value} (h : CpI W wr room C Bq N qs xs) : ∀ k ∈ blocks C (some ⟨Bq, 0, none⟩) qs, k < wr.heap.size := fun k hk => by
  rcases mem_blocks.1 hk with rfl | e | ⟨p, hp, rfl | e⟩
  · exact (Array.getElem?_eq_some_iff.1 h.row).1
  · exact (h.own.lt k (by rw [ownBlock_blk]; exact e)).2
  · exact (h.segs p hp).lt
  · exact (h.segs p hp).blkLt k e
theorem CpI.cNe {W wr : World} {room C Bq N : Nat} {qs : List Pl} {xs : List Value} (h : CpI W wr room C Bq N qs xs) : C ∉ [Bq] := fun e => by
  have hnd := h.nodup
  unfold blocks at hnd
  exact (List.nodup_cons.1 hnd).1 (by rw [List.mem_singleton.1 e]; simp [blk])
theorem take_put {xs : List Value} {j N : Nat} {ys : List Value} {a : Value} (h : xs.take j = ys) (hl : xs.length = N) (hj : j < N) : (xs.set j a).take (j + 1) = ys ++ [a] := by
  rw [List.take_set, ← h]
  have hx : xs.take (j + 1) = xs.take j ++ [xs[j]'(by omega)] := by
    rw [List.take_add_one, List.getElem?_eq_getElem (by omega)]; rfl
  rw [hx]
  have hlen : (xs.take j).length = j := by rw [List.length_take]; omega
  rw [List.set_append_right _ _ (by omega), hlen, Nat.sub_self]; rfl
theorem CpI.next {W wr wn : World} {room C Bq N g3 c3 j : Nat} {qs : List Pl} {xs : List Value} {A3 : Option Addr} {s : Sg} (h : CpI W wr room C Bq N qs xs) (hj : qs.length = j) (hlt : j < N) (hb : Below wr.heap.size wr wn) (hf : Seg 93 wn g3 A3 c3 s.b s.n s.L) (hg : wr.heap.size ≤ g3) (hA : ∀ k, blk A3 = some k → wr.heap.size ≤ k) :
    CpI W (wn.setCell ⟨Bq, j, none⟩ (.pointer (some ⟨g3, 0, none⟩))) room C Bq N (qs ++ [⟨g3, A3, c3, s⟩]) (xs.set j (.pointer (some ⟨g3, 0, none⟩))) := by
  subst hj
  have hlt' := h.lt
  have hBq : Bq < wr.heap.size := hlt' Bq (mem_blocks.2 (.inr (.inl rfl)))
  have hnd := h.nodup
  have hCB : C ≠ Bq := fun e => by
    unfold blocks at hnd
    have := (List.nodup_cons.1 hnd).1
    exact this (by simp [blk, e])
  have hset : ∀ k, k ≠ Bq → (wn.setCell ⟨Bq, qs.length, none⟩ (.pointer (some ⟨g3, 0, none⟩))).heap[k]? = wn.heap[k]? := fun k hk => Below.heap_setCell _ _ _ _ hk
  have hqB : ∀ p ∈ qs, ∀ k ∈ p.bs, k ≠ Bq := fun p hp k hk e => by
    unfold blocks at hnd
    have h2 := (List.nodup_cons.1 hnd).2
    have := (List.nodup_append.1 h2).2.2 Bq (by simp [blk]) k (List.mem_flatMap.2 ⟨p, hp, hk⟩)
    exact this e.symm
  have hnew : ∀ k ∈ (⟨g3, A3, c3, s⟩ : Pl).bs, wr.heap.size ≤ k := fun k hk => by
    rcases List.mem_cons.1 hk with e | e
    · have : k = g3 := e
      omega
    · exact hA k (by simpa [Option.mem_toList] using e)
  refine ⟨(h.old.trans (hb.mono h.old.size)).setCell (p := ⟨Bq, qs.length, none⟩) h.b0 _, h.c0, h.b0, (hset C hCB).trans ((hb.block C (hlt' C (mem_blocks.2 (.inl rfl)))).trans h.row), ((own_below h.own hb).stored qs.length _).1, ?_, fun p hp => ?_, fun k hk => ?_, ?_⟩
  · rw [List.length_append, List.length_singleton, take_put h.tk (by have := h.own.1; omega) hlt]
    simp [ptrs]
  · rcases List.mem_append.1 hp with hp | hp
    · exact ((h.segs p hp).below hb).kept (hset _ (hqB p hp _ (by simp [Pl.bs]))) (fun k e => hset k (hqB p hp k (by simp [Pl.bs, e])))
    · rw [List.mem_singleton.1 hp]
      exact hf.kept (hset _ (by show g3 ≠ Bq; omega)) (fun k e => hset k (by have := hA k e; omega))
  · rw [List.flatMap_append] at hk
    rcases List.mem_append.1 hk with hk | hk
    · exact h.since k hk
    · have := hnew k (by simpa using hk)
      have := h.old.size
      omega
  · have e : blocks C (some ⟨Bq, 0, none⟩) (qs ++ [⟨g3, A3, c3, s⟩]) = blocks C (some ⟨Bq, 0, none⟩) qs ++ (⟨g3, A3, c3, s⟩ : Pl).bs := by simp [blocks]
    rw [e]
    refine List.nodup_append.2 ⟨hnd, ?_, fun a ha b hb e => ?_⟩
    · unfold Pl.bs
      cases hAA : blk A3 with
      | none => simp
      | some k =>
        have := hf.ne
        rw [hAA] at this
        simp
        intro q; exact this (by rw [q])
    · have h1 := hlt' a ha
      have h2 := hnew b hb
      omega
theorem CpI.done {W wr : World} {room C Bq N : Nat} {qs : List Pl} {xs : List Value} (h : CpI W wr room C Bq N qs xs) (hl : qs.length = N) : PLog wr room C (some ⟨Bq, 0, none⟩) N qs ∧ ∀ k ∈ blocks C (some ⟨Bq, 0, none⟩) qs, W.heap.size ≤ k := by
  subst hl
  have e : xs = ptrs qs := by
    have := h.tk
    rwa [List.take_of_length_le (by have := h.own.1; omega)] at this
  refine ⟨⟨h.row, own_low (by rw [← e]; exact h.own) (Nat.zero_le _), h.segs, h.nodup⟩, fun k hk => ?_⟩
  rcases mem_blocks.1 hk with rfl | q | ⟨p, hp, q⟩
  · exact h.c0
  · injection q with q; dsimp only at q; rw [← q]; exact h.b0
  · refine h.since k (List.mem_flatMap.2 ⟨p, hp, ?_⟩)
    rcases q with rfl | q
    · simp [Pl.bs]
    · simp [Pl.bs, q]

set_option maxRecDepth 100000 in
set_option maxHeartbeats 4000000 in
theorem copy6_is {W : World} {room g cap : Nat} {P : Option Addr} {ps : List Pl} (N : Nat) (HL : Hid (PLog W room g P cap ps)) (G : Hid (GoodL room (ps.map (·.s)))) (hN : ps.length = N) (hN1 : N ≤ 1000) :
    Calls Try.prog 17 #[.pointer (some ⟨g, 0, none⟩)] W fun e W' => ∃ g' P' cap' ps', e = .returned (.pointer (some ⟨g', 0, none⟩)) ∧ PLog W' room g' P' cap' ps' ∧ ps'.map (·.s) = ps.map (·.s) ∧ (∀ k ∈ blocks g' P' ps', W.heap.size ≤ k) ∧ Below W.heap.size W W' := by
  have h0 : 0 < N := by have := G.out.ne; rw [List.length_map, hN] at this; exact this
  obtain ⟨i0, hi0, hz0, hz1, hz2⟩ := info_parts ptrInfo
  obtain ⟨W1, hmk, hown, hgrow⟩ := run_make_full (P := Try.prog) W.drew W.heap.size 63 67 i0 _ 1 Try.underlying63 hi0 hz0 hz1 .i64 .i64 N (by rw [hz2]; omega) (by unfold maxLen; omega) (Nat.le_refl _)
  have hbm : Below W.heap.size W W1 := (Below.refl _ _).drew.grown hgrow (Nat.le_refl _) (fun j e => by cases e)
  obtain ⟨pb, rfl, hpb, hnc, hcells⟩ := HL.out.form (by omega)
  rw [hN] at hnc
  have c0 := HL.out.c0
  have c1 := HL.out.c1
  rw [hN] at c1
  have hg : g < W.heap.size := HL.out.lt g (mem_blocks.2 (.inl rfl))
  have HC0 := Lib.hid c0
  have HC1 := Lib.hid c1
  have hT : ∀ w', Below W.heap.size W w' → (w'.cell? ⟨g, 0, none⟩ = some (.int .i64 room) ∧ w'.cell? ⟨g, 1, none⟩ = some (.slice (some ⟨pb, 0, none⟩) N cap)) ∧ Below W.heap.size W w' := fun w' q => ⟨⟨(q.cell (p := ⟨g, 0, none⟩) hg).trans HC0.out, (q.cell (p := ⟨g, 1, none⟩) hg).trans HC1.out⟩, q⟩
  have HT := Lib.hid hT
  have HN := Lib.hid hN
  have HCE := Lib.hid hcells
  have HOWN := Lib.hid hown
  clear hN hcells hown hgrow hi0 hz0 hz1 hz2 hT c0 c1
  go_enter Try.func17, Try.ntmps17
  go_wp2_with fail
  refine wp_region_held_drew (S := fun w' => (w'.cell? ⟨g, 0, none⟩ = some (.int .i64 room) ∧ w'.cell? ⟨g, 1, none⟩ = some (.slice (some ⟨pb, 0, none⟩) N cap)) ∧ Below W.heap.size W w') (by kernel_rfl) (HT.out _ (Below.refl _ _).drew) (fun hHeld => ?_)
  refine wpAnyH_take (i := 0) (oi := ?o1) (v := ?v1) ?a1 (by kernel_rfl) (by kernel_rfl) (by kernel_rfl) ?q1 (Or.inl ⟨?g1, ?y1⟩) (by assumption) ?r1; (case' a1 => (simp only [List.getElem?_toArray, List.getElem?_cons_zero]; rfl)); (case' q1 => (exact fun _ _ _ h => h)); (case' g1 => rfl); (case' y1 => (intro w hSw; (try dsimp only at hSw); go_simp; try with_reducible rfl)); (case' r1 => (try simp only [Act.put, List.setIfInBounds_toArray, List.set_cons_zero, List.set_cons_succ]))
  refine wpAnyH_take (i := 1) (oi := ?o2) (v := ?v2) ?a2 (by kernel_rfl) (by kernel_rfl) (by kernel_rfl) ?q2 (Or.inl ⟨?g2, ?y2⟩) (by assumption) ?r2; (case' a2 => (simp only [List.getElem?_toArray, List.getElem?_cons_zero, List.getElem?_cons_succ]; rfl)); (case' q2 => (exact fun _ _ _ h => h)); (case' g2 => rfl); (case' y2 => (intro w hSw; (try dsimp only at hSw); go_simp; try with_reducible rfl)); (case' r2 => (try simp only [Act.put, List.setIfInBounds_toArray, List.set_cons_zero, List.set_cons_succ]))
  refine wpAnyH_take (i := 2) (oi := ?o3) (v := ?v3) ?a3 (by kernel_rfl) (by kernel_rfl) (by kernel_rfl) ?q3 (Or.inl ⟨?g3, ?y3⟩) (by assumption) ?r3; (case' a3 => (simp only [List.getElem?_toArray, List.getElem?_cons_zero, List.getElem?_cons_succ]; rfl)); (case' q3 => (exact fun _ _ _ h => h)); (case' g3 => rfl); (case' y3 => (intro w hSw; (try dsimp only at hSw); go_simp; try with_reducible rfl)); (case' r3 => (try simp only [Act.put, List.setIfInBounds_toArray, List.set_cons_zero, List.set_cons_succ]))
  refine wpAnyH_take (i := 3) (oi := ?o4) (v := ?v4) ?a4 (by kernel_rfl) (by kernel_rfl) (by kernel_rfl) ?q4 (Or.inl ⟨?g4, ?y4⟩) (by assumption) ?r4; (case' a4 => (simp only [List.getElem?_toArray, List.getElem?_cons_zero, List.getElem?_cons_succ]; rfl)); (case' q4 => (exact fun _ _ _ h => h)); (case' g4 => rfl); (case' y4 => (intro w hSw; (try dsimp only at hSw); go_simp; try with_reducible rfl)); (case' r4 => (try simp only [Act.put, List.setIfInBounds_toArray, List.set_cons_zero, List.set_cons_succ]))
  refine wpAnyH_take (i := 4) (oi := ?o5) (v := ?v5) ?a5 (by kernel_rfl) (by kernel_rfl) (by kernel_rfl) ?q5 (Or.inl ⟨?g5, ?y5⟩) (by assumption) ?r5; (case' a5 => (simp only [List.getElem?_toArray, List.getElem?_cons_zero, List.getElem?_cons_succ]; rfl)); (case' q5 => (exact fun _ _ _ h => h)); (case' g5 => rfl); (case' y5 => (intro w hSw; (try dsimp only at hSw); go_simp; try with_reducible rfl)); (case' r5 => (try simp only [Act.put, List.setIfInBounds_toArray, List.set_cons_zero, List.set_cons_succ]))
  refine wpAnyH_take (i := 5) (oi := ?o6) (v := ?v6) ?a6 (by kernel_rfl) (by kernel_rfl) (by kernel_rfl) ?q6 (Or.inl ⟨?g6, ?y6⟩) (by assumption) ?r6; (case' a6 => (simp only [List.getElem?_toArray, List.getElem?_cons_zero, List.getElem?_cons_succ]; rfl)); (case' q6 => (exact fun _ _ _ h => h)); (case' g6 => rfl); (case' y6 => (intro w hSw; (try dsimp only at hSw); go_simp; try with_reducible rfl)); (case' r6 => (try simp only [Act.put, List.setIfInBounds_toArray, List.set_cons_zero, List.set_cons_succ]))
  refine wpAnyH_take (i := 6) (oi := ?o7) (v := ?v7) ?a7 (by kernel_rfl) (by kernel_rfl) (by kernel_rfl) ?q7 (Or.inl ⟨?g7, ?y7⟩) (by assumption) ?r7; (case' a7 => (simp only [List.getElem?_toArray, List.getElem?_cons_zero, List.getElem?_cons_succ]; rfl)); (case' q7 => (exact fun _ _ _ h => h)); (case' g7 => rfl); (case' y7 => (intro w hSw; (try dsimp only at hSw); go_simp; try with_reducible rfl)); (case' r7 => (try simp only [Act.put, List.setIfInBounds_toArray, List.set_cons_zero, List.set_cons_succ]))
  refine wpAnyH_take (i := 7) (oi := ?o8) (v := ?v8) ?a8 (by kernel_rfl) (by kernel_rfl) (by kernel_rfl) ?q8 (Or.inl ⟨?g8, ?y8⟩) (by assumption) ?r8; (case' a8 => (simp only [List.getElem?_toArray, List.getElem?_cons_zero, List.getElem?_cons_succ]; rfl)); (case' q8 => (exact fun _ _ _ h => h)); (case' g8 => rfl); (case' y8 => (intro w hSw; (try dsimp only at hSw); go_simp; try with_reducible rfl)); (case' r8 => (try simp only [Act.put, List.setIfInBounds_toArray, List.set_cons_zero, List.set_cons_succ]))
  refine wpAnyH_take (i := 8) (oi := ?o9) (v := ?v9) ?a9 (by kernel_rfl) (by kernel_rfl) (by kernel_rfl) ?q9 (Or.inl ⟨?g9, ?y9⟩) (by assumption) ?r9; (case' a9 => (simp only [List.getElem?_toArray, List.getElem?_cons_zero, List.getElem?_cons_succ]; rfl)); (case' q9 => (exact fun _ _ _ h => h)); (case' g9 => rfl); (case' y9 => (intro w hSw; (try dsimp only at hSw); go_simp; try with_reducible rfl)); (case' r9 => (try simp only [Act.put, List.setIfInBounds_toArray, List.set_cons_zero, List.set_cons_succ]))
  refine wpAnyH_ready (rs := [9]) (by kernel_rfl) (by simp) ?_
  refine AllReadyH.cons (o := ?o10) ?a10 (fun K hK => ?s10) ?m10; (case' a10 => (simp only [List.getElem?_toArray, List.getElem?_cons_zero, List.getElem?_cons_succ]; rfl))
  case s10 =>
    go_simp
    refine hK.out _ _ (HT.out _ hbm) (fun hHeld => ?_)
    clear hK K
    (try simp only [Act.put, List.setIfInBounds_toArray, List.set_cons_zero, List.set_cons_succ])
    refine wpAnyH_take (i := 10) (oi := ?o11) (v := ?v11) ?a11 (by kernel_rfl) (by kernel_rfl) (by kernel_rfl) ?q11 (Or.inl ⟨?g11, ?y11⟩) (by assumption) ?r11; (case' a11 => (simp only [List.getElem?_toArray, List.getElem?_cons_zero, List.getElem?_cons_succ]; rfl)); (case' q11 => (exact fun _ _ _ h => h)); (case' g11 => rfl); (case' y11 => (intro w hSw; (try dsimp only at hSw); go_simp; try with_reducible rfl)); (case' r11 => (try simp only [Act.put, List.setIfInBounds_toArray, List.set_cons_zero, List.set_cons_succ]))
    refine wpAnyH_ready (rs := [11]) (by kernel_rfl) (by simp) ?_
    refine AllReadyH.cons (o := ?o12) ?a12 (fun K hK => ?s12) ?m12; (case' a12 => (simp only [List.getElem?_toArray, List.getElem?_cons_zero, List.getElem?_cons_succ]; rfl))
    case s12 =>
      go_simp
      refine hK.out _ _ (HT.out _ (hHeld.2.alloc hHeld.2.size _)) (fun hHeld => ?_)
      clear hK K
      (try simp only [Act.put, List.setIfInBounds_toArray, List.set_cons_zero, List.set_cons_succ])
      refine wpAnyH_take (i := 12) (oi := ?o13) (v := ?v13) ?a13 (by kernel_rfl) (by kernel_rfl) (by kernel_rfl) ?q13 (Or.inl ⟨?g13, ?y13⟩) (by assumption) ?r13; (case' a13 => (simp only [List.getElem?_toArray, List.getElem?_cons_zero, List.getElem?_cons_succ]; rfl)); (case' q13 => (exact fun _ _ _ h => h)); (case' g13 => rfl); (case' y13 => (intro w hSw; (try dsimp only at hSw); go_simp; try with_reducible rfl)); (case' r13 => (try simp only [Act.put, List.setIfInBounds_toArray, List.set_cons_zero, List.set_cons_succ]))
      refine wpAnyH_done (by kernel_rfl) ?_ _
      have HI0 : Hid (CpI W (W1.alloc (.cells #[.int .i64 room, .slice (some ⟨W.heap.size, 0, none⟩) N N] 65)) room W1.heap.size W.heap.size N [] _) := Lib.hid ⟨hbm.alloc hbm.size _, hbm.size, Nat.le_refl _, heap_alloc_new _ _, HOWN.out.alloc _, by simp [ptrs], fun p hp => (by cases hp), fun k hk => (by cases hk), by
        have := (HOWN.out.lt W.heap.size rfl).2
        simp [blocks, blk]
        omega⟩
      clear hmk hHeld
      go_upto_region 2 with fail
      generalize W1.alloc (.cells #[.int .i64 room, .slice (some ⟨W.heap.size, 0, none⟩) N N] 65) = W2 at HI0 ⊢
      generalize W1.heap.size = C at HI0 ⊢
      have x1 := (HT.out _ HI0.out.old).1.2
      clear hbm HOWN HC0 HC1
      obtain ⟨Bq, hBq⟩ : ∃ Bq, W.heap.size = Bq := ⟨_, rfl⟩
      have HI1 : Hid (CpI W W2 room C Bq N [] _) := Lib.hid (by rw [← hBq]; exact HI0.out)
      clear HI0 hBq
      go_wp2_with fail
      clear x1
      go_loopw [23] (fun iv wr => ∃ (j : Nat) (qs : List Pl) (xs : List Value), j ≤ N ∧ iv = .int .i64 j ∧ Hid (qs.length = j) ∧ Hid (qs.map (·.s) = (ps.take j).map (·.s)) ∧ Hid (CpI W wr room C Bq N qs xs)) (fun iv _ => N - (intOf iv).toNat)
      case atStart => exact ⟨0, [], _, by omega, rfl, Lib.hid rfl, Lib.hid rfl, HI1⟩
      case round =>
        obtain ⟨j, qs, xs, hj, rfl, HJ, HS, HR⟩ := hrel
        by_cases hlt : j < N
        · obtain ⟨p, hp⟩ : ∃ p, ps[j]? = some p := ⟨_, List.getElem?_eq_getElem (by rw [HN.out]; omega)⟩
          have hold := HR.out.old
          have ck := (hold.cell (p := ⟨pb, j, none⟩) hpb).trans (HCE.out j p hp)
          have SP : Hid (Seg 93 wr p.g p.A p.c p.s.b p.s.n p.s.L) := Lib.hid ((HL.out.segs p (List.mem_of_getElem? hp)).below hold)
          have gp := G.out.good p.s (List.mem_map_of_mem (List.mem_of_getElem? hp))
          obtain ⟨ls, hls⟩ : ∃ ls, p.s.L.length = ls := ⟨_, rfl⟩
          have hls64 : ls ≤ 64 := by rw [← hls]; exact gp.len
          have HLS := Lib.hid hls
          have HP := Lib.hid hp
          have hC : C < wr.heap.size := HR.out.lt C (mem_blocks.2 (.inl rfl))
          have HX1 : Hid (wr.cell? ⟨C, 1, none⟩ = some (.slice (some ⟨Bq, 0, none⟩) N N)) := Lib.hid ((cell_of_row _ _ 1 _ _ _ HR.out.row).trans rfl)
          have hT2 : ∀ w', Only [Bq] wr w' → w'.cell? ⟨C, 1, none⟩ = some (.slice (some ⟨Bq, 0, none⟩) N N) ∧ Only [Bq] wr w' := fun w' q => ⟨q.cell HX1.out HR.out.cNe, q⟩
          have HT2 := Lib.hid hT2
          have j0 : (0 : Int) ≤ (j : Int) := by omega
          have j1 : (j : Int) < (N : Int) := by omega
          clear hp gp hls hT2 hold
          go_wp2_with fail
          refine wp_region_held_drew (S := fun w' => w'.cell? ⟨C, 1, none⟩ = some (.slice (some ⟨Bq, 0, none⟩) N N) ∧ Only [Bq] wr w') (by kernel_rfl) (HT2.out _ (Only.ofBelow (Below.refl _ _).drew)) (fun hHeld => ?_)
          refine wpAnyH_take (i := 0) (oi := ?o14) (v := ?v14) ?a14 (by kernel_rfl) (by kernel_rfl) (by kernel_rfl) ?q14 (Or.inl ⟨?g14, ?y14⟩) (by assumption) ?r14; (case' a14 => (simp only [List.getElem?_toArray, List.getElem?_cons_zero]; rfl)); (case' q14 => (exact fun _ _ _ h => h)); (case' g14 => rfl); (case' y14 => (intro w hSw; (try dsimp only at hSw); go_simp; try with_reducible rfl)); (case' r14 => (try simp only [Act.put, List.setIfInBounds_toArray, List.set_cons_zero, List.set_cons_succ]))
          refine wpAnyH_take (i := 1) (oi := ?o15) (v := ?v15) ?a15 (by kernel_rfl) (by kernel_rfl) (by kernel_rfl) ?q15 (Or.inl ⟨?g15, ?y15⟩) (by assumption) ?r15; (case' a15 => (simp only [List.getElem?_toArray, List.getElem?_cons_zero, List.getElem?_cons_succ]; rfl)); (case' q15 => (exact fun _ _ _ h => h)); (case' g15 => rfl); (case' y15 => (intro w hSw; (try dsimp only at hSw); go_simp; try with_reducible rfl)); (case' r15 => (try simp only [Act.put, List.setIfInBounds_toArray, List.set_cons_zero, List.set_cons_succ]))
          refine wpAnyH_take (i := 2) (oi := ?o16) (v := ?v16) ?a16 (by kernel_rfl) (by kernel_rfl) (by kernel_rfl) ?q16 (Or.inl ⟨?g16, ?y16⟩) (by assumption) ?r16; (case' a16 => (simp only [List.getElem?_toArray, List.getElem?_cons_zero, List.getElem?_cons_succ]; rfl)); (case' q16 => (exact fun _ _ _ h => h)); (case' g16 => rfl); (case' y16 => (intro w hSw; (try dsimp only at hSw); go_simp; try with_reducible rfl)); (case' r16 => (try simp only [Act.put, List.setIfInBounds_toArray, List.set_cons_zero, List.set_cons_succ]))
          refine wpAnyH_take (i := 3) (oi := ?o17) (v := ?v17) ?a17 (by kernel_rfl) (by kernel_rfl) (by kernel_rfl) ?q17 (Or.inl ⟨?g17, ?y17⟩) (by assumption) ?r17; (case' a17 => (simp only [List.getElem?_toArray, List.getElem?_cons_zero, List.getElem?_cons_succ]; rfl)); (case' q17 => (exact fun _ _ _ h => h)); (case' g17 => rfl); (case' y17 => (intro w hSw; (try dsimp only at hSw); go_simp; try with_reducible rfl)); (case' r17 => (try simp only [Act.put, List.setIfInBounds_toArray, List.set_cons_zero, List.set_cons_succ]))
          refine wpAnyH_take (i := 4) (oi := ?o18) (v := ?v18) ?a18 (by kernel_rfl) (by kernel_rfl) (by kernel_rfl) ?q18 (Or.inl ⟨?g18, ?y18⟩) (by assumption) ?r18; (case' a18 => (simp only [List.getElem?_toArray, List.getElem?_cons_zero, List.getElem?_cons_succ]; rfl)); (case' q18 => (exact fun _ _ _ h => h)); (case' g18 => rfl); (case' y18 => (intro w hSw; (try dsimp only at hSw); go_simp; try with_reducible rfl)); (case' r18 => (try simp only [Act.put, List.setIfInBounds_toArray, List.set_cons_zero, List.set_cons_succ]))
          refine wpAnyH_take (i := 5) (oi := ?o19) (v := ?v19) ?a19 (by kernel_rfl) (by kernel_rfl) (by kernel_rfl) ?q19 (Or.inl ⟨?g19, ?y19⟩) (by assumption) ?r19; (case' a19 => (simp only [List.getElem?_toArray, List.getElem?_cons_zero, List.getElem?_cons_succ]; rfl)); (case' q19 => (exact fun _ _ _ h => h)); (case' g19 => rfl); (case' y19 => (intro w hSw; (try dsimp only at hSw); go_simp; try with_reducible rfl)); (case' r19 => (try simp only [Act.put, List.setIfInBounds_toArray, List.set_cons_zero, List.set_cons_succ]))
          refine wpAnyH_ready (rs := [6]) (by kernel_rfl) (by simp) ?_
          refine AllReadyH.cons (o := ?o20) ?a20 (fun K hK => ?s20) ?m20; (case' a20 => (simp only [List.getElem?_toArray, List.getElem?_cons_zero, List.getElem?_cons_succ]; rfl))
          case s20 =>
            go_simp
            go_at_call 44
            refine (copy_is ls (Lib.hid (SP.out.below (Below.refl _ _).drew)) HLS.out hls64).mono ?_
            rintro e wn ⟨g3, A3, c3, rfl, hf3, hb3⟩
            have hb4 : Below wr.heap.size wr wn := (Below.refl _ _).drew.trans hb3
            have HF3 := Lib.hid hf3
            have HB4 := Lib.hid hb4
            have z1 := (own_below HR.out.own hb4)
            obtain ⟨⟨u1, z0⟩, z2⟩ := own_cell2 z1 (by rw [Nat.mul_one]; exact hlt)
            clear z1 hf3
            go_wp2_with fail
            refine hK.out _ _ (HT2.out _ (Only.ofBelow hb4)) (fun hHeld => ?_)
            clear hK K
            (try simp only [Act.put, List.setIfInBounds_toArray, List.set_cons_zero, List.set_cons_succ])
            refine wpAnyH_take (i := 7) (oi := ?o21) (v := ?v21) ?a21 (by kernel_rfl) (by kernel_rfl) (by kernel_rfl) ?q21 (Or.inl ⟨?g21, ?y21⟩) (by assumption) ?r21; (case' a21 => (simp only [List.getElem?_toArray, List.getElem?_cons_zero, List.getElem?_cons_succ]; rfl)); (case' q21 => (exact fun _ _ _ h => h)); (case' g21 => rfl); (case' y21 => (intro w hSw; (try dsimp only at hSw); go_simp; try with_reducible rfl)); (case' r21 => (try simp only [Act.put, List.setIfInBounds_toArray, List.set_cons_zero, List.set_cons_succ]))
            refine wpAnyH_ready (rs := [8]) (by kernel_rfl) (by simp) ?_
            refine AllReadyH.cons (o := ?o22) ?a22 (fun K hK => ?s22) ?m22; (case' a22 => (simp only [List.getElem?_toArray, List.getElem?_cons_zero, List.getElem?_cons_succ]; rfl))
            case s22 =>
              go_simp
              refine hK.out _ _ (HT2.out _ (hHeld.2.setCell (p := ⟨Bq, j, none⟩) (.inl (by simp)) _)) (fun hHeld => ?_)
              clear hK K
              (try simp only [Act.put, List.setIfInBounds_toArray, List.set_cons_zero, List.set_cons_succ])
              refine wpAnyH_done (by kernel_rfl) ?_ _
              have hnx := HR.out.next HJ.out hlt HB4.out HF3.out.1 HF3.out.2.1 HF3.out.2.2
              have HNX := Lib.hid hnx
              clear hnx hHeld z0 z2
              go_wp2_with fail
              go_roundw
              case rel => exact ⟨j + 1, qs ++ [⟨g3, A3, c3, p.s⟩], _, by omega, by go_num, Lib.hid (by rw [List.length_append, HJ.out]; rfl), Lib.hid (by rw [List.map_append, HS.out, List.take_add_one, HP.out, List.map_append]; rfl), HNX⟩
              case measure => simp [intOf]; omega
            exact AllReadyH.nil
          exact AllReadyH.nil
        · obtain rfl : j = N := by omega
          obtain ⟨q1, q2⟩ := HR.out.done HJ.out
          have Q1 := Lib.hid q1
          have Q2 := Lib.hid q2
          clear q1 q2
          go_wp2_with fail
          go_ret
          exact ⟨C, rfl, some ⟨Bq, 0, none⟩, j, qs, Q1.out, by rw [HS.out, List.take_of_length_le (by rw [HN.out]; exact Nat.le_refl _)], Q2.out, HR.out.old⟩
    exact AllReadyH.nil
  exact AllReadyH.nil
end Go.Proofs.Ytflcggpeflagiaa.L6
