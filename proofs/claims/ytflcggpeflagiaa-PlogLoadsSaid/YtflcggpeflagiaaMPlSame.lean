/-
  Contract: is a log in the state that the document says?
-/
import Derived.Test.YtflcggpeflagiaaPlRcomp
import Derived.Test.YtflcggpeflagiaaPlRsegs
import Derived.Test.YtflcggpeflagiaaPlMine
import Derived.Test.YtflcggpeflagiaaPlCopy
import Derived.Test.YtflcggpeflagiaaPlFixed
namespace Go.Proofs.Ytflcggpeflagiaa.L6
open Go.RowKit
open L3 L4 L5

theorem RLog.readsT {W : World} {room k cap : Nat} {Q : Option Addr} {ss : List Sa} (h : RLog W room k Q cap ss) : ReadsT W W.heap.size Q ss := by
  refine ⟨fun h0 => ?_, fun r hr => ReadsF.own (h.recs r hr).1⟩
  obtain ⟨b, rfl, hb, _, hc⟩ := h.form h0
  exact ⟨b, 0, rfl, hb, fun i r hr => by rw [Nat.zero_add]; exact hc i r hr⟩
set_option maxRecDepth 100000 in
set_option maxHeartbeats 8000000 in
theorem same6_is {w W : World} {room g k : Nat} {l : List Sg} {S D : List Nat} (p : Hid (LogAt w W room g l S)) (q : Hid (DocAt w W room k l D)) (hl1 : l.length ≤ 1000) :
    Calls Try.prog 19 #[.pointer (some ⟨g, 0, none⟩), .pointer (some ⟨k, 0, none⟩)] W fun e w' => e = .returned (.bool true) ∧ Below W.heap.size W w' := by
  obtain ⟨Q, cap2, ss, -, hss, hr⟩ := q.out.log
  obtain ⟨n, hn⟩ : ∃ n, l.length = n := ⟨_, rfl⟩
  obtain ⟨a, ha⟩ : ∃ a, startL l = a := ⟨_, rfl⟩
  obtain ⟨b, hb⟩ : ∃ b, endL l = b := ⟨_, rfl⟩
  obtain ⟨y, hy⟩ : ∃ y, bytesL (allL l) = y := ⟨_, rfl⟩
  have hN : n ≤ 1000 := by omega
  have h0 : 0 < n := by rw [← hn]; exact p.out.good.ne
  have HSN : Hid (ss.length = n) := Lib.hid (by rw [← hn, ← hss, List.length_map])
  have HR := Lib.hid hr
  have HSS := Lib.hid hss
  have HG : Hid (GoodL room (ss.map Sa.s)) := Lib.hid (by rw [hss]; exact p.out.good)
  have HA0 := Lib.hid ha
  have HA : Hid (startL (ss.map Sa.s) = a) := Lib.hid (by rw [hss]; exact ha)
  have HB0 := Lib.hid hb
  have HB : Hid (endL (ss.map Sa.s) = b) := Lib.hid (by rw [hss]; exact hb)
  have HY := Lib.hid hy
  have HYD : Hid (bytesL (allS ss) = y) := Lib.hid (by unfold allS; rw [hss]; exact hy)
  have HML : Hid (∀ s ∈ l, s.L.length ≤ maxLen) := Lib.hid (fun s hs => by have := (p.out.good.good s hs).len; unfold maxLen; omega)
  have HT : Hid (∀ w', Below W.heap.size W w' → (w'.cell? ⟨k, 1, none⟩ = some (.slice Q n cap2)) ∧ Below W.heap.size W w') := Lib.hid (fun w' hb => ⟨by rw [← HSN.out]; exact (HR.out.below hb).c1, hb⟩)
  clear hr hss ha hb hy
  go_enter Try.func19, Try.ntmps19
  go_wp2_with (go_at_call 33; refine (m6_span p hl1 a b HA0 HB0).mono ?_; rintro e w1 ⟨rfl, hb1⟩)
  refine wp_region_held_drew (S := fun w' => (w'.cell? ⟨k, 1, none⟩ = some (.slice Q n cap2)) ∧ Below W.heap.size W w') (by kernel_rfl) (HT.out _ hb1.drew) (fun hHeld => ?_)
  refine wpAnyH_take (i := 0) (oi := ?o1) (v := ?v1) ?a1 (by kernel_rfl) (by kernel_rfl) (by kernel_rfl) ?q1 (Or.inl ⟨?g1, ?y1⟩) (by assumption) ?r1; (case' a1 => (simp only [List.getElem?_toArray, List.getElem?_cons_zero]; rfl)); (case' q1 => (exact fun _ _ _ h => h)); (case' g1 => rfl); (case' y1 => (intro w hSw; (try dsimp only at hSw); go_simp; try with_reducible rfl)); (case' r1 => (try simp only [Act.put, List.setIfInBounds_toArray, List.set_cons_zero, List.set_cons_succ]))
  refine wpAnyH_take (i := 1) (oi := ?o2) (v := ?v2) ?a2 (by kernel_rfl) (by kernel_rfl) (by kernel_rfl) ?q2 (Or.inl ⟨?g2, ?y2⟩) (by assumption) ?r2; (case' a2 => (simp only [List.getElem?_toArray, List.getElem?_cons_zero, List.getElem?_cons_succ]; rfl)); (case' q2 => (exact fun _ _ _ h => h)); (case' g2 => rfl); (case' y2 => (intro w hSw; (try dsimp only at hSw); go_simp; try with_reducible rfl)); (case' r2 => (try simp only [Act.put, List.setIfInBounds_toArray, List.set_cons_zero, List.set_cons_succ]))
  refine wpAnyH_ready (rs := [2]) (by kernel_rfl) (by simp) ?_
  refine AllReadyH.cons (o := ?o3) ?a3 (fun K hK => ?s3) ?m3; (case' a3 => (simp only [List.getElem?_toArray, List.getElem?_cons_zero, List.getElem?_cons_succ]; rfl))
  case s3 =>
    go_simp
    go_at_call 36
    refine (rstart6_is n a (Lib.hid (HR.out.below hHeld.2)) HSN.out h0 HA).mono ?_
    rintro e wn ⟨rfl, hbn⟩
    go_wp2_with fail
    refine hK.out _ _ (HT.out _ (acc hHeld.2 hbn)) (fun hHeld => ?_)
    clear hK K
    (try simp only [Act.put, List.setIfInBounds_toArray, List.set_cons_zero, List.set_cons_succ])
    refine wpAnyH_take (i := 3) (oi := ?o4) (v := ?v4) ?a4 (by kernel_rfl) (by kernel_rfl) (by kernel_rfl) ?q4 (Or.inl ⟨?g4, ?y4⟩) (by assumption) ?r4; (case' a4 => (simp only [List.getElem?_toArray, List.getElem?_cons_zero, List.getElem?_cons_succ]; rfl)); (case' q4 => (exact fun _ _ _ h => h)); (case' g4 => rfl); (case' y4 => (intro w hSw; (try dsimp only at hSw); go_simp; try with_reducible rfl)); (case' r4 => (try simp only [Act.put, List.setIfInBounds_toArray, List.set_cons_zero, List.set_cons_succ]))
    refine wpAnyH_take (i := 4) (oi := ?o5) (v := ?v5) ?a5 (by kernel_rfl) (by kernel_rfl) (by kernel_rfl) ?q5 (Or.inl ⟨?g5, ?y5⟩) (by assumption) ?r5; (case' a5 => (simp only [List.getElem?_toArray, List.getElem?_cons_zero, List.getElem?_cons_succ]; rfl)); (case' q5 => (exact fun _ _ _ h => h)); (case' g5 => rfl); (case' y5 => (intro w hSw; (try dsimp only at hSw); go_simp; try with_reducible rfl)); (case' r5 => (try simp only [Act.put, List.setIfInBounds_toArray, List.set_cons_zero, List.set_cons_succ]))
    refine wpAnyH_take (i := 5) (oi := ?o6) (v := ?v6) ?a6 (by kernel_rfl) (by kernel_rfl) (by kernel_rfl) ?q6 (Or.inl ⟨?g6, ?y6⟩) (by assumption) ?r6; (case' a6 => (simp only [List.getElem?_toArray, List.getElem?_cons_zero, List.getElem?_cons_succ]; rfl)); (case' q6 => (exact fun _ _ _ h => h)); (case' g6 => rfl); (case' y6 => (intro w hSw; (try dsimp only at hSw); go_simp; try with_reducible rfl)); (case' r6 => (try simp only [Act.put, List.setIfInBounds_toArray, List.set_cons_zero, List.set_cons_succ]))
    refine wpAnyH_take (i := 6) (oi := ?o7) (v := ?v7) ?a7 (by kernel_rfl) (by kernel_rfl) (by kernel_rfl) ?q7 (Or.inl ⟨?g7, ?y7⟩) (by assumption) ?r7; (case' a7 => (simp only [List.getElem?_toArray, List.getElem?_cons_zero, List.getElem?_cons_succ]; rfl)); (case' q7 => (exact fun _ _ _ h => h)); (case' g7 => rfl); (case' y7 => (intro w hSw; (try dsimp only at hSw); go_simp; try with_reducible rfl)); (case' r7 => (try simp only [Act.put, List.setIfInBounds_toArray, List.set_cons_zero, List.set_cons_succ]))
    refine wpAnyH_ready (rs := [7]) (by kernel_rfl) (by simp) ?_
    refine AllReadyH.cons (o := ?o8) ?a8 (fun K hK => ?s8) ?m8; (case' a8 => (simp only [List.getElem?_toArray, List.getElem?_cons_zero, List.getElem?_cons_succ]; rfl))
    case s8 =>
      go_simp
      go_at_call 31
      refine (rend6_is n b (Lib.hid (HR.out.below hHeld.2)) HSN.out h0 hN HB).mono ?_
      rintro e wn ⟨rfl, hbn⟩
      go_wp2_with fail
      refine hK.out _ _ (HT.out _ (acc hHeld.2 hbn)) (fun hHeld => ?_)
      clear hK K
      (try simp only [Act.put, List.setIfInBounds_toArray, List.set_cons_zero, List.set_cons_succ])
      refine wpAnyH_take (i := 8) (oi := ?o9) (v := ?v9) ?a9 (by kernel_rfl) (by kernel_rfl) (by kernel_rfl) ?q9 (Or.inl ⟨?g9, ?y9⟩) (by assumption) ?r9; (case' a9 => (simp only [List.getElem?_toArray, List.getElem?_cons_zero, List.getElem?_cons_succ]; rfl)); (case' q9 => (exact fun _ _ _ h => h)); (case' g9 => rfl); (case' y9 => (intro w hSw; (try dsimp only at hSw); go_simp; try with_reducible rfl)); (case' r9 => (try simp only [Act.put, List.setIfInBounds_toArray, List.set_cons_zero, List.set_cons_succ]))
      refine wpAnyH_take (i := 9) (oi := ?o10) (v := ?v10) ?a10 (by kernel_rfl) (by kernel_rfl) (by kernel_rfl) ?q10 (Or.inl ⟨?g10, ?y10⟩) (by assumption) ?r10; (case' a10 => (simp only [List.getElem?_toArray, List.getElem?_cons_zero, List.getElem?_cons_succ]; rfl)); (case' q10 => (exact fun _ _ _ h => h)); (case' g10 => rfl); (case' y10 => (intro w hSw; (try dsimp only at hSw); go_simp; try with_reducible rfl)); (case' r10 => (try simp only [Act.put, List.setIfInBounds_toArray, List.set_cons_zero, List.set_cons_succ]))
      refine wpAnyH_take (i := 10) (oi := ?o11) (v := ?v11) ?a11 (by kernel_rfl) (by kernel_rfl) (by kernel_rfl) ?q11 (Or.inl ⟨?g11, ?y11⟩) (by assumption) ?r11; (case' a11 => (simp only [List.getElem?_toArray, List.getElem?_cons_zero, List.getElem?_cons_succ]; rfl)); (case' q11 => (exact fun _ _ _ h => h)); (case' g11 => rfl); (case' y11 => (intro w hSw; (try dsimp only at hSw); go_simp; try with_reducible rfl)); (case' r11 => (try simp only [Act.put, List.setIfInBounds_toArray, List.set_cons_zero, List.set_cons_succ]))
      refine wpAnyH_take (i := 11) (oi := ?o12) (v := ?v12) ?a12 (by kernel_rfl) (by kernel_rfl) (by kernel_rfl) ?q12 (Or.inl ⟨?g12, ?y12⟩) (by assumption) ?r12; (case' a12 => (simp only [List.getElem?_toArray, List.getElem?_cons_zero, List.getElem?_cons_succ]; rfl)); (case' q12 => (exact fun _ _ _ h => h)); (case' g12 => rfl); (case' y12 => (intro w hSw; (try dsimp only at hSw); go_simp; try with_reducible rfl)); (case' r12 => (try simp only [Act.put, List.setIfInBounds_toArray, List.set_cons_zero, List.set_cons_succ]))
      refine wpAnyH_take (i := 13) (oi := ?o13) (v := ?v13) ?a13 (by kernel_rfl) (by kernel_rfl) (by kernel_rfl) ?q13 (Or.inl ⟨?g13, ?y13⟩) (by assumption) ?r13; (case' a13 => (simp only [List.getElem?_toArray, List.getElem?_cons_zero, List.getElem?_cons_succ]; rfl)); (case' q13 => (exact fun _ _ _ h => h)); (case' g13 => rfl); (case' y13 => (intro w hSw; (try dsimp only at hSw); go_simp; try with_reducible rfl)); (case' r13 => (try simp only [Act.put, List.setIfInBounds_toArray, List.set_cons_zero, List.set_cons_succ]))
      refine wpAnyH_ready (rs := [12]) (by kernel_rfl) (by simp) ?_
      refine AllReadyH.cons (o := ?o14) ?a14 (fun K hK => ?s14) ?m14; (case' a14 => (simp only [List.getElem?_toArray, List.getElem?_cons_zero, List.getElem?_cons_succ]; rfl))
      case s14 =>
        go_simp
        go_at_call 45
        refine (m6_bytes (Lib.hid (p.out.below hHeld.2)) hl1 y HY).mono ?_
        rintro e wn ⟨rfl, hbn⟩
        go_wp2_with fail
        refine hK.out _ _ (HT.out _ (acc hHeld.2 hbn)) (fun hHeld => ?_)
        clear hK K
        (try simp only [Act.put, List.setIfInBounds_toArray, List.set_cons_zero, List.set_cons_succ])
        refine wpAnyH_ready (rs := [14]) (by kernel_rfl) (by simp) ?_
        refine AllReadyH.cons (o := ?o15) ?a15 (fun K hK => ?s15) ?m15; (case' a15 => (simp only [List.getElem?_toArray, List.getElem?_cons_zero, List.getElem?_cons_succ]; rfl))
        case s15 =>
          go_simp
          go_at_call 46
          refine (rbytes6_is n y (Lib.hid (HR.out.below hHeld.2)) HG HSN.out hN HYD).mono ?_
          rintro e wn ⟨rfl, hbn⟩
          go_wp2_with fail
          refine hK.out _ _ (HT.out _ (acc hHeld.2 hbn)) (fun hHeld => ?_)
          clear hK K
          (try simp only [Act.put, List.setIfInBounds_toArray, List.set_cons_zero, List.set_cons_succ])
          refine wpAnyH_take (i := 15) (oi := ?o16) (v := ?v16) ?a16 (by kernel_rfl) (by kernel_rfl) (by kernel_rfl) ?q16 (Or.inl ⟨?g16, ?y16⟩) (by assumption) ?r16; (case' a16 => (simp only [List.getElem?_toArray, List.getElem?_cons_zero, List.getElem?_cons_succ]; rfl)); (case' q16 => (exact fun _ _ _ h => h)); (case' g16 => rfl); (case' y16 => (intro w hSw; (try dsimp only at hSw); go_simp; try with_reducible rfl)); (case' r16 => (try simp only [Act.put, List.setIfInBounds_toArray, List.set_cons_zero, List.set_cons_succ]))
          refine wpAnyH_take (i := 16) (oi := ?o17) (v := ?v17) ?a17 (by kernel_rfl) (by kernel_rfl) (by kernel_rfl) ?q17 (Or.inl ⟨?g17, ?y17⟩) (by assumption) ?r17; (case' a17 => (simp only [List.getElem?_toArray, List.getElem?_cons_zero, List.getElem?_cons_succ]; rfl)); (case' q17 => (exact fun _ _ _ h => h)); (case' g17 => rfl); (case' y17 => (intro w hSw; (try dsimp only at hSw); go_simp; try with_reducible rfl)); (case' r17 => (try simp only [Act.put, List.setIfInBounds_toArray, List.set_cons_zero, List.set_cons_succ]))
          refine wpAnyH_take (i := 17) (oi := ?o18) (v := ?v18) ?a18 (by kernel_rfl) (by kernel_rfl) (by kernel_rfl) ?q18 (Or.inl ⟨?g18, ?y18⟩) (by assumption) ?r18; (case' a18 => (simp only [List.getElem?_toArray, List.getElem?_cons_zero, List.getElem?_cons_succ]; rfl)); (case' q18 => (exact fun _ _ _ h => h)); (case' g18 => rfl); (case' y18 => (intro w hSw; (try dsimp only at hSw); go_simp; try with_reducible rfl)); (case' r18 => (try simp only [Act.put, List.setIfInBounds_toArray, List.set_cons_zero, List.set_cons_succ]))
          refine wpAnyH_take (i := 18) (oi := ?o19) (v := ?v19) ?a19 (by kernel_rfl) (by kernel_rfl) (by kernel_rfl) ?q19 (Or.inl ⟨?g19, ?y19⟩) (by assumption) ?r19; (case' a19 => (simp only [List.getElem?_toArray, List.getElem?_cons_zero, List.getElem?_cons_succ]; rfl)); (case' q19 => (exact fun _ _ _ h => h)); (case' g19 => rfl); (case' y19 => (intro w hSw; (try dsimp only at hSw); go_simp; try with_reducible rfl)); (case' r19 => (try simp only [Act.put, List.setIfInBounds_toArray, List.set_cons_zero, List.set_cons_succ]))
          refine wpAnyH_take (i := 20) (oi := ?o20) (v := ?v20) ?a20 (by kernel_rfl) (by kernel_rfl) (by kernel_rfl) ?q20 (Or.inl ⟨?g20, ?y20⟩) (by assumption) ?r20; (case' a20 => (simp only [List.getElem?_toArray, List.getElem?_cons_zero, List.getElem?_cons_succ]; rfl)); (case' q20 => (exact fun _ _ _ h => h)); (case' g20 => rfl); (case' y20 => (intro w hSw; (try dsimp only at hSw); go_simp; try with_reducible rfl)); (case' r20 => (try simp only [Act.put, List.setIfInBounds_toArray, List.set_cons_zero, List.set_cons_succ]))
          refine wpAnyH_take (i := 21) (oi := ?o21) (v := ?v21) ?a21 (by kernel_rfl) (by kernel_rfl) (by kernel_rfl) ?q21 (Or.inl ⟨?g21, ?y21⟩) (by assumption) ?r21; (case' a21 => (simp only [List.getElem?_toArray, List.getElem?_cons_zero, List.getElem?_cons_succ]; rfl)); (case' q21 => (exact fun _ _ _ h => h)); (case' g21 => rfl); (case' y21 => (intro w hSw; (try dsimp only at hSw); go_simp; try with_reducible rfl)); (case' r21 => (try simp only [Act.put, List.setIfInBounds_toArray, List.set_cons_zero, List.set_cons_succ]))
          refine wpAnyH_take (i := 22) (oi := ?o22) (v := ?v22) ?a22 (by kernel_rfl) (by kernel_rfl) (by kernel_rfl) ?q22 (Or.inl ⟨?g22, ?y22⟩) (by assumption) ?r22; (case' a22 => (simp only [List.getElem?_toArray, List.getElem?_cons_zero, List.getElem?_cons_succ]; rfl)); (case' q22 => (exact fun _ _ _ h => h)); (case' g22 => rfl); (case' y22 => (intro w hSw; (try dsimp only at hSw); go_simp; try with_reducible rfl)); (case' r22 => (try simp only [Act.put, List.setIfInBounds_toArray, List.set_cons_zero, List.set_cons_succ]))
          refine wpAnyH_take (i := 23) (oi := ?o23) (v := ?v23) ?a23 (by kernel_rfl) (by kernel_rfl) (by kernel_rfl) ?q23 (Or.inl ⟨?g23, ?y23⟩) (by assumption) ?r23; (case' a23 => (simp only [List.getElem?_toArray, List.getElem?_cons_zero, List.getElem?_cons_succ]; rfl)); (case' q23 => (exact fun _ _ _ h => h)); (case' g23 => rfl); (case' y23 => (intro w hSw; (try dsimp only at hSw); go_simp; try with_reducible rfl)); (case' r23 => (try simp only [Act.put, List.setIfInBounds_toArray, List.set_cons_zero, List.set_cons_succ]))
          refine wpAnyH_ready (rs := [19]) (by kernel_rfl) (by simp) ?_
          refine AllReadyH.cons (o := ?o24) ?a24 (fun K hK => ?s24) ?m24; (case' a24 => (simp only [List.getElem?_toArray, List.getElem?_cons_zero, List.getElem?_cons_succ]; rfl))
          case s24 =>
            go_simp
            go_at_call 48
            refine (m6_segs (Lib.hid (p.out.below hHeld.2)) hl1 n hn).mono ?_
            rintro e wn ⟨X3, c3, ll, rfl, _, hll, hrs, _, _, hbn⟩
            have HLL := Lib.hid hll; have HRS := Lib.hid hrs; have HLN : Hid (ll.length = n) := Lib.hid (by have := congrArg List.length hll; rw [List.length_map, hn] at this; exact this); clear hll hrs
            go_wp2_with fail
            refine hK.out _ _ (HT.out _ (acc hHeld.2 hbn)) (fun hHeld => ?_)
            clear hK K
            (try simp only [Act.put, List.setIfInBounds_toArray, List.set_cons_zero, List.set_cons_succ])
            refine wpAnyH_ready (rs := [24]) (by kernel_rfl) (by simp) ?_
            refine AllReadyH.cons (o := ?o25) ?a25 (fun K hK => ?s25) ?m25; (case' a25 => (simp only [List.getElem?_toArray, List.getElem?_cons_zero, List.getElem?_cons_succ]; rfl))
            case s25 =>
              go_simp
              go_at_call 47
              refine (rsegs_is X3 Q ll ss n c3 cap2 _ _ (Lib.hid HRS.out.t) (Lib.hid (HR.out.below hHeld.2).readsT) (Nat.le_refl _) HLN.out hN (Lib.hid (by rw [HLL.out, HSS.out])) (Lib.hid (fun r hr => HML.out r.s (by rw [← HLL.out]; exact List.mem_map_of_mem hr)))).mono ?_
              rintro e wn ⟨rfl, hbn⟩
              go_wp2_with fail
              refine hK.out _ _ (HT.out _ (acc hHeld.2 hbn)) (fun hHeld => ?_)
              clear hK K
              (try simp only [Act.put, List.setIfInBounds_toArray, List.set_cons_zero, List.set_cons_succ])
              refine wpAnyH_take (i := 25) (oi := ?o26) (v := ?v26) ?a26 (by kernel_rfl) (by kernel_rfl) (by kernel_rfl) ?q26 (Or.inl ⟨?g26, ?y26⟩) (by assumption) ?r26; (case' a26 => (simp only [List.getElem?_toArray, List.getElem?_cons_zero, List.getElem?_cons_succ]; rfl)); (case' q26 => (exact fun _ _ _ h => h)); (case' g26 => rfl); (case' y26 => (intro w hSw; (try dsimp only at hSw); go_simp; try with_reducible rfl)); (case' r26 => (try simp only [Act.put, List.setIfInBounds_toArray, List.set_cons_zero, List.set_cons_succ]))
              refine wpAnyH_take (i := 26) (oi := ?o27) (v := ?v27) ?a27 (by kernel_rfl) (by kernel_rfl) (by kernel_rfl) ?q27 (Or.inl ⟨?g27, ?y27⟩) (by assumption) ?r27; (case' a27 => (simp only [List.getElem?_toArray, List.getElem?_cons_zero, List.getElem?_cons_succ]; rfl)); (case' q27 => (exact fun _ _ _ h => h)); (case' g27 => rfl); (case' y27 => (intro w hSw; (try dsimp only at hSw); go_simp; try with_reducible rfl)); (case' r27 => (try simp only [Act.put, List.setIfInBounds_toArray, List.set_cons_zero, List.set_cons_succ]))
              refine wpAnyH_done (by kernel_rfl) ?_ _
              go_wp2_with fail
              go_ret
              exact ⟨rfl, hHeld.2⟩
            exact AllReadyH.nil
          exact AllReadyH.nil
        exact AllReadyH.nil
      exact AllReadyH.nil
    exact AllReadyH.nil
  exact AllReadyH.nil
end Go.Proofs.Ytflcggpeflagiaa.L6
/-
  Two logs side by side, the program's and the document's: what is done to the one leaves the other.
-/
namespace Go.Proofs.Ytflcggpeflagiaa.L6
open Go.RowKit
open L3 L4 L5

structure Duo (w W : World) (room g k : Nat) (l1 l2 : List Sg) (S D : List Nat) : Prop where
  log : LogAt w W room g l1 S
  doc : DocAt w W room k l2 D
  far : ∀ j ∈ S, j ∉ D
section
variable {w W W' : World} {room g k : Nat} {l l' l1 l2 : List Sg} {S D : List Nat}
theorem Duo.below (h : Duo w W room g k l1 l2 S D) (b : Below W.heap.size W W') : Duo w W' room g k l1 l2 S D := ⟨h.log.below b, h.doc.below b, h.far⟩
theorem Duo.one (h : Duo w W room g k l1 l2 S D) (t : Turned w W room g S l' W') : ∃ S', Duo w W' room g k l' l2 S' D ∧ Only S W W' := by
  obtain ⟨S', h1, h2, h3⟩ := t
  refine ⟨S', ⟨h1, h.doc.only h2 h.log.since (fun j hj hs => h.far j hs hj), fun j hj hd => ?_⟩, h2⟩
  rcases h3 j hj with q | q
  · exact h.far j q hd
  · have := h.doc.lt j hd; omega
theorem Duo.two (h : Duo w W room g k l1 l2 S D) (t : DTurned w W room k D l' W') : ∃ D', Duo w W' room g k l1 l' S D' := by
  obtain ⟨D', h1, h2, h3⟩ := t
  refine ⟨D', ⟨h.log.only h2 h.doc.since h.far, h1, fun j hj hd => ?_⟩⟩
  rcases h3 j hd with q | q
  · exact h.far j hj q
  · have := h.log.lt j hj; omega

theorem duo_append (p : Hid (Duo w W room g k l l2 S D)) (hN : l.length + 1 ≤ 1000) (X : Option Addr) (rs : List R) (n xc B : Nat) (hR : Hid (Reads W B X rs)) (hX : Hid (∀ j, blk X = some j → j ∉ S ∧ j ∉ D)) (hB : B ≤ W.heap.size) (hn : rs.length = n) (hrl : n ≤ maxLen) (hs : Hid (∀ r ∈ rs, r.key.size ≤ maxLen ∧ r.val.size ≤ maxLen)) (HX : Hid (appE room l rs = 0)) (en : Int) (hen : Hid (endL l = en)) :
    Calls Try.prog 8 #[.pointer (some ⟨g, 0, none⟩), .slice X n xc] W fun e W' => e = .returned (.tuple #[.int .i64 en, .int .i64 0]) ∧ Reads W' B X rs ∧ B ≤ W'.heap.size ∧ ∃ S', Duo w W' room g k (appL room rs l) l2 S' D := by
  refine (m6_append (Lib.hid p.out.log) hN X rs n xc B hR (Lib.hid (fun j e => (hX.out j e).1)) hB hn hrl hs HX).mono ?_
  rintro e W' ⟨he, ht⟩
  obtain ⟨S', q1, q2⟩ := p.out.one ht
  exact ⟨by rw [he, hen.out], reads_only hR.out q2 (fun j e => (hX.out j e).1), Nat.le_trans hB q2.size, S', q1⟩
theorem duo_append_no (p : Hid (Duo w W room g k l l2 S D)) (hN : l.length + 1 ≤ 1000) (X : Option Addr) (rs : List R) (n xc B : Nat) (x : Int) (hR : Hid (Reads W B X rs)) (hX : Hid (∀ j, blk X = some j → j ∉ S ∧ j ∉ D)) (hB : B ≤ W.heap.size) (hn : rs.length = n) (hrl : n ≤ maxLen) (hs : Hid (∀ r ∈ rs, r.key.size ≤ maxLen ∧ r.val.size ≤ maxLen)) (HX : Hid (appE room l rs = x)) (hx : x ≠ 0) :
    Calls Try.prog 8 #[.pointer (some ⟨g, 0, none⟩), .slice X n xc] W fun e W' => e = .returned (.tuple #[.int .i64 0, .int .i64 x]) ∧ Reads W' B X rs ∧ B ≤ W'.heap.size ∧ Duo w W' room g k l l2 S D := by
  refine (m6_append_no (Lib.hid p.out.log) hN X rs n xc B x hR (Lib.hid (fun j e => (hX.out j e).1)) hB hn hrl hs HX hx).mono ?_
  rintro e W' ⟨he, hb⟩
  exact ⟨he, hR.out.below (hb.mono hB), Nat.le_trans hB hb.size, p.out.below hb⟩
theorem duo_rappend (p : Hid (Duo w W room g k l1 l S D)) (G : Hid (GoodL room l)) (hN : l.length + 1 ≤ 1000) (X : Option Addr) (rs : List R) (n xc B : Nat) (hR : Hid (Reads W B X rs)) (hX : Hid (∀ j, blk X = some j → j ∉ D)) (hB : B ≤ W.heap.size) (hn : rs.length = n) (hrl : n ≤ 1000000) (hs : Hid (∀ r ∈ rs, r.key.size ≤ maxLen ∧ r.val.size ≤ maxLen)) (HX : Hid (appE room l rs = 0)) (en : Int) (hen : Hid (endL l = en)) :
    Calls Try.prog 9 #[.pointer (some ⟨k, 0, none⟩), .slice X n xc] W fun e W' => e = .returned (.tuple #[.int .i64 en, .int .i64 0]) ∧ ∃ D', Duo w W' room g k l1 (appL room rs l) S D' := by
  obtain ⟨Q, cap, ss, rfl, rfl, hr⟩ := p.out.doc.log
  rw [List.length_map] at hN
  refine (rappend6_is X rs n xc B ss.length 0 (Lib.hid hr) G rfl hN hR hX hB hn hrl hs HX).mono ?_
  rintro e W' (⟨hz, _⟩ | ⟨_, he, ht⟩)
  · exact absurd rfl hz
  · exact ⟨by rw [he, hen.out], p.out.two (p.out.doc.turned ht)⟩
theorem duo_rappend_no (p : Hid (Duo w W room g k l1 l S D)) (G : Hid (GoodL room l)) (hN : l.length + 1 ≤ 1000) (X : Option Addr) (rs : List R) (n xc B : Nat) (x : Int) (hR : Hid (Reads W B X rs)) (hX : Hid (∀ j, blk X = some j → j ∉ D)) (hB : B ≤ W.heap.size) (hn : rs.length = n) (hrl : n ≤ 1000000) (hs : Hid (∀ r ∈ rs, r.key.size ≤ maxLen ∧ r.val.size ≤ maxLen)) (HX : Hid (appE room l rs = x)) (hx : x ≠ 0) :
    Calls Try.prog 9 #[.pointer (some ⟨k, 0, none⟩), .slice X n xc] W fun e W' => e = .returned (.tuple #[.int .i64 0, .int .i64 x]) ∧ Duo w W' room g k l1 l S D := by
  obtain ⟨Q, cap, ss, rfl, rfl, hr⟩ := p.out.doc.log
  rw [List.length_map] at hN
  refine (rappend6_is X rs n xc B ss.length x (Lib.hid hr) G rfl hN hR hX hB hn hrl hs HX).mono ?_
  rintro e W' (⟨_, he, hb⟩ | ⟨hz, _⟩)
  · exact ⟨he, p.out.below hb⟩
  · exact absurd hz hx
theorem duo_rread (p : Hid (Duo w W room g k l1 l S D)) (G : Hid (GoodL room l)) (hN : l.length ≤ 1000) (a c : Int) (M : List L4.Fd) (m : Nat) (HX : Hid (readE l a = 0)) (HM : Hid (readL (allL l) a c = M)) (hm : M.length = m) :
    Calls Try.prog 11 #[.pointer (some ⟨k, 0, none⟩), .int .i64 a, .int .i64 c] W fun e W' => ∃ A cap, e = .returned (.tuple #[.slice A m cap, .int .i64 0]) ∧ W'.ownsRow W.heap.size 43 5 (.slice A m cap) m (rowF M) ∧ Below W.heap.size W W' := by
  obtain ⟨Q, cap, ss, rfl, rfl, hr⟩ := p.out.doc.log
  rw [List.length_map] at hN
  exact rread6_yes a c ss.length M m (Lib.hid hr) G rfl hN HX HM hm
theorem duo_rread_no (p : Hid (Duo w W room g k l1 l S D)) (G : Hid (GoodL room l)) (hN : l.length ≤ 1000) (a c x : Int) (HX : Hid (readE l a = x)) (hx : x ≠ 0) :
    Calls Try.prog 11 #[.pointer (some ⟨k, 0, none⟩), .int .i64 a, .int .i64 c] W fun e W' => e = .returned (.tuple #[.slice none 0 0, .int .i64 x]) ∧ Below W.heap.size W W' := by
  obtain ⟨Q, cap, ss, rfl, rfl, hr⟩ := p.out.doc.log
  rw [List.length_map] at hN
  exact rread6_no a c x ss.length (Lib.hid hr) G rfl hN HX hx
/-- what is read, or nothing -/
def readX (l : List Sg) (a c : Int) : List L4.Fd := if readE l a = 0 then readL (allL l) a c else []
theorem readX_len {l : List Sg} (G : GoodL room l) (hN : l.length ≤ 1000) (a c : Int) : (readX l a c).length ≤ 64000 := by
  unfold readX
  split
  · have h1 := readl_len (allL l) a c
    have h2 := all_len (l := l) (room := 64) (fun s hs => Nat.le_trans (G.few s hs) G.r64)
    omega
  · simp
theorem duo_readx (p : Hid (Duo w W room g k l l2 S D)) (hN : l.length ≤ 1000) (a c x : Int) (M : List L4.Fd) (m : Nat) (hc : c ≤ 9223372036854775807) (HX : Hid (readE l a = x)) (HM : Hid (readX l a c = M)) (hm : M.length = m) :
    Calls Try.prog 10 #[.pointer (some ⟨g, 0, none⟩), .int .i64 a, .int .i64 c] W fun e W' => ∃ A cap, e = .returned (.tuple #[.slice A m cap, .int .i64 x]) ∧ W'.ownsRow W.heap.size 43 5 (.slice A m cap) m (rowF M) ∧ Below W.heap.size W W' := by
  have hM := HM.out
  unfold readX at hM
  by_cases h0 : x = 0
  · subst h0
    rw [if_pos HX.out] at hM
    exact m6_read (Lib.hid p.out.log) hN a c M m hc HX (Lib.hid hM) hm
  · rw [if_neg (by rw [HX.out]; exact h0)] at hM
    subst hM hm
    refine (m6_read_no (Lib.hid p.out.log) hN a c x hc HX h0).mono ?_
    rintro e W' ⟨he, hb⟩
    exact ⟨none, 0, he, World.ownsRow_nil _ _ _ _, hb⟩
theorem duo_rreadx (p : Hid (Duo w W room g k l1 l S D)) (G : Hid (GoodL room l)) (hN : l.length ≤ 1000) (a c x : Int) (M : List L4.Fd) (m : Nat) (HX : Hid (readE l a = x)) (HM : Hid (readX l a c = M)) (hm : M.length = m) :
    Calls Try.prog 11 #[.pointer (some ⟨k, 0, none⟩), .int .i64 a, .int .i64 c] W fun e W' => ∃ A cap, e = .returned (.tuple #[.slice A m cap, .int .i64 x]) ∧ W'.ownsRow W.heap.size 43 5 (.slice A m cap) m (rowF M) ∧ Below W.heap.size W W' := by
  have hM := HM.out
  unfold readX at hM
  by_cases h0 : x = 0
  · subst h0
    rw [if_pos HX.out] at hM
    exact duo_rread p G hN a c M m HX (Lib.hid hM) hm
  · rw [if_neg (by rw [HX.out]; exact h0)] at hM
    subst hM hm
    refine (duo_rread_no p G hN a c x HX h0).mono ?_
    rintro e W' ⟨he, hb⟩
    exact ⟨none, 0, he, World.ownsRow_nil _ _ _ _, hb⟩
theorem duo_retain (p : Hid (Duo w W room g k l l2 S D)) (hN : l.length ≤ 1000) (a : Int) (d : Nat) (hd : Hid (retainN l a = d)) :
    Calls Try.prog 13 #[.pointer (some ⟨g, 0, none⟩), .int .i64 a] W fun e W' => e = .returned (.int .i64 d) ∧ ∃ S', Duo w W' room g k (l.drop d) l2 S' D := by
  refine (m6_retain (Lib.hid p.out.log) hN a d hd).mono ?_
  rintro e W' ⟨he, ht⟩
  obtain ⟨S', q1, _⟩ := p.out.one ht
  exact ⟨he, S', q1⟩
theorem duo_rretain (p : Hid (Duo w W room g k l1 l S D)) (h0 : 0 < l.length) (hN : l.length ≤ 1000) (a : Int) (d : Nat) (hd : Hid (retainN l a = d)) :
    Calls Try.prog 14 #[.pointer (some ⟨k, 0, none⟩), .int .i64 a] W fun e W' => e = .returned (.int .i64 d) ∧ ∃ D', Duo w W' room g k l1 (l.drop d) S D' := by
  obtain ⟨Q, cap, ss, rfl, rfl, hr⟩ := p.out.doc.log
  rw [List.length_map] at hN h0
  refine (rretain6_is a ss.length d (Lib.hid hr) rfl hN h0 hd).mono ?_
  rintro e W' ⟨he, ht⟩
  exact ⟨he, p.out.two (p.out.doc.turned ht)⟩
theorem duo_compact (p : Hid (Duo w W room g k l l2 S D)) (hN : l.length ≤ 1000) (l' : List Sg) (y : Nat) (hl : Hid ((comp l).1 = l')) (hy : Hid ((comp l).2.2 = y)) :
    Calls Try.prog 15 #[.pointer (some ⟨g, 0, none⟩)] W fun e W' => e = .returned (.int .i64 y) ∧ ∃ S', Duo w W' room g k l' l2 S' D := by
  refine (m6_compact (Lib.hid p.out.log) hN l' y hl hy).mono ?_
  rintro e W' ⟨he, ht⟩
  obtain ⟨S', q1, _⟩ := p.out.one ht
  exact ⟨he, S', q1⟩
theorem duo_rcompact (p : Hid (Duo w W room g k l1 l S D)) (G : Hid (GoodL room l)) (hN : l.length ≤ 1000) (l' : List Sg) (y : Nat) (hl : Hid ((comp l).1 = l')) (hy : Hid ((comp l).2.2 = y)) :
    Calls Try.prog 16 #[.pointer (some ⟨k, 0, none⟩)] W fun e W' => e = .returned (.int .i64 y) ∧ ∃ D', Duo w W' room g k l1 l' S D' := by
  obtain ⟨Q, cap, ss, rfl, rfl, hr⟩ := p.out.doc.log
  rw [List.length_map] at hN
  refine (rcompact6_is ss.length y l' (Lib.hid hr) G rfl hN hl hy).mono ?_
  rintro e W' ⟨he, ht⟩
  exact ⟨he, p.out.two (p.out.doc.turned ht)⟩
theorem duo_same (p : Hid (Duo w W room g k l l S D)) (hN : l.length ≤ 1000) :
    Calls Try.prog 19 #[.pointer (some ⟨g, 0, none⟩), .pointer (some ⟨k, 0, none⟩)] W fun e w' => e = .returned (.bool true) ∧ Below W.heap.size W w' :=
  same6_is (Lib.hid p.out.log) (Lib.hid p.out.doc) hN
end
/-- two new ones -/
theorem duo_new {w W : World} {room g : Nat} {S : List Nat} (room1 : 1 ≤ room) (room64 : room ≤ 64) (h : Hid (LogAt w W room g [sg0] S)) :
    Calls Try.prog 6 #[.int .i64 room] W fun e W' => ∃ k D, e = .returned (.tuple #[.pointer (some ⟨k, 0, none⟩), .int .i64 0]) ∧ Duo w W' room g k [sg0] [sg0] S D := by
  refine (rnew6_is room room1 room64 W).mono ?_
  rintro e W' ⟨k, D, he, hd, hb⟩
  have hz := h.out.old.size
  exact ⟨k, D, he, ⟨h.out.below hb, ⟨acc h.out.old hb, fun j hj => by have := hd.since j hj; omega, hd.log⟩, fun j hj hd' => by have := h.out.lt j hj; have := hd.since j hd'; omega⟩⟩

/-! ### a copy, and the one that was copied -/
structure Trio (w W : World) (room g k : Nat) (l : List Sg) (S D : List Nat) (go : Nat) (lo : List Sg) (So : List Nat) : Prop where
  duo : Duo w W room g k l l S D
  old : LogAt w W room go lo So
  f1 : ∀ j ∈ So, j ∉ S
  f2 : ∀ j ∈ So, j ∉ D
section
variable {w W W' : World} {room g k go : Nat} {l lo lo' : List Sg} {S D So : List Nat}
theorem Trio.below (h : Trio w W room g k l S D go lo So) (b : Below W.heap.size W W') : Trio w W' room g k l S D go lo So := ⟨h.duo.below b, h.old.below b, h.f1, h.f2⟩
theorem Trio.turned (h : Trio w W room g k l S D go lo So) (t : Turned w W room go So lo' W') : ∃ So', Trio w W' room g k l S D go lo' So' := by
  obtain ⟨So', h1, h2, h3⟩ := t
  refine ⟨So', ⟨⟨h.duo.log.only h2 h.old.since (fun j hj ho => h.f1 j ho hj), h.duo.doc.only h2 h.old.since (fun j hj ho => h.f2 j ho hj), h.duo.far⟩, h1, fun j hj hs => ?_, fun j hj hs => ?_⟩⟩
  · rcases h3 j hj with q | q
    · exact h.f1 j q hs
    · have := h.duo.log.lt j hs; omega
  · rcases h3 j hj with q | q
    · exact h.f2 j q hs
    · have := h.duo.doc.lt j hs; omega
theorem duo_copy (p : Hid (Duo w W room g k l l S D)) (hN : l.length ≤ 1000) :
    Calls Try.prog 17 #[.pointer (some ⟨g, 0, none⟩)] W fun e W' => ∃ g' S', e = .returned (.pointer (some ⟨g', 0, none⟩)) ∧ Trio w W' room g' k l S' D g l S := by
  obtain ⟨P, cap, ps, hS, rfl, hp⟩ := p.out.log.log
  rw [List.length_map] at hN
  refine (copy6_is ps.length (Lib.hid hp) (Lib.hid p.out.log.good) rfl hN).mono ?_
  rintro e W' ⟨g', P', cap', ps', he, h1, h2, h3, h4⟩
  have hz := p.out.log.old.size
  refine ⟨g', _, he, ⟨⟨⟨acc p.out.log.old h4, fun j hj => by have := h3 j hj; omega, p.out.log.good, P', cap', ps', rfl, h2, h1⟩, p.out.doc.below h4, fun j hj hd => ?_⟩, p.out.log.below h4, fun j hj hs => ?_, p.out.far⟩⟩
  · have := h3 j hj
    have := p.out.doc.lt j hd
    omega
  · have := h3 j hs
    have := p.out.log.lt j hj
    omega
theorem trio_append (p : Hid (Trio w W room g k l S D go lo So)) (hN : lo.length + 1 ≤ 1000) (X : Option Addr) (rs : List R) (n xc B : Nat) (hR : Hid (Reads W B X rs)) (hX : Hid (∀ j, blk X = some j → j ∉ So)) (hB : B ≤ W.heap.size) (hn : rs.length = n) (hrl : n ≤ maxLen) (hs : Hid (∀ r ∈ rs, r.key.size ≤ maxLen ∧ r.val.size ≤ maxLen)) :
    Calls Try.prog 8 #[.pointer (some ⟨go, 0, none⟩), .slice X n xc] W fun e W' => ∃ a x lo' So', e = .returned (.tuple #[.int .i64 a, .int .i64 x]) ∧ lo'.length ≤ lo.length + 1 ∧ Trio w W' room g k l S D go lo' So' := by
  obtain ⟨x, hx⟩ : ∃ x, appE room lo rs = x := ⟨_, rfl⟩
  by_cases h0 : x = 0
  · subst h0
    refine (m6_append (Lib.hid p.out.old) hN X rs n xc B hR hX hB hn hrl hs (Lib.hid hx)).mono ?_
    rintro e W' ⟨he, ht⟩
    obtain ⟨So', q⟩ := p.out.turned ht
    exact ⟨_, _, _, So', he, app_len _ _ _, q⟩
  · refine (m6_append_no (Lib.hid p.out.old) hN X rs n xc B x hR hX hB hn hrl hs (Lib.hid hx) h0).mono ?_
    rintro e W' ⟨he, hb⟩
    exact ⟨_, _, _, So, he, Nat.le_succ _, p.out.below hb⟩
theorem trio_retain (p : Hid (Trio w W room g k l S D go lo So)) (hN : lo.length ≤ 1000) (a : Int) :
    Calls Try.prog 13 #[.pointer (some ⟨go, 0, none⟩), .int .i64 a] W fun e W' => ∃ (d : Nat) (lo' : List Sg) (So' : List Nat), e = .returned (.int .i64 d) ∧ lo'.length ≤ lo.length ∧ Trio w W' room g k l S D go lo' So' := by
  refine (m6_retain (Lib.hid p.out.old) hN a _ (Lib.hid rfl)).mono ?_
  rintro e W' ⟨he, ht⟩
  obtain ⟨So', q⟩ := p.out.turned ht
  exact ⟨_, _, So', he, by rw [List.length_drop]; omega, q⟩
theorem trio_compact (p : Hid (Trio w W room g k l S D go lo So)) (hN : lo.length ≤ 1000) :
    Calls Try.prog 15 #[.pointer (some ⟨go, 0, none⟩)] W fun e W' => ∃ (d : Nat), e = .returned (.int .i64 d) ∧ Duo w W' room g k l l S D := by
  refine (m6_compact (Lib.hid p.out.old) hN _ _ (Lib.hid rfl) (Lib.hid rfl)).mono ?_
  rintro e W' ⟨he, ht⟩
  obtain ⟨So', q⟩ := p.out.turned ht
  exact ⟨_, he, q.duo⟩
end
end Go.Proofs.Ytflcggpeflagiaa.L6
