/-
  Contract: is a segment in the state that the document says?
-/
import Derived.Test.YtpagoeoilkbmjaaSegFixed
namespace Go.Proofs.Ytpagoeoilkbmjaa.L5
open Go.RowKit
open L3 L4

theorem len_is' {T : TypeId} {w : World} {g : Nat} {A : Option Addr} {cap : Nat} {base next : Int} {L : List L4.Fd} (h : Hid (Seg T w g A cap base next L)) :
    Calls Try.prog 55 #[.pointer (some ⟨g, 0, none⟩)] w fun e w' => e = .returned (.int .i64 L.length) ∧ Below w.heap.size w w' :=
  (len_is h).mono (fun _ _ ⟨h, q⟩ => ⟨h, q ▸ Below.refl _ _⟩)

set_option maxRecDepth 100000 in
set_option maxHeartbeats 8000000 in
theorem same5_is {T : TypeId} {W : World} {g g2 : Nat} {A A2 : Option Addr} {cap cap2 : Nat} {base next : Int} {L : List L4.Fd} (h : Hid (Seg T W g A cap base next L)) (h2 : Hid (Seg 81 W g2 A2 cap2 base next L)) (hl : L.length ≤ 64) (hs : Hid (∀ f ∈ L, f.r.key.size ≤ 64 ∧ f.r.val.size ≤ 512)) (hc : Hid (∀ f ∈ L, f.r.chk = 0)) :
    Calls Try.prog 23 #[.pointer (some ⟨g, 0, none⟩), .pointer (some ⟨g2, 0, none⟩)] W fun e w' => e = .returned (.bool true) ∧ Below W.heap.size W w' := by
  have HLM : Hid (L.length ≤ maxLen) := Lib.hid (by unfold maxLen; omega)
  have HIL : Hid ((indexL L).length ≤ maxLen) := Lib.hid (by rw [index_len]; unfold maxLen; omega)
  have HT : Hid (∀ w', Below W.heap.size W w' → (w'.cell? ⟨g2, 0, none⟩ = some (.int .i64 base) ∧ w'.cell? ⟨g2, 1, none⟩ = some (.int .i64 next) ∧ w'.cell? ⟨g2, 2, none⟩ = some (.slice A2 L.length cap2)) ∧ Below W.heap.size W w') := Lib.hid (fun w' hb => ⟨⟨(h2.out.below hb).c0, (h2.out.below hb).c1, (h2.out.below hb).c2⟩, hb⟩)
  go_enter Try.func23, Try.ntmps23
  go_wp2_with (go_at_call 54; refine (span_is h).mono ?_; rintro e w1 ⟨rfl, hb1⟩)
  refine wp_region_held_drew (S := fun w' => (w'.cell? ⟨g2, 0, none⟩ = some (.int .i64 base) ∧ w'.cell? ⟨g2, 1, none⟩ = some (.int .i64 next) ∧ w'.cell? ⟨g2, 2, none⟩ = some (.slice A2 L.length cap2)) ∧ Below W.heap.size W w') (by kernel_rfl) (HT.out _ hb1.drew) (fun hHeld => ?_)
  refine wpAnyH_take (i := 0) (oi := ?o1) (v := ?v1) ?a1 (by kernel_rfl) (by kernel_rfl) (by kernel_rfl) ?q1 (Or.inl ⟨?g1, ?y1⟩) (by assumption) ?r1; (case' a1 => (simp only [List.getElem?_toArray, List.getElem?_cons_zero]; rfl)); (case' q1 => (exact fun _ _ _ h => h)); (case' g1 => rfl); (case' y1 => (intro w hSw; (try dsimp only at hSw); go_simp; try with_reducible rfl)); (case' r1 => (try simp only [Act.put, List.setIfInBounds_toArray, List.set_cons_zero, List.set_cons_succ]))
  refine wpAnyH_take (i := 1) (oi := ?o2) (v := ?v2) ?a2 (by kernel_rfl) (by kernel_rfl) (by kernel_rfl) ?q2 (Or.inl ⟨?g2, ?y2⟩) (by assumption) ?r2; (case' a2 => (simp only [List.getElem?_toArray, List.getElem?_cons_zero, List.getElem?_cons_succ]; rfl)); (case' q2 => (exact fun _ _ _ h => h)); (case' g2 => rfl); (case' y2 => (intro w hSw; (try dsimp only at hSw); go_simp; try with_reducible rfl)); (case' r2 => (try simp only [Act.put, List.setIfInBounds_toArray, List.set_cons_zero, List.set_cons_succ]))
  refine wpAnyH_take (i := 2) (oi := ?o3) (v := ?v3) ?a3 (by kernel_rfl) (by kernel_rfl) (by kernel_rfl) ?q3 (Or.inl ⟨?g3, ?y3⟩) (by assumption) ?r3; (case' a3 => (simp only [List.getElem?_toArray, List.getElem?_cons_zero, List.getElem?_cons_succ]; rfl)); (case' q3 => (exact fun _ _ _ h => h)); (case' g3 => rfl); (case' y3 => (intro w hSw; (try dsimp only at hSw); go_simp; try with_reducible rfl)); (case' r3 => (try simp only [Act.put, List.setIfInBounds_toArray, List.set_cons_zero, List.set_cons_succ]))
  refine wpAnyH_take (i := 3) (oi := ?o4) (v := ?v4) ?a4 (by kernel_rfl) (by kernel_rfl) (by kernel_rfl) ?q4 (Or.inl ⟨?g4, ?y4⟩) (by assumption) ?r4; (case' a4 => (simp only [List.getElem?_toArray, List.getElem?_cons_zero, List.getElem?_cons_succ]; rfl)); (case' q4 => (exact fun _ _ _ h => h)); (case' g4 => rfl); (case' y4 => (intro w hSw; (try dsimp only at hSw); go_simp; try with_reducible rfl)); (case' r4 => (try simp only [Act.put, List.setIfInBounds_toArray, List.set_cons_zero, List.set_cons_succ]))
  refine wpAnyH_take (i := 4) (oi := ?o5) (v := ?v5) ?a5 (by kernel_rfl) (by kernel_rfl) (by kernel_rfl) ?q5 (Or.inl ⟨?g5, ?y5⟩) (by assumption) ?r5; (case' a5 => (simp only [List.getElem?_toArray, List.getElem?_cons_zero, List.getElem?_cons_succ]; rfl)); (case' q5 => (exact fun _ _ _ h => h)); (case' g5 => rfl); (case' y5 => (intro w hSw; (try dsimp only at hSw); go_simp; try with_reducible rfl)); (case' r5 => (try simp only [Act.put, List.setIfInBounds_toArray, List.set_cons_zero, List.set_cons_succ]))
  refine wpAnyH_take (i := 5) (oi := ?o6) (v := ?v6) ?a6 (by kernel_rfl) (by kernel_rfl) (by kernel_rfl) ?q6 (Or.inl ⟨?g6, ?y6⟩) (by assumption) ?r6; (case' a6 => (simp only [List.getElem?_toArray, List.getElem?_cons_zero, List.getElem?_cons_succ]; rfl)); (case' q6 => (exact fun _ _ _ h => h)); (case' g6 => rfl); (case' y6 => (intro w hSw; (try dsimp only at hSw); go_simp; try with_reducible rfl)); (case' r6 => (try simp only [Act.put, List.setIfInBounds_toArray, List.set_cons_zero, List.set_cons_succ]))
  refine wpAnyH_take (i := 6) (oi := ?o7) (v := ?v7) ?a7 (by kernel_rfl) (by kernel_rfl) (by kernel_rfl) ?q7 (Or.inl ⟨?g7, ?y7⟩) (by assumption) ?r7; (case' a7 => (simp only [List.getElem?_toArray, List.getElem?_cons_zero, List.getElem?_cons_succ]; rfl)); (case' q7 => (exact fun _ _ _ h => h)); (case' g7 => rfl); (case' y7 => (intro w hSw; (try dsimp only at hSw); go_simp; try with_reducible rfl)); (case' r7 => (try simp only [Act.put, List.setIfInBounds_toArray, List.set_cons_zero, List.set_cons_succ]))
  refine wpAnyH_take (i := 7) (oi := ?o8) (v := ?v8) ?a8 (by kernel_rfl) (by kernel_rfl) (by kernel_rfl) ?q8 (Or.inl ⟨?g8, ?y8⟩) (by assumption) ?r8; (case' a8 => (simp only [List.getElem?_toArray, List.getElem?_cons_zero, List.getElem?_cons_succ]; rfl)); (case' q8 => (exact fun _ _ _ h => h)); (case' g8 => rfl); (case' y8 => (intro w hSw; (try dsimp only at hSw); go_simp; try with_reducible rfl)); (case' r8 => (try simp only [Act.put, List.setIfInBounds_toArray, List.set_cons_zero, List.set_cons_succ]))
  refine wpAnyH_take (i := 8) (oi := ?o9) (v := ?v9) ?a9 (by kernel_rfl) (by kernel_rfl) (by kernel_rfl) ?q9 (Or.inl ⟨?g9, ?y9⟩) (by assumption) ?r9; (case' a9 => (simp only [List.getElem?_toArray, List.getElem?_cons_zero, List.getElem?_cons_succ]; rfl)); (case' q9 => (exact fun _ _ _ h => h)); (case' g9 => rfl); (case' y9 => (intro w hSw; (try dsimp only at hSw); go_simp; try with_reducible rfl)); (case' r9 => (try simp only [Act.put, List.setIfInBounds_toArray, List.set_cons_zero, List.set_cons_succ]))
  refine wpAnyH_take (i := 9) (oi := ?o10) (v := ?v10) ?a10 (by kernel_rfl) (by kernel_rfl) (by kernel_rfl) ?q10 (Or.inl ⟨?g10, ?y10⟩) (by assumption) ?r10; (case' a10 => (simp only [List.getElem?_toArray, List.getElem?_cons_zero, List.getElem?_cons_succ]; rfl)); (case' q10 => (exact fun _ _ _ h => h)); (case' g10 => rfl); (case' y10 => (intro w hSw; (try dsimp only at hSw); go_simp; try with_reducible rfl)); (case' r10 => (try simp only [Act.put, List.setIfInBounds_toArray, List.set_cons_zero, List.set_cons_succ]))
  refine wpAnyH_take (i := 10) (oi := ?o11) (v := ?v11) ?a11 (by kernel_rfl) (by kernel_rfl) (by kernel_rfl) ?q11 (Or.inl ⟨?g11, ?y11⟩) (by assumption) ?r11; (case' a11 => (simp only [List.getElem?_toArray, List.getElem?_cons_zero, List.getElem?_cons_succ]; rfl)); (case' q11 => (exact fun _ _ _ h => h)); (case' g11 => rfl); (case' y11 => (intro w hSw; (try dsimp only at hSw); go_simp; try with_reducible rfl)); (case' r11 => (try simp only [Act.put, List.setIfInBounds_toArray, List.set_cons_zero, List.set_cons_succ]))
  refine wpAnyH_take (i := 11) (oi := ?o12) (v := ?v12) ?a12 (by kernel_rfl) (by kernel_rfl) (by kernel_rfl) ?q12 (Or.inl ⟨?g12, ?y12⟩) (by assumption) ?r12; (case' a12 => (simp only [List.getElem?_toArray, List.getElem?_cons_zero, List.getElem?_cons_succ]; rfl)); (case' q12 => (exact fun _ _ _ h => h)); (case' g12 => rfl); (case' y12 => (intro w hSw; (try dsimp only at hSw); go_simp; try with_reducible rfl)); (case' r12 => (try simp only [Act.put, List.setIfInBounds_toArray, List.set_cons_zero, List.set_cons_succ]))
  refine wpAnyH_take (i := 12) (oi := ?o13) (v := ?v13) ?a13 (by kernel_rfl) (by kernel_rfl) (by kernel_rfl) ?q13 (Or.inl ⟨?g13, ?y13⟩) (by assumption) ?r13; (case' a13 => (simp only [List.getElem?_toArray, List.getElem?_cons_zero, List.getElem?_cons_succ]; rfl)); (case' q13 => (exact fun _ _ _ h => h)); (case' g13 => rfl); (case' y13 => (intro w hSw; (try dsimp only at hSw); go_simp; try with_reducible rfl)); (case' r13 => (try simp only [Act.put, List.setIfInBounds_toArray, List.set_cons_zero, List.set_cons_succ]))
  refine wpAnyH_take (i := 13) (oi := ?o14) (v := ?v14) ?a14 (by kernel_rfl) (by kernel_rfl) (by kernel_rfl) ?q14 (Or.inl ⟨?g14, ?y14⟩) (by assumption) ?r14; (case' a14 => (simp only [List.getElem?_toArray, List.getElem?_cons_zero, List.getElem?_cons_succ]; rfl)); (case' q14 => (exact fun _ _ _ h => h)); (case' g14 => rfl); (case' y14 => (intro w hSw; (try dsimp only at hSw); go_simp; try with_reducible rfl)); (case' r14 => (try simp only [Act.put, List.setIfInBounds_toArray, List.set_cons_zero, List.set_cons_succ]))
  refine wpAnyH_take (i := 14) (oi := ?o15) (v := ?v15) ?a15 (by kernel_rfl) (by kernel_rfl) (by kernel_rfl) ?q15 (Or.inl ⟨?g15, ?y15⟩) (by assumption) ?r15; (case' a15 => (simp only [List.getElem?_toArray, List.getElem?_cons_zero, List.getElem?_cons_succ]; rfl)); (case' q15 => (exact fun _ _ _ h => h)); (case' g15 => rfl); (case' y15 => (intro w hSw; (try dsimp only at hSw); go_simp; try with_reducible rfl)); (case' r15 => (try simp only [Act.put, List.setIfInBounds_toArray, List.set_cons_zero, List.set_cons_succ]))
  refine wpAnyH_take (i := 15) (oi := ?o16) (v := ?v16) ?a16 (by kernel_rfl) (by kernel_rfl) (by kernel_rfl) ?q16 (Or.inl ⟨?g16, ?y16⟩) (by assumption) ?r16; (case' a16 => (simp only [List.getElem?_toArray, List.getElem?_cons_zero, List.getElem?_cons_succ]; rfl)); (case' q16 => (exact fun _ _ _ h => h)); (case' g16 => rfl); (case' y16 => (intro w hSw; (try dsimp only at hSw); go_simp; try with_reducible rfl)); (case' r16 => (try simp only [Act.put, List.setIfInBounds_toArray, List.set_cons_zero, List.set_cons_succ]))
  refine wpAnyH_take (i := 17) (oi := ?o17) (v := ?v17) ?a17 (by kernel_rfl) (by kernel_rfl) (by kernel_rfl) ?q17 (Or.inl ⟨?g17, ?y17⟩) (by assumption) ?r17; (case' a17 => (simp only [List.getElem?_toArray, List.getElem?_cons_zero, List.getElem?_cons_succ]; rfl)); (case' q17 => (exact fun _ _ _ h => h)); (case' g17 => rfl); (case' y17 => (intro w hSw; (try dsimp only at hSw); go_simp; try with_reducible rfl)); (case' r17 => (try simp only [Act.put, List.setIfInBounds_toArray, List.set_cons_zero, List.set_cons_succ]))
  refine wpAnyH_take (i := 18) (oi := ?o18) (v := ?v18) ?a18 (by kernel_rfl) (by kernel_rfl) (by kernel_rfl) ?q18 (Or.inl ⟨?g18, ?y18⟩) (by assumption) ?r18; (case' a18 => (simp only [List.getElem?_toArray, List.getElem?_cons_zero, List.getElem?_cons_succ]; rfl)); (case' q18 => (exact fun _ _ _ h => h)); (case' g18 => rfl); (case' y18 => (intro w hSw; (try dsimp only at hSw); go_simp; try with_reducible rfl)); (case' r18 => (try simp only [Act.put, List.setIfInBounds_toArray, List.set_cons_zero, List.set_cons_succ]))
  refine wpAnyH_take (i := 19) (oi := ?o19) (v := ?v19) ?a19 (by kernel_rfl) (by kernel_rfl) (by kernel_rfl) ?q19 (Or.inl ⟨?g19, ?y19⟩) (by assumption) ?r19; (case' a19 => (simp only [List.getElem?_toArray, List.getElem?_cons_zero, List.getElem?_cons_succ]; rfl)); (case' q19 => (exact fun _ _ _ h => h)); (case' g19 => rfl); (case' y19 => (intro w hSw; (try dsimp only at hSw); go_simp; try with_reducible rfl)); (case' r19 => (try simp only [Act.put, List.setIfInBounds_toArray, List.set_cons_zero, List.set_cons_succ]))
  refine wpAnyH_take (i := 20) (oi := ?o20) (v := ?v20) ?a20 (by kernel_rfl) (by kernel_rfl) (by kernel_rfl) ?q20 (Or.inl ⟨?g20, ?y20⟩) (by assumption) ?r20; (case' a20 => (simp only [List.getElem?_toArray, List.getElem?_cons_zero, List.getElem?_cons_succ]; rfl)); (case' q20 => (exact fun _ _ _ h => h)); (case' g20 => rfl); (case' y20 => (intro w hSw; (try dsimp only at hSw); go_simp; try with_reducible rfl)); (case' r20 => (try simp only [Act.put, List.setIfInBounds_toArray, List.set_cons_zero, List.set_cons_succ]))
  refine wpAnyH_take (i := 21) (oi := ?o21) (v := ?v21) ?a21 (by kernel_rfl) (by kernel_rfl) (by kernel_rfl) ?q21 (Or.inl ⟨?g21, ?y21⟩) (by assumption) ?r21; (case' a21 => (simp only [List.getElem?_toArray, List.getElem?_cons_zero, List.getElem?_cons_succ]; rfl)); (case' q21 => (exact fun _ _ _ h => h)); (case' g21 => rfl); (case' y21 => (intro w hSw; (try dsimp only at hSw); go_simp; try with_reducible rfl)); (case' r21 => (try simp only [Act.put, List.setIfInBounds_toArray, List.set_cons_zero, List.set_cons_succ]))
  refine wpAnyH_ready (rs := [16]) (by kernel_rfl) (by simp) ?_
  refine AllReadyH.cons (o := ?o22) ?a22 (fun K hK => ?s22) ?m22; (case' a22 => (simp only [List.getElem?_toArray, List.getElem?_cons_zero, List.getElem?_cons_succ]; rfl))
  case s22 =>
    go_simp
    go_at_call 55
    refine (len_is' (Lib.hid (h.out.below hHeld.2))).mono ?_
    rintro e wn ⟨rfl, hbn⟩
    go_wp2_with fail
    refine hK.out _ _ (HT.out _ (acc hHeld.2 hbn)) (fun hHeld => ?_)
    clear hK K
    (try simp only [Act.put, List.setIfInBounds_toArray, List.set_cons_zero, List.set_cons_succ])
    refine wpAnyH_take (i := 22) (oi := ?o23) (v := ?v23) ?a23 (by kernel_rfl) (by kernel_rfl) (by kernel_rfl) ?q23 (Or.inl ⟨?g23, ?y23⟩) (by assumption) ?r23; (case' a23 => (simp only [List.getElem?_toArray, List.getElem?_cons_zero, List.getElem?_cons_succ]; rfl)); (case' q23 => (exact fun _ _ _ h => h)); (case' g23 => rfl); (case' y23 => (intro w hSw; (try dsimp only at hSw); go_simp; try with_reducible rfl)); (case' r23 => (try simp only [Act.put, List.setIfInBounds_toArray, List.set_cons_zero, List.set_cons_succ]))
    refine wpAnyH_take (i := 23) (oi := ?o24) (v := ?v24) ?a24 (by kernel_rfl) (by kernel_rfl) (by kernel_rfl) ?q24 (Or.inl ⟨?g24, ?y24⟩) (by assumption) ?r24; (case' a24 => (simp only [List.getElem?_toArray, List.getElem?_cons_zero, List.getElem?_cons_succ]; rfl)); (case' q24 => (exact fun _ _ _ h => h)); (case' g24 => rfl); (case' y24 => (intro w hSw; (try dsimp only at hSw); go_simp; try with_reducible rfl)); (case' r24 => (try simp only [Act.put, List.setIfInBounds_toArray, List.set_cons_zero, List.set_cons_succ]))
    refine wpAnyH_take (i := 24) (oi := ?o25) (v := ?v25) ?a25 (by kernel_rfl) (by kernel_rfl) (by kernel_rfl) ?q25 (Or.inl ⟨?g25, ?y25⟩) (by assumption) ?r25; (case' a25 => (simp only [List.getElem?_toArray, List.getElem?_cons_zero, List.getElem?_cons_succ]; rfl)); (case' q25 => (exact fun _ _ _ h => h)); (case' g25 => rfl); (case' y25 => (intro w hSw; (try dsimp only at hSw); go_simp; try with_reducible rfl)); (case' r25 => (try simp only [Act.put, List.setIfInBounds_toArray, List.set_cons_zero, List.set_cons_succ]))
    refine wpAnyH_take (i := 25) (oi := ?o26) (v := ?v26) ?a26 (by kernel_rfl) (by kernel_rfl) (by kernel_rfl) ?q26 (Or.inl ⟨?g26, ?y26⟩) (by assumption) ?r26; (case' a26 => (simp only [List.getElem?_toArray, List.getElem?_cons_zero, List.getElem?_cons_succ]; rfl)); (case' q26 => (exact fun _ _ _ h => h)); (case' g26 => rfl); (case' y26 => (intro w hSw; (try dsimp only at hSw); go_simp; try with_reducible rfl)); (case' r26 => (try simp only [Act.put, List.setIfInBounds_toArray, List.set_cons_zero, List.set_cons_succ]))
    refine wpAnyH_take (i := 27) (oi := ?o27) (v := ?v27) ?a27 (by kernel_rfl) (by kernel_rfl) (by kernel_rfl) ?q27 (Or.inl ⟨?g27, ?y27⟩) (by assumption) ?r27; (case' a27 => (simp only [List.getElem?_toArray, List.getElem?_cons_zero, List.getElem?_cons_succ]; rfl)); (case' q27 => (exact fun _ _ _ h => h)); (case' g27 => rfl); (case' y27 => (intro w hSw; (try dsimp only at hSw); go_simp; try with_reducible rfl)); (case' r27 => (try simp only [Act.put, List.setIfInBounds_toArray, List.set_cons_zero, List.set_cons_succ]))
    refine wpAnyH_ready (rs := [26]) (by kernel_rfl) (by simp) ?_
    refine AllReadyH.cons (o := ?o28) ?a28 (fun K hK => ?s28) ?m28; (case' a28 => (simp only [List.getElem?_toArray, List.getElem?_cons_zero, List.getElem?_cons_succ]; rfl))
    case s28 =>
      go_simp
      go_at_call 56
      refine (bytes_is L.length (Lib.hid (h.out.below hHeld.2)) rfl hl hs).mono ?_
      rintro e wn ⟨rfl, hbn⟩
      go_wp2_with fail
      refine hK.out _ _ (HT.out _ (acc hHeld.2 hbn)) (fun hHeld => ?_)
      clear hK K
      (try simp only [Act.put, List.setIfInBounds_toArray, List.set_cons_zero, List.set_cons_succ])
      refine wpAnyH_ready (rs := [28]) (by kernel_rfl) (by simp) ?_
      refine AllReadyH.cons (o := ?o29) ?a29 (fun K hK => ?s29) ?m29; (case' a29 => (simp only [List.getElem?_toArray, List.getElem?_cons_zero, List.getElem?_cons_succ]; rfl))
      case s29 =>
        go_simp
        go_at_call 57
        refine (rbytes_is L.length (Lib.hid (h2.out.below hHeld.2)) rfl hl hc).mono ?_
        rintro e wn ⟨rfl, hbn⟩
        go_wp2_with fail
        refine hK.out _ _ (HT.out _ (acc hHeld.2 hbn)) (fun hHeld => ?_)
        clear hK K
        (try simp only [Act.put, List.setIfInBounds_toArray, List.set_cons_zero, List.set_cons_succ])
        refine wpAnyH_take (i := 29) (oi := ?o30) (v := ?v30) ?a30 (by kernel_rfl) (by kernel_rfl) (by kernel_rfl) ?q30 (Or.inl ⟨?g30, ?y30⟩) (by assumption) ?r30; (case' a30 => (simp only [List.getElem?_toArray, List.getElem?_cons_zero, List.getElem?_cons_succ]; rfl)); (case' q30 => (exact fun _ _ _ h => h)); (case' g30 => rfl); (case' y30 => (intro w hSw; (try dsimp only at hSw); go_simp; try with_reducible rfl)); (case' r30 => (try simp only [Act.put, List.setIfInBounds_toArray, List.set_cons_zero, List.set_cons_succ]))
        refine wpAnyH_take (i := 30) (oi := ?o31) (v := ?v31) ?a31 (by kernel_rfl) (by kernel_rfl) (by kernel_rfl) ?q31 (Or.inl ⟨?g31, ?y31⟩) (by assumption) ?r31; (case' a31 => (simp only [List.getElem?_toArray, List.getElem?_cons_zero, List.getElem?_cons_succ]; rfl)); (case' q31 => (exact fun _ _ _ h => h)); (case' g31 => rfl); (case' y31 => (intro w hSw; (try dsimp only at hSw); go_simp; try with_reducible rfl)); (case' r31 => (try simp only [Act.put, List.setIfInBounds_toArray, List.set_cons_zero, List.set_cons_succ]))
        refine wpAnyH_take (i := 31) (oi := ?o32) (v := ?v32) ?a32 (by kernel_rfl) (by kernel_rfl) (by kernel_rfl) ?q32 (Or.inl ⟨?g32, ?y32⟩) (by assumption) ?r32; (case' a32 => (simp only [List.getElem?_toArray, List.getElem?_cons_zero, List.getElem?_cons_succ]; rfl)); (case' q32 => (exact fun _ _ _ h => h)); (case' g32 => rfl); (case' y32 => (intro w hSw; (try dsimp only at hSw); go_simp; try with_reducible rfl)); (case' r32 => (try simp only [Act.put, List.setIfInBounds_toArray, List.set_cons_zero, List.set_cons_succ]))
        refine wpAnyH_take (i := 32) (oi := ?o33) (v := ?v33) ?a33 (by kernel_rfl) (by kernel_rfl) (by kernel_rfl) ?q33 (Or.inl ⟨?g33, ?y33⟩) (by assumption) ?r33; (case' a33 => (simp only [List.getElem?_toArray, List.getElem?_cons_zero, List.getElem?_cons_succ]; rfl)); (case' q33 => (exact fun _ _ _ h => h)); (case' g33 => rfl); (case' y33 => (intro w hSw; (try dsimp only at hSw); go_simp; try with_reducible rfl)); (case' r33 => (try simp only [Act.put, List.setIfInBounds_toArray, List.set_cons_zero, List.set_cons_succ]))
        refine wpAnyH_take (i := 34) (oi := ?o34) (v := ?v34) ?a34 (by kernel_rfl) (by kernel_rfl) (by kernel_rfl) ?q34 (Or.inl ⟨?g34, ?y34⟩) (by assumption) ?r34; (case' a34 => (simp only [List.getElem?_toArray, List.getElem?_cons_zero, List.getElem?_cons_succ]; rfl)); (case' q34 => (exact fun _ _ _ h => h)); (case' g34 => rfl); (case' y34 => (intro w hSw; (try dsimp only at hSw); go_simp; try with_reducible rfl)); (case' r34 => (try simp only [Act.put, List.setIfInBounds_toArray, List.set_cons_zero, List.set_cons_succ]))
        refine wpAnyH_ready (rs := [33]) (by kernel_rfl) (by simp) ?_
        refine AllReadyH.cons (o := ?o35) ?a35 (fun K hK => ?s35) ?m35; (case' a35 => (simp only [List.getElem?_toArray, List.getElem?_cons_zero, List.getElem?_cons_succ]; rfl))
        case s35 =>
          go_simp
          go_at_call 59
          refine (index_is L.length (Lib.hid (h.out.below hHeld.2)) rfl hl).mono ?_
          rintro e wn ⟨A3, c3, rfl, o3, hbn⟩
          go_wp2_with fail
          refine hK.out _ _ (HT.out _ (acc hHeld.2 hbn)) (fun hHeld => ?_)
          clear hK K
          (try simp only [Act.put, List.setIfInBounds_toArray, List.set_cons_zero, List.set_cons_succ])
          refine wpAnyH_ready (rs := [35]) (by kernel_rfl) (by simp) ?_
          refine AllReadyH.cons (o := ?o36) ?a36 (fun K hK => ?s36) ?m36; (case' a36 => (simp only [List.getElem?_toArray, List.getElem?_cons_zero, List.getElem?_cons_succ]; rfl))
          case s36 =>
            go_simp
            go_at_call 60
            refine (rindex_is L.length (Lib.hid (h2.out.below hHeld.2)) rfl hl).mono ?_
            rintro e wn ⟨A4, c4, rfl, o4, hbn⟩
            replace o3 := own_below o3 hbn
            go_wp2_with fail
            refine hK.out _ _ (HT.out _ (acc hHeld.2 hbn)) (fun hHeld => ?_)
            clear hK K
            (try simp only [Act.put, List.setIfInBounds_toArray, List.set_cons_zero, List.set_cons_succ])
            refine wpAnyH_ready (rs := [36]) (by kernel_rfl) (by simp) ?_
            refine AllReadyH.cons (o := ?o37) ?a37 (fun K hK => ?s37) ?m37; (case' a37 => (simp only [List.getElem?_toArray, List.getElem?_cons_zero, List.getElem?_cons_succ]; rfl))
            case s37 =>
              go_simp
              go_at_call 58
              refine (nums_is A3 A4 (indexL L) (indexL L) c3 c4 _ true _ (Lib.hid (ReadsI.own o3)) (Lib.hid (ReadsI.own o4)) (Nat.le_refl _) HIL.out (Lib.hid (by simp))).mono ?_
              rintro e wn ⟨rfl, hbn⟩
              go_wp2_with fail
              refine hK.out _ _ (HT.out _ (acc hHeld.2 hbn)) (fun hHeld => ?_)
              clear hK K
              (try simp only [Act.put, List.setIfInBounds_toArray, List.set_cons_zero, List.set_cons_succ])
              refine wpAnyH_take (i := 37) (oi := ?o38) (v := ?v38) ?a38 (by kernel_rfl) (by kernel_rfl) (by kernel_rfl) ?q38 (Or.inl ⟨?g38, ?y38⟩) (by assumption) ?r38; (case' a38 => (simp only [List.getElem?_toArray, List.getElem?_cons_zero, List.getElem?_cons_succ]; rfl)); (case' q38 => (exact fun _ _ _ h => h)); (case' g38 => rfl); (case' y38 => (intro w hSw; (try dsimp only at hSw); go_simp; try with_reducible rfl)); (case' r38 => (try simp only [Act.put, List.setIfInBounds_toArray, List.set_cons_zero, List.set_cons_succ]))
              refine wpAnyH_take (i := 38) (oi := ?o39) (v := ?v39) ?a39 (by kernel_rfl) (by kernel_rfl) (by kernel_rfl) ?q39 (Or.inl ⟨?g39, ?y39⟩) (by assumption) ?r39; (case' a39 => (simp only [List.getElem?_toArray, List.getElem?_cons_zero, List.getElem?_cons_succ]; rfl)); (case' q39 => (exact fun _ _ _ h => h)); (case' g39 => rfl); (case' y39 => (intro w hSw; (try dsimp only at hSw); go_simp; try with_reducible rfl)); (case' r39 => (try simp only [Act.put, List.setIfInBounds_toArray, List.set_cons_zero, List.set_cons_succ]))
              refine wpAnyH_take (i := 39) (oi := ?o40) (v := ?v40) ?a40 (by kernel_rfl) (by kernel_rfl) (by kernel_rfl) ?q40 (Or.inl ⟨?g40, ?y40⟩) (by assumption) ?r40; (case' a40 => (simp only [List.getElem?_toArray, List.getElem?_cons_zero, List.getElem?_cons_succ]; rfl)); (case' q40 => (exact fun _ _ _ h => h)); (case' g40 => rfl); (case' y40 => (intro w hSw; (try dsimp only at hSw); go_simp; try with_reducible rfl)); (case' r40 => (try simp only [Act.put, List.setIfInBounds_toArray, List.set_cons_zero, List.set_cons_succ]))
              refine wpAnyH_take (i := 41) (oi := ?o41) (v := ?v41) ?a41 (by kernel_rfl) (by kernel_rfl) (by kernel_rfl) ?q41 (Or.inl ⟨?g41, ?y41⟩) (by assumption) ?r41; (case' a41 => (simp only [List.getElem?_toArray, List.getElem?_cons_zero, List.getElem?_cons_succ]; rfl)); (case' q41 => (exact fun _ _ _ h => h)); (case' g41 => rfl); (case' y41 => (intro w hSw; (try dsimp only at hSw); go_simp; try with_reducible rfl)); (case' r41 => (try simp only [Act.put, List.setIfInBounds_toArray, List.set_cons_zero, List.set_cons_succ]))
              refine wpAnyH_take (i := 42) (oi := ?o42) (v := ?v42) ?a42 (by kernel_rfl) (by kernel_rfl) (by kernel_rfl) ?q42 (Or.inl ⟨?g42, ?y42⟩) (by assumption) ?r42; (case' a42 => (simp only [List.getElem?_toArray, List.getElem?_cons_zero, List.getElem?_cons_succ]; rfl)); (case' q42 => (exact fun _ _ _ h => h)); (case' g42 => rfl); (case' y42 => (intro w hSw; (try dsimp only at hSw); go_simp; try with_reducible rfl)); (case' r42 => (try simp only [Act.put, List.setIfInBounds_toArray, List.set_cons_zero, List.set_cons_succ]))
              refine wpAnyH_take (i := 43) (oi := ?o43) (v := ?v43) ?a43 (by kernel_rfl) (by kernel_rfl) (by kernel_rfl) ?q43 (Or.inl ⟨?g43, ?y43⟩) (by assumption) ?r43; (case' a43 => (simp only [List.getElem?_toArray, List.getElem?_cons_zero, List.getElem?_cons_succ]; rfl)); (case' q43 => (exact fun _ _ _ h => h)); (case' g43 => rfl); (case' y43 => (intro w hSw; (try dsimp only at hSw); go_simp; try with_reducible rfl)); (case' r43 => (try simp only [Act.put, List.setIfInBounds_toArray, List.set_cons_zero, List.set_cons_succ]))
              refine wpAnyH_take (i := 44) (oi := ?o44) (v := ?v44) ?a44 (by kernel_rfl) (by kernel_rfl) (by kernel_rfl) ?q44 (Or.inl ⟨?g44, ?y44⟩) (by assumption) ?r44; (case' a44 => (simp only [List.getElem?_toArray, List.getElem?_cons_zero, List.getElem?_cons_succ]; rfl)); (case' q44 => (exact fun _ _ _ h => h)); (case' g44 => rfl); (case' y44 => (intro w hSw; (try dsimp only at hSw); go_simp; try with_reducible rfl)); (case' r44 => (try simp only [Act.put, List.setIfInBounds_toArray, List.set_cons_zero, List.set_cons_succ]))
              refine wpAnyH_ready (rs := [40]) (by kernel_rfl) (by simp) ?_
              refine AllReadyH.cons (o := ?o45) ?a45 (fun K hK => ?s45) ?m45; (case' a45 => (simp only [List.getElem?_toArray, List.getElem?_cons_zero, List.getElem?_cons_succ]; rfl))
              case s45 =>
                go_simp
                go_at_call 61
                refine (all_is (Lib.hid (h.out.below hHeld.2)) hl).mono ?_
                rintro e wn ⟨A5, c5, rfl, o5, hbn⟩
                go_wp2_with fail
                refine hK.out _ _ (HT.out _ (acc hHeld.2 hbn)) (fun hHeld => ?_)
                clear hK K
                (try simp only [Act.put, List.setIfInBounds_toArray, List.set_cons_zero, List.set_cons_succ])
                refine wpAnyH_ready (rs := [45]) (by kernel_rfl) (by simp) ?_
                refine AllReadyH.cons (o := ?o46) ?a46 (fun K hK => ?s46) ?m46; (case' a46 => (simp only [List.getElem?_toArray, List.getElem?_cons_zero, List.getElem?_cons_succ]; rfl))
                case s46 =>
                  go_simp
                  go_at_call 17
                  refine (rfound_is A5 A2 L L c5 cap2 _ true _ (Lib.hid (ReadsF.own o5)) (Lib.hid (h2.out.below hHeld.2).reads) (Nat.le_refl _) HLM.out (Lib.hid (by simp))).mono ?_
                  rintro e wn ⟨rfl, hbn⟩
                  go_wp2_with fail
                  refine hK.out _ _ (HT.out _ (acc hHeld.2 hbn)) (fun hHeld => ?_)
                  clear hK K
                  (try simp only [Act.put, List.setIfInBounds_toArray, List.set_cons_zero, List.set_cons_succ])
                  refine wpAnyH_take (i := 46) (oi := ?o47) (v := ?v47) ?a47 (by kernel_rfl) (by kernel_rfl) (by kernel_rfl) ?q47 (Or.inl ⟨?g47, ?y47⟩) (by assumption) ?r47; (case' a47 => (simp only [List.getElem?_toArray, List.getElem?_cons_zero, List.getElem?_cons_succ]; rfl)); (case' q47 => (exact fun _ _ _ h => h)); (case' g47 => rfl); (case' y47 => (intro w hSw; (try dsimp only at hSw); go_simp; try with_reducible rfl)); (case' r47 => (try simp only [Act.put, List.setIfInBounds_toArray, List.set_cons_zero, List.set_cons_succ]))
                  refine wpAnyH_take (i := 47) (oi := ?o48) (v := ?v48) ?a48 (by kernel_rfl) (by kernel_rfl) (by kernel_rfl) ?q48 (Or.inl ⟨?g48, ?y48⟩) (by assumption) ?r48; (case' a48 => (simp only [List.getElem?_toArray, List.getElem?_cons_zero, List.getElem?_cons_succ]; rfl)); (case' q48 => (exact fun _ _ _ h => h)); (case' g48 => rfl); (case' y48 => (intro w hSw; (try dsimp only at hSw); go_simp; try with_reducible rfl)); (case' r48 => (try simp only [Act.put, List.setIfInBounds_toArray, List.set_cons_zero, List.set_cons_succ]))
                  refine wpAnyH_done (by kernel_rfl) ?_ _
                  go_wp2_with fail
                  go_ret
                  exact ⟨rfl, hHeld.2⟩
                exact AllReadyH.nil
              exact AllReadyH.nil
            exact AllReadyH.nil
          exact AllReadyH.nil
        exact AllReadyH.nil
      exact AllReadyH.nil
    exact AllReadyH.nil
  exact AllReadyH.nil
end Go.Proofs.Ytpagoeoilkbmjaa.L5
