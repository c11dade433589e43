/-
  The calls on a table of marks whose answers the document fixes.
-/
import Derived.Test.YtcpfihagcmadcaaOfLaw
namespace Go.Proofs.Ytcpfihagcmadcaa.L12
open Go.RowKit
open Go.Maps
open L3 L4

instance mrDec : DecidableEq Mr := fun a b => decidable_of_iff (a.g = b.g ∧ a.t = b.t ∧ a.p = b.p ∧ a.o = b.o) ⟨fun ⟨h1, h2, h3, h4⟩ => by cases a; cases b; simp at h1 h2 h3 h4; rw [h1, h2, h3, h4], fun h => by rw [h]; exact ⟨rfl, rfl, rfl, rfl⟩⟩
theorem drewB (w : World) : Below w.heap.size w w.drew := (Below.refl _ _).drew
theorem one_mark (w : World) (g t : ByteArray) (p o : Int) (hg : g.size ≤ 281474976710656) (ht : t.size ≤ 281474976710656) (hp : (Lit.int .i64 p).wf = true) (ho : (Lit.int .i64 o).wf = true) : IsM (w.alloc (.cells #[.string g, .string t, .int .i64 p, .int .i64 o] 32)) (some ⟨w.heap.size, 0, none⟩) 1 [⟨g, t, p, o⟩] := by
  refine ⟨fun _ => ⟨w.heap.size, 0, rfl, by simp, fun i s hs => ?_⟩, rfl, by decide, fun m hm => ?_⟩
  · match i, hs with
    | 0, hs =>
      simp at hs; subst hs
      obtain ⟨a0, a1, a2, a3⟩ := row4 (box_row w g t p o)
      exact ⟨a0, a1, a2, a3⟩
    | i + 1, hs => simp at hs
  · rw [List.mem_singleton.1 hm]; exact ⟨hg, ht, hp, ho⟩
theorem box_then {w w' : World} {o : Obj} (h : Below (w.alloc o).heap.size (w.alloc o) w') : Below w.heap.size w w' := (one_box' o).trans (h.mono (one_box' o).size)
theorem part_made (w : World) (t : ByteArray) (p : Int) : let W := w.alloc (.cells #[.string t, .int .i64 p] 30)
    Below w.heap.size w W ∧ W.cell? ⟨w.heap.size, 0, none⟩ = some (.string t) ∧ W.cell? ⟨w.heap.size, 1, none⟩ = some (.int .i64 p) := by
  intro W
  have hr := part_row w t p
  exact ⟨one_box' _, (cell_of_row _ _ 0 _ _ _ hr).trans rfl, (cell_of_row _ _ 1 _ _ _ hr).trans rfl⟩

set_option maxRecDepth 100000 in
set_option maxHeartbeats 16000000 in
theorem fixed12_any (w : World) : Calls Try.prog 20 #[] w fun e w' => e = .returned (.bool true) ∧ Below w.heap.size w w' := by
  have GG : Hid ((⟨#[103]⟩ : ByteArray).size ≤ maxLen) := Lib.hid (by decide)
  have GA : Hid ((⟨#[97]⟩ : ByteArray).size ≤ maxLen) := Lib.hid (by decide)
  have GH : Hid ((⟨#[104]⟩ : ByteArray).size ≤ maxLen) := Lib.hid (by decide)
  have GE : Hid ((⟨#[]⟩ : ByteArray).size ≤ maxLen) := Lib.hid (by decide)
  have P0 : Hid ((Lit.int .i64 0).wf = true) := Lib.hid (by decide)
  have P7 : Hid ((Lit.int .i64 7).wf = true) := Lib.hid (by decide)
  have E2 : Hid (putE [] ⟨⟨#[103]⟩, ⟨#[97]⟩, 0, 5⟩ = 0) := Lib.hid (by decide)
  have D2 : Hid (putQ [] ⟨⟨#[103]⟩, ⟨#[97]⟩, 0, 5⟩ = [⟨⟨#[103]⟩, ⟨#[97]⟩, 0, 5⟩]) := Lib.hid (by decide)
  have E3 : Hid (putE [⟨⟨#[103]⟩, ⟨#[97]⟩, 0, 5⟩] ⟨⟨#[103]⟩, ⟨#[97]⟩, 0, 4⟩ = 120) := Lib.hid (by decide)
  have D3 : Hid (putQ [⟨⟨#[103]⟩, ⟨#[97]⟩, 0, 5⟩] ⟨⟨#[103]⟩, ⟨#[97]⟩, 0, 4⟩ = [⟨⟨#[103]⟩, ⟨#[97]⟩, 0, 5⟩]) := Lib.hid (by decide)
  have E4 : Hid (putE [⟨⟨#[103]⟩, ⟨#[97]⟩, 0, 5⟩] ⟨⟨#[]⟩, ⟨#[97]⟩, 0, 0⟩ = 1) := Lib.hid (by decide)
  have D4 : Hid (putQ [⟨⟨#[103]⟩, ⟨#[97]⟩, 0, 5⟩] ⟨⟨#[]⟩, ⟨#[97]⟩, 0, 0⟩ = [⟨⟨#[103]⟩, ⟨#[97]⟩, 0, 5⟩]) := Lib.hid (by decide)
  have E5 : Hid (raiseN [⟨⟨#[103]⟩, ⟨#[97]⟩, 0, 5⟩] ⟨#[97]⟩ 0 7 = 1) := Lib.hid (by decide)
  have D5 : Hid (raiseQ [⟨⟨#[103]⟩, ⟨#[97]⟩, 0, 5⟩] ⟨#[97]⟩ 0 7 = [⟨⟨#[103]⟩, ⟨#[97]⟩, 0, 7⟩]) := Lib.hid (by decide)
  have A6 : Hid (atR [⟨⟨#[103]⟩, ⟨#[97]⟩, 0, 7⟩] ⟨#[103]⟩ ⟨#[97]⟩ 0 = 7) := Lib.hid (by decide)
  have I6 : Hid (isR [⟨⟨#[103]⟩, ⟨#[97]⟩, 0, 7⟩] ⟨#[103]⟩ ⟨#[97]⟩ 0 = true) := Lib.hid (by decide)
  have B7 : Hid (behindR [⟨⟨#[103]⟩, ⟨#[97]⟩, 0, 7⟩] ⟨#[103]⟩ ⟨#[97]⟩ 0 10 = 3) := Lib.hid (by decide)
  have A8 : Hid (atR [⟨⟨#[103]⟩, ⟨#[97]⟩, 0, 7⟩] ⟨#[104]⟩ ⟨#[97]⟩ 0 = 0) := Lib.hid (by decide)
  have I8 : Hid (isR [⟨⟨#[103]⟩, ⟨#[97]⟩, 0, 7⟩] ⟨#[104]⟩ ⟨#[97]⟩ 0 = false) := Lib.hid (by decide)
  have E9 : Hid (dropN [⟨⟨#[103]⟩, ⟨#[97]⟩, 0, 7⟩] ⟨#[103]⟩ = 1) := Lib.hid (by decide)
  have D9 : Hid (dropQ [⟨⟨#[103]⟩, ⟨#[97]⟩, 0, 7⟩] ⟨#[103]⟩ = []) := Lib.hid (by decide)
  have B10 : Hid (behindR [] ⟨#[103]⟩ ⟨#[97]⟩ 0 10 = 10) := Lib.hid (by decide)
  have EB : Hid (¬ OkTo [(⟨⟨#[]⟩, ⟨#[]⟩, 0, 0⟩ : Mr)] ([(⟨⟨#[]⟩, ⟨#[]⟩, 0, 0⟩ : Mr)] : List Mr).length) := Lib.hid (fun h => by have := (h 0 (by decide) _ rfl).1; revert this; decide)
  have HB0 : Hid (Below w.heap.size w w) := Lib.hid (Below.refl _ _)
  go_enter Try.func20, Try.ntmps20
  go_upto_region 2 with (go_at_call 5; refine (m_new w w HB0).mono ?_; rintro e w1 ⟨gt, bb, rfl, m1, -, -, -⟩; have M1 := Lib.hid m1; clear m1)
  obtain ⟨hb, p1, q1⟩ := part_made w1 ⟨#[97]⟩ 0
  obtain ⟨W1, hW1⟩ : ∃ W1, w1.alloc (.cells #[.string ⟨#[97]⟩, .int .i64 0] 30) = W1 := ⟨_, rfl⟩
  obtain ⟨bx, hbx⟩ : ∃ bx, w1.heap.size = bx := ⟨_, rfl⟩
  rw [hW1] at hb p1 q1
  rw [hbx] at p1 q1
  have HW1 := Lib.hid (M1.out.below hb)
  have HEQ := Lib.hid hW1
  have HBX := Lib.hid hbx
  clear hb hW1 hbx
  go_upto_region 4 with (fail)
  rw [HEQ.out, HBX.out]
  refine wp_region_held_drew (S := fun w' => w'.cell? ⟨bx, 0, none⟩ = some (.string ⟨#[97]⟩) ∧ w'.cell? ⟨bx, 1, none⟩ = some (.int .i64 0)) (by kernel_rfl) ⟨p1, q1⟩ (fun hHeld => ?_)
  refine wpAnyH_take (i := 0) (oi := ?o1) (v := ?v1) ?a1 (by kernel_rfl) (by kernel_rfl) (by kernel_rfl) ?q1 (Or.inl ⟨?g1, ?y1⟩) (by assumption) ?r1; (case' a1 => (simp only [List.getElem?_toArray, List.getElem?_cons_zero]; rfl)); (case' q1 => (exact fun _ _ _ h => h)); (case' g1 => rfl); (case' y1 => (intro w hSw; (try dsimp only at hSw); go_simp; try with_reducible rfl)); (case' r1 => (try simp only [Act.put, List.setIfInBounds_toArray, List.set_cons_zero, List.set_cons_succ]))
  refine wpAnyH_take (i := 1) (oi := ?o2) (v := ?v2) ?a2 (by kernel_rfl) (by kernel_rfl) (by kernel_rfl) ?q2 (Or.inl ⟨?g2, ?y2⟩) (by assumption) ?r2; (case' a2 => (simp only [List.getElem?_toArray, List.getElem?_cons_zero, List.getElem?_cons_succ]; rfl)); (case' q2 => (exact fun _ _ _ h => h)); (case' g2 => rfl); (case' y2 => (intro w hSw; (try dsimp only at hSw); go_simp; try with_reducible rfl)); (case' r2 => (try simp only [Act.put, List.setIfInBounds_toArray, List.set_cons_zero, List.set_cons_succ]))
  refine wpAnyH_take (i := 2) (oi := ?o3) (v := ?v3) ?a3 (by kernel_rfl) (by kernel_rfl) (by kernel_rfl) ?q3 (Or.inl ⟨?g3, ?y3⟩) (by assumption) ?r3; (case' a3 => (simp only [List.getElem?_toArray, List.getElem?_cons_zero, List.getElem?_cons_succ]; rfl)); (case' q3 => (exact fun _ _ _ h => h)); (case' g3 => rfl); (case' y3 => (intro w hSw; (try dsimp only at hSw); go_simp; try with_reducible rfl)); (case' r3 => (try simp only [Act.put, List.setIfInBounds_toArray, List.set_cons_zero, List.set_cons_succ]))
  refine wpAnyH_take (i := 4) (oi := ?o4) (v := ?v4) ?a4 (by kernel_rfl) (by kernel_rfl) (by kernel_rfl) ?q4 (Or.inl ⟨?g4, ?y4⟩) (by assumption) ?r4; (case' a4 => (simp only [List.getElem?_toArray, List.getElem?_cons_zero, List.getElem?_cons_succ]; rfl)); (case' q4 => (exact fun _ _ _ h => h)); (case' g4 => rfl); (case' y4 => (intro w hSw; (try dsimp only at hSw); go_simp; try with_reducible rfl)); (case' r4 => (try simp only [Act.put, List.setIfInBounds_toArray, List.set_cons_zero, List.set_cons_succ]))
  refine wpAnyH_take (i := 5) (oi := ?o5) (v := ?v5) ?a5 (by kernel_rfl) (by kernel_rfl) (by kernel_rfl) ?q5 (Or.inl ⟨?g5, ?y5⟩) (by assumption) ?r5; (case' a5 => (simp only [List.getElem?_toArray, List.getElem?_cons_zero, List.getElem?_cons_succ]; rfl)); (case' q5 => (exact fun _ _ _ h => h)); (case' g5 => rfl); (case' y5 => (intro w hSw; (try dsimp only at hSw); go_simp; try with_reducible rfl)); (case' r5 => (try simp only [Act.put, List.setIfInBounds_toArray, List.set_cons_zero, List.set_cons_succ]))
  refine wpAnyH_take (i := 6) (oi := ?o6) (v := ?v6) ?a6 (by kernel_rfl) (by kernel_rfl) (by kernel_rfl) ?q6 (Or.inl ⟨?g6, ?y6⟩) (by assumption) ?r6; (case' a6 => (simp only [List.getElem?_toArray, List.getElem?_cons_zero, List.getElem?_cons_succ]; rfl)); (case' q6 => (exact fun _ _ _ h => h)); (case' g6 => rfl); (case' y6 => (intro w hSw; (try dsimp only at hSw); go_simp; try with_reducible rfl)); (case' r6 => (try simp only [Act.put, List.setIfInBounds_toArray, List.set_cons_zero, List.set_cons_succ]))
  refine wpAnyH_ready (rs := [3]) (by kernel_rfl) (by simp) ?_
  refine AllReadyH.cons (o := ?o7) ?a7 (fun K hK => ?s7) ?m7; (case' a7 => (simp only [List.getElem?_toArray, List.getElem?_cons_zero, List.getElem?_cons_succ]; rfl))
  case s7 =>
    go_simp
    go_at_call 7
    refine (m_put ⟨#[103]⟩ ⟨#[97]⟩ 0 5 0 [⟨⟨#[103]⟩, ⟨#[97]⟩, 0, 5⟩] (Lib.hid (HW1.out.below (drewB W1))) (by decide) GG GA P0 E2 D2).mono ?_
    rintro e w2 ⟨rfl, m2, k2, o2⟩; have M2 := Lib.hid m2; clear m2 o2
    go_wp2_with fail
    refine hK.out _ _ (⟨k2 _ _ hHeld.1, k2 _ _ hHeld.2⟩) (fun hHeld => ?_)
    clear hK K
    (try simp only [Act.put, List.setIfInBounds_toArray, List.set_cons_zero, List.set_cons_succ])
    refine wpAnyH_ready (rs := [7]) (by kernel_rfl) (by simp) ?_
    refine AllReadyH.cons (o := ?o8) ?a8 (fun K hK => ?s8) ?m8; (case' a8 => (simp only [List.getElem?_toArray, List.getElem?_cons_zero, List.getElem?_cons_succ]; rfl))
    case s8 =>
      go_simp
      go_at_call 7
      refine (m_put ⟨#[103]⟩ ⟨#[97]⟩ 0 4 120 [⟨⟨#[103]⟩, ⟨#[97]⟩, 0, 5⟩] M2 (by decide) GG GA P0 E3 D3).mono ?_
      rintro e w3 ⟨rfl, m3, k3, o3⟩; have M3 := Lib.hid m3; clear m3 o3
      go_wp2_with fail
      refine hK.out _ _ (⟨k3 _ _ hHeld.1, k3 _ _ hHeld.2⟩) (fun hHeld => ?_)
      clear hK K
      (try simp only [Act.put, List.setIfInBounds_toArray, List.set_cons_zero, List.set_cons_succ])
      refine wpAnyH_take (i := 8) (oi := ?o9) (v := ?v9) ?a9 (by kernel_rfl) (by kernel_rfl) (by kernel_rfl) ?q9 (Or.inl ⟨?g9, ?y9⟩) (by assumption) ?r9; (case' a9 => (simp only [List.getElem?_toArray, List.getElem?_cons_zero, List.getElem?_cons_succ]; rfl)); (case' q9 => (exact fun _ _ _ h => h)); (case' g9 => rfl); (case' y9 => (intro w hSw; (try dsimp only at hSw); go_simp; try with_reducible rfl)); (case' r9 => (try simp only [Act.put, List.setIfInBounds_toArray, List.set_cons_zero, List.set_cons_succ]))
      refine wpAnyH_take (i := 9) (oi := ?o10) (v := ?v10) ?a10 (by kernel_rfl) (by kernel_rfl) (by kernel_rfl) ?q10 (Or.inl ⟨?g10, ?y10⟩) (by assumption) ?r10; (case' a10 => (simp only [List.getElem?_toArray, List.getElem?_cons_zero, List.getElem?_cons_succ]; rfl)); (case' q10 => (exact fun _ _ _ h => h)); (case' g10 => rfl); (case' y10 => (intro w hSw; (try dsimp only at hSw); go_simp; try with_reducible rfl)); (case' r10 => (try simp only [Act.put, List.setIfInBounds_toArray, List.set_cons_zero, List.set_cons_succ]))
      refine wpAnyH_done (by kernel_rfl) ?_ _
      obtain ⟨p3, q3⟩ := hHeld
      go_wp2_with (first
        | (go_at_call 18; have _q := M13; refine (m_behind ⟨#[103]⟩ ⟨#[97]⟩ 0 10 10 M13 GG GA P0 B10).mono ?_; rintro e w14 ⟨rfl, h14⟩; have M14 := Lib.hid (M13.out.below h14); clear h14)
        | (go_at_call 16; have _q := M12; refine (m_list 0 M12 (Lib.hid rfl) (by decide)).mono ?_; rintro e w13 ⟨A13, c13, rfl, -, h13⟩; have p13 := (KeepC.below h13) _ _ p12; have q13 := (KeepC.below h13) _ _ q12; have M13 := Lib.hid (M12.out.below h13); clear h13)
        | (go_at_call 11; have _q := M11; refine (m_drop ⟨#[103]⟩ 1 [] 1 M11 (Lib.hid rfl) (by decide) E9 D9).mono ?_; rintro e w12 ⟨rfl, m12, k12, o12⟩; have p12 := k12 _ _ p11; have q12 := k12 _ _ q11; have M12 := Lib.hid m12; clear m12 k12 o12)
        | (go_at_call 21; have _q := M10; refine (m_load_no _ (some ⟨w10.heap.size, 0, none⟩) 1 1 [⟨⟨#[]⟩, ⟨#[]⟩, 0, 0⟩] (Lib.hid (one_mark w10 ⟨#[]⟩ ⟨#[]⟩ 0 0 (by decide) (by decide) (by decide) (by decide))) EB).mono ?_; rintro e w11 ⟨rfl, h11⟩; have h11 := box_then h11; have p11 := (KeepC.below h11) _ _ p10; have q11 := (KeepC.below h11) _ _ q10; have M11 := Lib.hid (M10.out.below h11); clear h11)
        | (go_at_call 21; have _q := M9; refine (m_load w w9 A9 1 c9 [⟨⟨#[103]⟩, ⟨#[97]⟩, 0, 7⟩] (Lib.hid M9.out.bel) R9 (Lib.hid M9.out.good)).mono ?_; rintro e w10 ⟨g10, b10, rfl, -, h10⟩; have p10 := (KeepC.below h10) _ _ p9; have q10 := (KeepC.below h10) _ _ q9; have M10 := Lib.hid (M9.out.below h10); clear h10)
        | (go_at_call 16; have _q := M8; refine (m_list 1 M8 (Lib.hid rfl) (by decide)).mono ?_; rintro e w9 ⟨A9, c9, rfl, o9, h9⟩; have p9 := (KeepC.below h9) _ _ p8; have q9 := (KeepC.below h9) _ _ q8; have M9 := Lib.hid (M8.out.below h9); have R9 := Lib.hid (IsM.own o9 rfl (by decide) M8.out.good); clear o9 h9)
        | (go_at_call 14; have _q := M7; refine (m_get ⟨#[104]⟩ ⟨#[97]⟩ 0 0 false M7 GH GA P0 A8 I8).mono ?_; rintro e w8 ⟨rfl, h8⟩; have p8 := (KeepC.below h8) _ _ p7; have q8 := (KeepC.below h8) _ _ q7; have M8 := Lib.hid (M7.out.below h8); clear h8)
        | (go_at_call 18; have _q := M6; refine (m_behind ⟨#[103]⟩ ⟨#[97]⟩ 0 10 3 M6 GG GA P0 B7).mono ?_; rintro e w7 ⟨rfl, h7⟩; have p7 := (KeepC.below h7) _ _ p6; have q7 := (KeepC.below h7) _ _ q6; have M7 := Lib.hid (M6.out.below h7); clear h7)
        | (go_at_call 14; have _q := M5; refine (m_get ⟨#[103]⟩ ⟨#[97]⟩ 0 7 true M5 GG GA P0 A6 I6).mono ?_; rintro e w6 ⟨rfl, h6⟩; have p6 := (KeepC.below h6) _ _ p5; have q6 := (KeepC.below h6) _ _ q5; have M6 := Lib.hid (M5.out.below h6); clear h6)
        | (go_at_call 9; have _q := M4; refine (m_raise ⟨#[97]⟩ 0 7 1 [⟨⟨#[103]⟩, ⟨#[97]⟩, 0, 7⟩] 1 M4 (by decide) P7 (Lib.hid rfl) (by decide) E5 D5).mono ?_; rintro e w5 ⟨rfl, m5, k5, o5⟩; have p5 := k5 _ _ p4; have q5 := k5 _ _ q4; have M5 := Lib.hid m5; clear m5 k5 o5)
        | (go_at_call 7; have _q := M3; refine (m_put ⟨#[]⟩ ⟨#[97]⟩ 0 0 1 [⟨⟨#[103]⟩, ⟨#[97]⟩, 0, 5⟩] M3 (by decide) GE GA P0 E4 D4).mono ?_; rintro e w4 ⟨rfl, m4, k4, o4⟩; have p4 := k4 _ _ p3; have q4 := k4 _ _ q3; have M4 := Lib.hid m4; clear m4 k4 o4))
      go_ret
      exact ⟨rfl, M14.out.bel⟩
    exact AllReadyH.nil
  exact AllReadyH.nil
end Go.Proofs.Ytcpfihagcmadcaa.L12
