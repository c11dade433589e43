/-
  The calls on a catalog whose answers the document fixes.
-/
import Derived.Test.YtohfbmgonjkhhaaTpLaw
namespace Go.Proofs.Ytohfbmgonjkhhaa.L9
open Go.RowKit
open Go.Maps
open L3 L4

instance ptDec : DecidableEq Pt := fun a b => decidable_of_iff (a.t = b.t ∧ a.n = b.n) ⟨fun ⟨h1, h2⟩ => by cases a; cases b; simp at h1 h2; rw [h1, h2], fun h => by rw [h]; exact ⟨rfl, rfl⟩⟩
theorem texts_four (w : World) (a b c d : ByteArray) : ReadsT (w.alloc (.cells #[.string a, .string b, .string c, .string d] 9)) (w.alloc (.cells #[.string a, .string b, .string c, .string d] 9)).heap.size (some ⟨w.heap.size, 0, none⟩) [a, b, c, d] := fun _ => by
  refine ⟨_, rfl, by simp, fun i s hs => ?_⟩
  have hr := heap_alloc_new w (.cells #[.string a, .string b, .string c, .string d] 9)
  refine (cell_of_row _ _ i _ _ _ hr).trans ?_
  match i, hs with
  | 0, hs => simp at hs; subst hs; rfl
  | 1, hs => simp at hs; subst hs; rfl
  | 2, hs => simp at hs; subst hs; rfl
  | 3, hs => simp at hs; subst hs; rfl
  | i + 4, hs => simp at hs
theorem reads_two (w : World) (T : TypeId) (a b : ByteArray) (m n : Int) : ReadsP (w.alloc (.cells #[.string a, .int .i64 m, .string b, .int .i64 n] T)) (w.alloc (.cells #[.string a, .int .i64 m, .string b, .int .i64 n] T)).heap.size (some ⟨w.heap.size, 0, none⟩) [⟨a, m⟩, ⟨b, n⟩] := fun _ => by
  refine ⟨_, rfl, by simp, fun i s hs => ?_⟩
  have hr := heap_alloc_new w (.cells #[.string a, .int .i64 m, .string b, .int .i64 n] T)
  match i, hs with
  | 0, hs => simp at hs; subst hs; exact ⟨(cell_of_row _ _ _ _ _ _ hr).trans rfl, (cell_of_row _ _ _ _ _ _ hr).trans rfl⟩
  | 1, hs => simp at hs; subst hs; exact ⟨(cell_of_row _ _ _ _ _ _ hr).trans rfl, (cell_of_row _ _ _ _ _ _ hr).trans rfl⟩
  | i + 2, hs => simp at hs
theorem reads_three (w : World) (T : TypeId) (a b c : ByteArray) (m n k : Int) : ReadsP (w.alloc (.cells #[.string a, .int .i64 m, .string b, .int .i64 n, .string c, .int .i64 k] T)) (w.alloc (.cells #[.string a, .int .i64 m, .string b, .int .i64 n, .string c, .int .i64 k] T)).heap.size (some ⟨w.heap.size, 0, none⟩) [⟨a, m⟩, ⟨b, n⟩, ⟨c, k⟩] := fun _ => by
  refine ⟨_, rfl, by simp, fun i s hs => ?_⟩
  have hr := heap_alloc_new w (.cells #[.string a, .int .i64 m, .string b, .int .i64 n, .string c, .int .i64 k] T)
  match i, hs with
  | 0, hs => simp at hs; subst hs; exact ⟨(cell_of_row _ _ _ _ _ _ hr).trans rfl, (cell_of_row _ _ _ _ _ _ hr).trans rfl⟩
  | 1, hs => simp at hs; subst hs; exact ⟨(cell_of_row _ _ _ _ _ _ hr).trans rfl, (cell_of_row _ _ _ _ _ _ hr).trans rfl⟩
  | 2, hs => simp at hs; subst hs; exact ⟨(cell_of_row _ _ _ _ _ _ hr).trans rfl, (cell_of_row _ _ _ _ _ _ hr).trans rfl⟩
  | i + 3, hs => simp at hs
theorem keep_box {w w' : World} {o : Obj} (h : Below (w.alloc o).heap.size (w.alloc o) w') : KeepC w w' ∧ w.heap.size ≤ w'.heap.size :=
  ⟨(KeepC.below (one_box' o)).trans (KeepC.below h), Nat.le_trans (one_box' o).size h.size⟩

set_option maxRecDepth 100000 in
set_option maxHeartbeats 16000000 in
theorem fixed9_any (w : World) : Calls Try.prog 26 #[] w fun e w' => e = .returned (.bool true) ∧ Below w.heap.size w w' := by
  have E2 : Hid (makeE [] ⟨#[98]⟩ 2 = 0) := Lib.hid (by decide)
  have D2 : Hid (makeQ [] ⟨#[98]⟩ 2 = [⟨⟨#[98]⟩, 2⟩]) := Lib.hid (by decide)
  have E3 : Hid (makeE [⟨⟨#[98]⟩, 2⟩] ⟨#[97]⟩ 1 = 0) := Lib.hid (by decide)
  have D3 : Hid (makeQ [⟨⟨#[98]⟩, 2⟩] ⟨#[97]⟩ 1 = [⟨⟨#[97]⟩, 1⟩, ⟨⟨#[98]⟩, 2⟩]) := Lib.hid (by decide)
  have E4 : Hid (partsQ [⟨⟨#[97]⟩, 1⟩, ⟨⟨#[98]⟩, 2⟩] [⟨#[98]⟩, ⟨#[97]⟩, ⟨#[120]⟩, ⟨#[97]⟩] = [⟨⟨#[97]⟩, 0⟩, ⟨⟨#[98]⟩, 0⟩, ⟨⟨#[98]⟩, 1⟩]) := Lib.hid (by decide)
  have E5 : Hid (makeE [⟨⟨#[97]⟩, 1⟩, ⟨⟨#[98]⟩, 2⟩] ⟨#[97]⟩ 1 = 90) := Lib.hid (by decide)
  have D5 : Hid (makeQ [⟨⟨#[97]⟩, 1⟩, ⟨⟨#[98]⟩, 2⟩] ⟨#[97]⟩ 1 = [⟨⟨#[97]⟩, 1⟩, ⟨⟨#[98]⟩, 2⟩]) := Lib.hid (by decide)
  have E6 : Hid (makeE [⟨⟨#[97]⟩, 1⟩, ⟨⟨#[98]⟩, 2⟩] ⟨#[65]⟩ 1 = 1) := Lib.hid (by decide)
  have D6 : Hid (makeQ [⟨⟨#[97]⟩, 1⟩, ⟨⟨#[98]⟩, 2⟩] ⟨#[65]⟩ 1 = [⟨⟨#[97]⟩, 1⟩, ⟨⟨#[98]⟩, 2⟩]) := Lib.hid (by decide)
  have E7 : Hid (growE [⟨⟨#[97]⟩, 1⟩, ⟨⟨#[98]⟩, 2⟩] ⟨#[97]⟩ 3 = 0) := Lib.hid (by decide)
  have D7 : Hid (growQ [⟨⟨#[97]⟩, 1⟩, ⟨⟨#[98]⟩, 2⟩] ⟨#[97]⟩ 3 = [⟨⟨#[97]⟩, 3⟩, ⟨⟨#[98]⟩, 2⟩]) := Lib.hid (by decide)
  have E8 : Hid (growE [⟨⟨#[97]⟩, 3⟩, ⟨⟨#[98]⟩, 2⟩] ⟨#[97]⟩ 2 = 1) := Lib.hid (by decide)
  have D8 : Hid (growQ [⟨⟨#[97]⟩, 3⟩, ⟨⟨#[98]⟩, 2⟩] ⟨#[97]⟩ 2 = [⟨⟨#[97]⟩, 3⟩, ⟨⟨#[98]⟩, 2⟩]) := Lib.hid (by decide)
  have E9 : Hid (dropE [⟨⟨#[97]⟩, 3⟩, ⟨⟨#[98]⟩, 2⟩] ⟨#[120]⟩ = 91) := Lib.hid (by decide)
  have D9 : Hid (dropQ [⟨⟨#[97]⟩, 3⟩, ⟨⟨#[98]⟩, 2⟩] ⟨#[120]⟩ = [⟨⟨#[97]⟩, 3⟩, ⟨⟨#[98]⟩, 2⟩]) := Lib.hid (by decide)
  have E14 : Hid (hasP [⟨⟨#[97]⟩, 3⟩, ⟨⟨#[98]⟩, 2⟩] ⟨#[97]⟩ 2 = true) := Lib.hid (by decide)
  have E15 : Hid (hasP [⟨⟨#[97]⟩, 3⟩, ⟨⟨#[98]⟩, 2⟩] ⟨#[97]⟩ 3 = false) := Lib.hid (by decide)
  have E16 : Hid (numOf [⟨⟨#[97]⟩, 3⟩, ⟨⟨#[98]⟩, 2⟩] ⟨#[97]⟩ = 3) := Lib.hid (by decide)
  have E17 : Hid (numOf [⟨⟨#[97]⟩, 3⟩, ⟨⟨#[98]⟩, 2⟩] ⟨#[120]⟩ = 0) := Lib.hid (by decide)
  have EB : Hid (loadE [⟨⟨#[98]⟩, 1⟩, ⟨⟨#[97]⟩, 1⟩] 1) := Lib.hid (.inr ⟨rfl, fun h => by have := (h 1 (by decide) ⟨⟨#[97]⟩, 1⟩ rfl).2 (by decide) ⟨⟨#[98]⟩, 1⟩ rfl; revert this; decide⟩)
  have S3 : Hid (∀ y ∈ ([⟨⟨#[97]⟩, 3⟩, ⟨⟨#[98]⟩, 2⟩] : List Pt), y.t.size ≤ 281474976710656) := Lib.hid (by simp; decide)
  have SB : Hid (∀ y ∈ ([⟨⟨#[98]⟩, 1⟩, ⟨⟨#[97]⟩, 1⟩] : List Pt), y.t.size ≤ 281474976710656) := Lib.hid (by simp; decide)
  have L3M : Hid (([⟨⟨#[97]⟩, 0⟩, ⟨⟨#[98]⟩, 0⟩, ⟨⟨#[98]⟩, 1⟩] : List Pt).length ≤ maxLen) := Lib.hid (by show 3 ≤ maxLen; unfold maxLen; omega)
  have HB0 : Hid (Below w.heap.size w w) := Lib.hid (Below.refl _ _)
  have HSZ : ∀ {n5 n6 n7 n8 n9 n10 n11 n12 n4 : Nat}, n4 ≤ n5 → n5 ≤ n6 → n6 ≤ n7 → n7 ≤ n8 → n8 ≤ n9 → n9 ≤ n10 → n10 ≤ n11 → n11 ≤ n12 → n4 ≤ n12 := by omega
  go_enter Try.func26, Try.ntmps26
  go_wp2_with (first
    | (go_at_call 19; have _q := M16; refine (m9_n ⟨#[120]⟩ 0 M16 (by decide) E17).mono ?_; rintro e w17 ⟨rfl, hw17⟩; obtain rfl := hw17.symm)
    | (go_at_call 19; have _q := M15; refine (m9_n ⟨#[97]⟩ 3 M15 (by decide) E16).mono ?_; rintro e w16 ⟨rfl, hw16⟩; obtain rfl := hw16.symm; have M16 := Lib.hid M15.out)
    | (go_at_call 21; have _q := M14; refine (m9_has ⟨#[97]⟩ 3 false M14 (by decide) E15).mono ?_; rintro e w15 ⟨rfl, h15⟩; have M15 := Lib.hid (M14.out.below h15); clear h15)
    | (go_at_call 21; have _q := M13; refine (m9_has ⟨#[97]⟩ 2 true M13 (by decide) E14).mono ?_; rintro e w14 ⟨rfl, h14⟩; have M14 := Lib.hid (M13.out.below h14); clear h14)
    | (go_at_call 23; have _q := M12; refine (L4.rparts_is A4 (some ⟨w12.heap.size, 0, none⟩) [⟨⟨#[97]⟩, 0⟩, ⟨⟨#[98]⟩, 0⟩, ⟨⟨#[98]⟩, 1⟩] [⟨⟨#[97]⟩, 0⟩, ⟨⟨#[98]⟩, 0⟩, ⟨⟨#[98]⟩, 1⟩] c4 3 _ true _ (Lib.hid (reads_keep R4.out ((((((((K5.out.trans K6.out).trans K7.out).trans K8.out).trans K9.out).trans K10.out).trans K11.out).trans K12.out.1).trans (KeepC.below (one_box' (.cells #[.string ⟨#[97]⟩, .int .i64 0, .string ⟨#[98]⟩, .int .i64 0, .string ⟨#[98]⟩, .int .i64 1] 37)))) (Nat.le_trans (HSZ Z5.out Z6.out Z7.out Z8.out Z9.out Z10.out Z11.out K12.out.2) (one_box' _).size))) (Lib.hid (reads_three _ _ _ _ _ _ _ _)) (Nat.le_refl _) L3M.out (Lib.hid (by simp))).mono ?_; rintro e w13 ⟨rfl, h13⟩; have M13 := Lib.hid ((M12.out.below (one_box' (.cells #[.string ⟨#[97]⟩, .int .i64 0, .string ⟨#[98]⟩, .int .i64 0, .string ⟨#[98]⟩, .int .i64 1] 37))).below h13); clear h13)
    | (go_at_call 27; have _q := M11; refine (m9_load_no _ (some ⟨w11.heap.size, 0, none⟩) 2 2 [⟨⟨#[98]⟩, 1⟩, ⟨⟨#[97]⟩, 1⟩] 1 (by decide) (Lib.hid rfl) (by decide) (Lib.hid (reads_two _ _ _ _ _ _)) SB EB).mono ?_; rintro e w12 ⟨rfl, h12⟩; have M12 := Lib.hid ((M11.out.below (one_box' (.cells #[.string ⟨#[98]⟩, .int .i64 1, .string ⟨#[97]⟩, .int .i64 1] 46))).below h12); have K12 : Hid (KeepC w11 w12 ∧ w11.heap.size ≤ w12.heap.size) := Lib.hid (keep_box h12); clear h12)
    | (go_at_call 27; have _q := R10; refine (m9_load w w10 A10 2 c10 [⟨⟨#[97]⟩, 3⟩, ⟨⟨#[98]⟩, 2⟩] (Lib.hid M10.out.bel) (Lib.hid rfl) (by decide) R10 S3 (Lib.hid M10.out.good.load)).mono ?_; rintro e w11 ⟨g11, b11, rfl, -, h11⟩; have M11 := Lib.hid (M10.out.below h11); have K11 := Lib.hid (KeepC.below h11); have Z11 := Lib.hid h11.size; clear h11)
    | (go_at_call 17; have _q := M9; refine (m9_list 2 M9 rfl).mono ?_; rintro e w10 ⟨A10, c10, rfl, o10, h10⟩; have M10 := Lib.hid (M9.out.below h10); have R10 : Hid (ReadsP w10 w10.heap.size A10 [⟨⟨#[97]⟩, 3⟩, ⟨⟨#[98]⟩, 2⟩]) := Lib.hid (own_reads o10 rfl (own_lt o10)); have K10 := Lib.hid (KeepC.below h10); have Z10 := Lib.hid h10.size; clear o10 h10)
    | (go_at_call 14; have _q := M8; refine (m9_drop ⟨#[120]⟩ 91 [⟨⟨#[97]⟩, 3⟩, ⟨⟨#[98]⟩, 2⟩] M8 (by decide) E9 D9).mono ?_; rintro e w9 ⟨rfl, m9, k9, z9, -⟩; have M9 := Lib.hid m9; have K9 := Lib.hid k9; have Z9 := Lib.hid z9; clear m9 k9 z9)
    | (go_at_call 12; have _q := M7; refine (m9_grow ⟨#[97]⟩ 2 1 [⟨⟨#[97]⟩, 3⟩, ⟨⟨#[98]⟩, 2⟩] M7 (by decide) (by decide) E8 D8).mono ?_; rintro e w8 ⟨rfl, m8, k8, z8, -⟩; have M8 := Lib.hid m8; have K8 := Lib.hid k8; have Z8 := Lib.hid z8; clear m8 k8 z8)
    | (go_at_call 12; have _q := M6; refine (m9_grow ⟨#[97]⟩ 3 0 [⟨⟨#[97]⟩, 3⟩, ⟨⟨#[98]⟩, 2⟩] M6 (by decide) (by decide) E7 D7).mono ?_; rintro e w7 ⟨rfl, m7, k7, z7, -⟩; have M7 := Lib.hid m7; have K7 := Lib.hid k7; have Z7 := Lib.hid z7; clear m7 k7 z7)
    | (go_at_call 10; have _q := M5; refine (m9_make ⟨#[65]⟩ 1 1 [⟨⟨#[97]⟩, 1⟩, ⟨⟨#[98]⟩, 2⟩] M5 (by decide) (by decide) E6 D6).mono ?_; rintro e w6 ⟨rfl, m6, k6, z6, -⟩; have M6 := Lib.hid m6; have K6 := Lib.hid k6; have Z6 := Lib.hid z6; clear m6 k6 z6)
    | (go_at_call 10; have _q := M4; refine (m9_make ⟨#[97]⟩ 1 90 [⟨⟨#[97]⟩, 1⟩, ⟨⟨#[98]⟩, 2⟩] M4 (by decide) (by decide) E5 D5).mono ?_; rintro e w5 ⟨rfl, m5, k5, z5, -⟩; have M5 := Lib.hid m5; have K5 := Lib.hid k5; have Z5 := Lib.hid z5; clear m5 k5 z5)
    | (go_at_call 24; have _q := M3; refine (m9_parts [⟨#[98]⟩, ⟨#[97]⟩, ⟨#[120]⟩, ⟨#[97]⟩] [⟨⟨#[97]⟩, 0⟩, ⟨⟨#[98]⟩, 0⟩, ⟨⟨#[98]⟩, 1⟩] 3 4 4 _ (Lib.hid (M3.out.below (one_box' (.cells #[.string ⟨#[98]⟩, .string ⟨#[97]⟩, .string ⟨#[120]⟩, .string ⟨#[97]⟩] 9)))) (Lib.hid (texts_four _ _ _ _ _)) (Lib.hid rfl) (by decide) E4 (Lib.hid rfl)).mono ?_; rintro e w4 ⟨A4, c4, rfl, o4, h4⟩; have M4 := Lib.hid ((M3.out.below (one_box' (.cells #[.string ⟨#[98]⟩, .string ⟨#[97]⟩, .string ⟨#[120]⟩, .string ⟨#[97]⟩] 9))).below h4); have R4 : Hid (ReadsP w4 w4.heap.size A4 [⟨⟨#[97]⟩, 0⟩, ⟨⟨#[98]⟩, 0⟩, ⟨⟨#[98]⟩, 1⟩]) := Lib.hid (own_reads o4 rfl (own_lt o4)); clear o4 h4)
    | (go_at_call 10; have _q := M2; refine (m9_make ⟨#[97]⟩ 1 0 [⟨⟨#[97]⟩, 1⟩, ⟨⟨#[98]⟩, 2⟩] M2 (by decide) (by decide) E3 D3).mono ?_; rintro e w3 ⟨rfl, m3, k3, z3, -⟩; have M3 := Lib.hid m3; have K3 := Lib.hid k3; have Z3 := Lib.hid z3; clear m3 k3 z3)
    | (go_at_call 10; have _q := M1; refine (m9_make ⟨#[98]⟩ 2 0 [⟨⟨#[98]⟩, 2⟩] M1 (by decide) (by decide) E2 D2).mono ?_; rintro e w2 ⟨rfl, m2, k2, z2, -⟩; have M2 := Lib.hid m2; have K2 := Lib.hid k2; have Z2 := Lib.hid z2; clear m2 k2 z2)
    | (go_at_call 8; refine (m9_new w w HB0).mono ?_; rintro e w1 ⟨g, bb, rfl, m1, h1, -⟩; have M1 := Lib.hid m1; clear m1 h1))
  go_ret
  exact ⟨rfl, M16.out.bel⟩
end Go.Proofs.Ytohfbmgonjkhhaa.L9
