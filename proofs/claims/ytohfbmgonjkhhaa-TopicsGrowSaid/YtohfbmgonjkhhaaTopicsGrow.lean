/-
  A topic grows, and never shrinks; its partitions are those that it had, and further ones.
-/
import Derived.Test.YtohfbmgonjkhhaaRows
import Derived.WalkKit
import Derived.ProofKit
import Derived.OpenShut
import Derived.ShutString
import Derived.ChangeOld
import Derived.Below
import Derived.Test.YtohfbmgonjkhhaaTpFixed
import Derived.LoopTactic
import Derived.IntWalk
namespace Go.Proofs.Ytohfbmgonjkhhaa.topicsGrow
open Go.ChangeShapes Go.WideShapes Go.ChangeAt Go.RowKit Go.Deep
open Go.ChangeMaps (open_string shut_string)
open L3 L4 L9

theorem own : ownKnob Try.prog.godebug = none := by kernel_rfl
theorem laidOut : laidOutB Try.prog = true := by kernel_rfl

theorem mask_le (m : Nat) (hm : m < 9223372036854775808) (x : Int) : 0 ≤ bits .and .i64 x (m : Int) ∧ bits .and .i64 x (m : Int) ≤ m := by
  have e : (BitVec.ofInt 64 x &&& BitVec.ofInt 64 (m : Int)).toNat ≤ m := by
    rw [BitVec.toNat_and]
    refine Nat.le_trans Nat.and_le_right ?_
    rw [BitVec.ofInt_natCast, BitVec.toNat_ofNat, Nat.mod_eq_of_lt (by omega)]
    exact Nat.le_refl _
  show 0 ≤ IntKind.i64.wrap ((BitVec.ofInt 64 x &&& BitVec.ofInt 64 (m : Int)).toNat : Int) ∧ IntKind.i64.wrap ((BitVec.ofInt 64 x &&& BitVec.ofInt 64 (m : Int)).toNat : Int) ≤ m
  rw [IntWalk.i64_in _ (by omega)]
  omega
theorem texts_one (w : World) (a : ByteArray) : ReadsT (w.alloc (.cells #[.string a] 9)) (w.alloc (.cells #[.string a] 9)).heap.size (some ⟨w.heap.size, 0, none⟩) [a] := fun _ => by
  refine ⟨_, rfl, by simp, fun i s hs => ?_⟩
  have hr := heap_alloc_new w (.cells #[.string a] 9)
  refine (cell_of_row _ _ i _ _ _ hr).trans ?_
  match i, hs with
  | 0, hs => simp at hs; subst hs; rfl
  | i + 1, hs => simp at hs
theorem parts_one (t : ByteArray) (n : Int) : partsQ [⟨t, n⟩] [t] = someP ⟨t, n⟩ := by simp [partsQ, inB]
theorem someP_nat (t : ByteArray) (n : Nat) : (someP ⟨t, (n : Int)⟩).length = n := by rw [someP_len]; exact Int.toNat_natCast n
theorem some_at {t : ByteArray} {n i : Nat} (h : i < n) : (someP ⟨t, (n : Int)⟩)[i]? = some ⟨t, (i : Int)⟩ := by
  unfold someP
  rw [List.getElem?_map, List.getElem?_range (by show i < (n : Int).toNat; omega)]
  rfl
set_option maxRecDepth 100000 in
set_option maxHeartbeats 16000000 in
theorem walk (W : World) (a0 : Int) (_ : (Lit.int .i64 a0).wf = true) (a1 : Int) (_ : (Lit.int .i64 a1).wf = true) :
    Calls Try.prog 7 #[.int .i64 a0, .int .i64 a1] W fun e w' => e = .returned (.bool true) ∧ Below W.heap.size W w' := by
  obtain ⟨y, hy, hy7⟩ : ∃ y : Nat, bits .and .i64 a0 7 = (y : Int) ∧ y ≤ 7 := by
    have h : 0 ≤ bits .and .i64 a0 7 ∧ bits .and .i64 a0 7 ≤ 7 := mask_le 7 (by decide) a0
    exact ⟨(bits .and .i64 a0 7).toNat, by omega, by omega⟩
  obtain ⟨z, hz, hz7⟩ : ∃ y : Nat, bits .and .i64 a1 7 = (y : Int) ∧ y ≤ 7 := by
    have h : 0 ≤ bits .and .i64 a1 7 ∧ bits .and .i64 a1 7 ≤ 7 := mask_le 7 (by decide) a1
    exact ⟨(bits .and .i64 a1 7).toNat, by omega, by omega⟩
  obtain ⟨K, hK⟩ : ∃ K : Nat, (1 : Int) + (y : Int) = (K : Int) := ⟨1 + y, by omega⟩
  obtain ⟨M, hM⟩ : ∃ M : Nat, (1 : Int) + (z : Int) = (M : Int) := ⟨1 + z, by omega⟩
  have hK1 : 1 ≤ K := by omega
  have hK8 : K ≤ 8 := by omega
  have hM1 : 1 ≤ M := by omega
  have hM8 : M ≤ 8 := by omega
  have wK : IntKind.i64.wrap (K : Int) = (K : Int) := IntWalk.i64_in _ (by omega)
  have wM : IntKind.i64.wrap (M : Int) = (M : Int) := IntWalk.i64_in _ (by omega)
  have hnm : nameB ⟨#[116]⟩ = true := by decide
  have hmK : mayB ⟨#[116]⟩ (K : Int) = true := by unfold mayB; rw [hnm, decide_eq_true (show 1 ≤ (K : Int) ∧ (K : Int) ≤ 8 by omega)]; rfl
  have hmM : mayB ⟨#[116]⟩ (M : Int) = true := by unfold mayB; rw [hnm, decide_eq_true (show 1 ≤ (M : Int) ∧ (M : Int) ≤ 8 by omega)]; rfl
  have E2 : Hid (makeE [] ⟨#[116]⟩ (K : Int) = 0) := Lib.hid (by unfold makeE; rw [hmK]; rfl)
  have D2 : Hid (makeQ [] ⟨#[116]⟩ (K : Int) = [⟨⟨#[116]⟩, (K : Int)⟩]) := Lib.hid (by unfold makeQ; rw [E2.out]; rfl)
  have hnum : L9.numOf [⟨⟨#[116]⟩, (K : Int)⟩] ⟨#[116]⟩ = (K : Int) := by simp [L9.numOf]
  have hhas : hasB [⟨⟨#[116]⟩, (K : Int)⟩] ⟨#[116]⟩ = true := by simp [hasB]
  have HB0 : Hid (Below W.heap.size W W) := Lib.hid (Below.refl _ _)
  by_cases hlt : M < K
  · have E4 : Hid (growE [⟨⟨#[116]⟩, (K : Int)⟩] ⟨#[116]⟩ (M : Int) = 1) := Lib.hid (by unfold growE; rw [hhas, hnum, if_neg (by simp), if_pos (.inl (by omega))])
    have D4 : Hid (growQ [⟨⟨#[116]⟩, (K : Int)⟩] ⟨#[116]⟩ (M : Int) = [⟨⟨#[116]⟩, (K : Int)⟩]) := Lib.hid (by unfold growQ; rw [E4.out]; rfl)
    have q1 : (M : Int) < (K : Int) := by omega
    clear hnm hmK hmM hnum hhas
    go_enter Try.func7, Try.ntmps7
    go_wp2_with (first
      | (go_at_call 26; have _q := M5; refine (fixed9_any _).mono ?_; rintro e w20 ⟨rfl, h20⟩)
      | (go_at_call 24; have _q := M4; refine (m9_parts [⟨#[116]⟩] (someP ⟨⟨#[116]⟩, (K : Int)⟩) K 1 1 _ (Lib.hid (M4.out.below (one_box' (.cells #[.string ⟨#[116]⟩] 9)))) (Lib.hid (texts_one _ _)) (Lib.hid rfl) (by decide) (Lib.hid (parts_one _ _)) (Lib.hid (someP_nat _ _))).mono ?_; rintro e w5 ⟨A5, c5, rfl, o5, h5⟩; have M5 := Lib.hid ((M4.out.below (one_box' (.cells #[.string ⟨#[116]⟩] 9))).below h5); have R5 : Hid (ReadsP w5 w5.heap.size A5 (someP ⟨⟨#[116]⟩, (K : Int)⟩)) := Lib.hid (own_reads o5 (someP_nat _ _) (own_lt o5)); clear o5 h5)
      | (go_at_call 12; have _q := M3; refine (m9_grow ⟨#[116]⟩ (M : Int) 1 [⟨⟨#[116]⟩, (K : Int)⟩] M3 (by decide) (by decide) E4 D4).mono ?_; rintro e w4 ⟨rfl, m4, k4, z4, -⟩; have M4 := Lib.hid m4; clear m4 k4 z4)
      | (go_at_call 24; have _q := M2; refine (m9_parts [⟨#[116]⟩] (someP ⟨⟨#[116]⟩, (K : Int)⟩) K 1 1 _ (Lib.hid (M2.out.below (one_box' (.cells #[.string ⟨#[116]⟩] 9)))) (Lib.hid (texts_one _ _)) (Lib.hid rfl) (by decide) (Lib.hid (parts_one _ _)) (Lib.hid (someP_nat _ _))).mono ?_; rintro e w3 ⟨A3, c3, rfl, o3, h3⟩; have M3 := Lib.hid ((M2.out.below (one_box' (.cells #[.string ⟨#[116]⟩] 9))).below h3); have R3 : Hid (ReadsP w3 w3.heap.size A3 (someP ⟨⟨#[116]⟩, (K : Int)⟩)) := Lib.hid (own_reads o3 (someP_nat _ _) (own_lt o3)); clear o3 h3)
      | (go_at_call 10; have _q := M1; refine (m9_make ⟨#[116]⟩ (K : Int) 0 [⟨⟨#[116]⟩, (K : Int)⟩] M1 (by decide) (by decide) E2 D2).mono ?_; rintro e w2 ⟨rfl, m2, k2, z2, -⟩; have M2 := Lib.hid m2; clear m2 k2 z2)
      | (go_at_call 8; refine (m9_new W W HB0).mono ?_; rintro e w1 ⟨g, bb, rfl, m1, h1, -⟩; have M1 := Lib.hid m1; clear m1 h1))
    go_ret
    exact ⟨rfl, M5.out.bel.trans (h20.mono M5.out.bel.size)⟩
  · have E4 : Hid (growE [⟨⟨#[116]⟩, (K : Int)⟩] ⟨#[116]⟩ (M : Int) = 0) := Lib.hid (by unfold growE; rw [hhas, hnum, if_neg (by simp), if_neg (by omega)])
    have D4 : Hid (growQ [⟨⟨#[116]⟩, (K : Int)⟩] ⟨#[116]⟩ (M : Int) = [⟨⟨#[116]⟩, (M : Int)⟩]) := Lib.hid (by unfold growQ; rw [E4.out]; simp [setQ])
    have q1 : ¬ (M : Int) < (K : Int) := by omega
    clear hnm hmK hmM hnum hhas
    go_enter Try.func7, Try.ntmps7
    go_wp2_with (first
      | (go_at_call 24; have _q := M4; refine (m9_parts [⟨#[116]⟩] (someP ⟨⟨#[116]⟩, (M : Int)⟩) M 1 1 _ (Lib.hid (M4.out.below (one_box' (.cells #[.string ⟨#[116]⟩] 9)))) (Lib.hid (texts_one _ _)) (Lib.hid rfl) (by decide) (Lib.hid (parts_one _ _)) (Lib.hid (someP_nat _ _))).mono ?_; rintro e w5 ⟨A5, c5, rfl, o5, h5⟩; have M5 := Lib.hid ((M4.out.below (one_box' (.cells #[.string ⟨#[116]⟩] 9))).below h5); have R5 : Hid (ReadsP w5 w5.heap.size A5 (someP ⟨⟨#[116]⟩, (M : Int)⟩)) := Lib.hid (own_reads o5 (someP_nat _ _) (own_lt o5)); clear o5 h5)
      | (go_at_call 12; have _q := M3; refine (m9_grow ⟨#[116]⟩ (M : Int) 0 [⟨⟨#[116]⟩, (M : Int)⟩] M3 (by decide) (by decide) E4 D4).mono ?_; rintro e w4 ⟨rfl, m4, k4, z4, -⟩; have M4 := Lib.hid m4; clear m4 k4 z4)
      | (go_at_call 24; have _q := M2; refine (m9_parts [⟨#[116]⟩] (someP ⟨⟨#[116]⟩, (K : Int)⟩) K 1 1 _ (Lib.hid (M2.out.below (one_box' (.cells #[.string ⟨#[116]⟩] 9)))) (Lib.hid (texts_one _ _)) (Lib.hid rfl) (by decide) (Lib.hid (parts_one _ _)) (Lib.hid (someP_nat _ _))).mono ?_; rintro e w3 ⟨A3, c3, rfl, o3, h3⟩; have M3 := Lib.hid ((M2.out.below (one_box' (.cells #[.string ⟨#[116]⟩] 9))).below h3); have R3 : Hid (ReadsP w3 w3.heap.size A3 (someP ⟨⟨#[116]⟩, (K : Int)⟩)) := Lib.hid (own_reads o3 (someP_nat _ _) (own_lt o3)); clear o3 h3)
      | (go_at_call 10; have _q := M1; refine (m9_make ⟨#[116]⟩ (K : Int) 0 [⟨⟨#[116]⟩, (K : Int)⟩] M1 (by decide) (by decide) E2 D2).mono ?_; rintro e w2 ⟨rfl, m2, k2, z2, -⟩; have M2 := Lib.hid m2; clear m2 k2 z2)
      | (go_at_call 8; refine (m9_new W W HB0).mono ?_; rintro e w1 ⟨g, bb, rfl, m1, h1, -⟩; have M1 := Lib.hid m1; clear m1 h1))
    obtain ⟨ga, rfl, hga, hcells⟩ := R5.out (by rw [someP_nat]; omega)
    have HC := Lib.hid hcells
    clear hcells
    go_loop [11] (fun i => ∃ j : Nat, j ≤ M ∧ i = .int .i64 j) (fun i => M - (intOf i).toNat)
    case atStart => exact ⟨0, Nat.zero_le _, rfl⟩
    case round =>
      obtain ⟨j, hj, rfl⟩ := hrel
      by_cases hlt2 : j < M
      · obtain ⟨d0, d1⟩ := HC.out j _ (some_at hlt2)
        dsimp only at d0 d1
        have j0 : (0 : Int) ≤ (j : Int) := by omega
        have j1 : (j : Int) < (M : Int) := by omega
        go_wp2_with fail
        go_round
        case rel => exact ⟨j + 1, by omega, by go_num⟩
        case measure => simp [intOf]; omega
      · have j1 : ¬ (j : Int) < (M : Int) := by omega
        have L1 : Hid (([⟨⟨#[116]⟩, (M : Int)⟩] : List Pt).length ≤ maxLen) := Lib.hid (by show 1 ≤ maxLen; unfold maxLen; omega)
        have S1 : Hid (∀ y ∈ ([⟨⟨#[116]⟩, (M : Int)⟩] : List Pt), y.t.size ≤ 281474976710656) := Lib.hid (by intro y hy; rw [List.mem_singleton.1 hy]; show (⟨#[116]⟩ : ByteArray).size ≤ 281474976710656; decide)
        clear hlt2 hj
        go_wp2_with (first
          | (go_at_call 26; have _q := h11; refine (fixed9_any _).mono ?_; rintro e w20 ⟨rfl, h20⟩)
          | (go_at_call 18; have _q := M10; refine (rsame_is A9 A10 [⟨⟨#[116]⟩, (M : Int)⟩] [⟨⟨#[116]⟩, (M : Int)⟩] c9 c10 _ true _ R9b R10 (Nat.le_refl _) L1.out (Lib.hid (by simp))).mono ?_; rintro e w11 ⟨rfl, h11⟩)
          | (go_at_call 17; have _q := M9; refine (m9_list 1 M9 rfl).mono ?_; rintro e w10 ⟨A10, c10, rfl, o10, h10⟩; have M10 := Lib.hid (M9.out.below h10); have R10 := Lib.hid (own_reads o10 rfl (own_lt o10)); have R9b := Lib.hid (reads_keep R9.out (KeepC.below h10) h10.size); clear o10 h10)
          | (go_at_call 17; have _q := M7; refine (m9_list 1 U7 rfl).mono ?_; rintro e w9 ⟨A9, c9, rfl, o9, h9⟩; have M9 := Lib.hid (M7.out.below h9); have R9 := Lib.hid (own_reads o9 rfl (own_lt o9)); clear o9 h9)
          | (go_at_call 27; have _q := M6; refine (m9_load W w6 A6 1 c6 [⟨⟨#[116]⟩, (M : Int)⟩] (Lib.hid M6.out.bel) (Lib.hid rfl) (by decide) R6 S1 (Lib.hid M6.out.good.load)).mono ?_; rintro e w7 ⟨g7, b7, rfl, u7, h7⟩; have M7 := Lib.hid (M6.out.below h7); have U7 := Lib.hid u7; clear u7 h7)
          | (go_at_call 17; have _q := M5; refine (m9_list 1 M5 rfl).mono ?_; rintro e w6 ⟨A6, c6, rfl, o6, h6⟩; have M6 := Lib.hid (M5.out.below h6); have R6 := Lib.hid (own_reads o6 rfl (own_lt o6)); clear o6 h6))
        go_ret
        exact ⟨rfl, M10.out.bel.trans ((h11.trans (h20.mono h11.size)).mono M10.out.bel.size)⟩

set_option maxRecDepth 100000 in
set_option maxHeartbeats 1000000 in
theorem lifted (os : Os) (started : os.Started) (H : Type) (enc : TypeId × Value → H) :
    ReturnsInHanded {} Try.checked os 7 .any (Rows.topicsGrowSpec.pre6 enc Try.prog Try.f7 Rows.topicsGrowRow.domain false) (Rows.topicsGrowSpec.post enc Try.prog Try.f7 false true false false) := by
  refine returnsInHanded_of_change (C := Try.checked) own started (by kernel_rfl) Try.func7
    (ChangeSpec.witness6 (enc := enc) (C := Try.checked) false ⟨#[], #[.int .i64 0, .int .i64 0], []⟩ 8 (by kernel_rfl) (by kernel_rfl) (by kernel_rfl) (by kernel_rfl)) ?_
  intro W base args ds gs before hval0 hW _ _
  have hval : ∀ (j : Nat) t v, Try.f7.params[j]? = some t → args[j]? = some v → Value.okWide Try.prog W .any base t v := hval0
  have hW' := hW
  obtain ⟨p, q, hA0, hV, rfl, hfz, hnd⟩ := hW
  have hA : DataW.TrodAll enc Try.prog W 0 (fun _ => true) true Try.f7.params.toList args.toList ds p := hA0
  rw [Try.params7] at hA hval
  obtain ⟨v0, vs0, d0, ds0, p0, q0, hargs, rfl, rfl, h0, r0⟩ := trodAll_cons hA
  obtain ⟨v1, vs1, d1, ds1, p1, q1, rfl, rfl, rfl, h1, r1⟩ := trodAll_cons r0
  obtain ⟨rfl, rfl, rfl⟩ := trodAll_nil r1
  obtain rfl : args = #[v0, v1] := by cases args; simp_all
  obtain ⟨rfl, rfl⟩ := trodVars_none hV
  have k0 := h0
  have lt0 : ∀ x ∈ p0, x.block < W.heap.size := by obtain ⟨m, hm⟩ := k0; exact DataW.trod_lt m _ _ _ hm
  have k1 := h1
  have lt1 : ∀ x ∈ p1, x.block < W.heap.size := by obtain ⟨m, hm⟩ := k1; exact DataW.trod_lt m _ _ _ hm
  obtain ⟨a0, e0, _, _, w0⟩ := open_int Try.underlying3 (hval 0 3 v0 rfl rfl) h0
  subst e0
  obtain ⟨a1, e1, _, _, w1⟩ := open_int Try.underlying3 (hval 1 3 v1 rfl rfl) h1
  subst e1
  clear hA0 hval0
  refine (walk W a0 w0 a1 w1).mono fun e W' ⟨he, bel⟩ => ?_
  subst he
  exact ⟨_, rfl, _, _, _, [], _, [], hW', trodAll_mk1 (shut_bool Try.underlying4 _), (trodAll_cons_mk (Below.trod laidOut (by kernel_rfl) (of_decide_eq_true (by kernel_rfl)) k0 bel lt0) (trodAll_cons_mk (Below.trod laidOut (by kernel_rfl) (of_decide_eq_true (by kernel_rfl)) k1 bel lt1) trodAll_mk0)), rfl, bel.frame _, fun h => by cases h⟩

theorem over : Rows.topicsGrowRow.holds Try.pinned (OpenSpec.ofChange Rows.topicsGrowSpec) :=
  OpenClaim.holds_of_wide 7 Try.f7 rfl rfl rfl rfl rfl rfl rfl ⟨rfl, rfl, rfl, rfl, rfl⟩ rfl rfl rfl rfl rfl (by kernel_rfl) Try.func7 (by kernel_rfl)
    (of_decide_eq_true (by kernel_rfl)) (by unfold Func.isWrapper; first | (rw [if_pos (by decide +kernel)]; kernel_rfl) | (rw [if_neg (by decide +kernel)]; exact ⟨rfl, rfl⟩))
    (fun os started H enc _ => lifted os started H enc)

/-- the statement -/
theorem proved : Rows.TopicsGrowSaid :=
  over
#print axioms proved
end Go.Proofs.Ytohfbmgonjkhhaa.topicsGrow
