/-
  Eight topics may be, and no ninth one; one that goes makes room for one.
-/
import Derived.Test.YtohfbmgonjkhhaaRows
import Derived.WalkKit
import Derived.ProofKit
import Derived.OpenShut
import Derived.ShutString
import Derived.ChangeOld
import Derived.Below
import Derived.Test.YtohfbmgonjkhhaaTpFixed
import Derived.LoopTactic
import Derived.IntWalk
namespace Go.Proofs.Ytohfbmgonjkhhaa.topicsFull
open Go.ChangeShapes Go.WideShapes Go.ChangeAt Go.RowKit Go.Deep
open Go.ChangeMaps (open_string shut_string)
open L3 L4 L9

theorem own : ownKnob Try.prog.godebug = none := by kernel_rfl
theorem laidOut : laidOutB Try.prog = true := by kernel_rfl

theorem mask_le (m : Nat) (hm : m < 9223372036854775808) (x : Int) : 0 ≤ bits .and .i64 x (m : Int) ∧ bits .and .i64 x (m : Int) ≤ m := by
  have e : (BitVec.ofInt 64 x &&& BitVec.ofInt 64 (m : Int)).toNat ≤ m := by
    rw [BitVec.toNat_and]
    refine Nat.le_trans Nat.and_le_right ?_
    rw [BitVec.ofInt_natCast, BitVec.toNat_ofNat, Nat.mod_eq_of_lt (by omega)]
    exact Nat.le_refl _
  show 0 ≤ IntKind.i64.wrap ((BitVec.ofInt 64 x &&& BitVec.ofInt 64 (m : Int)).toNat : Int) ∧ IntKind.i64.wrap ((BitVec.ofInt 64 x &&& BitVec.ofInt 64 (m : Int)).toNat : Int) ≤ m
  rw [IntWalk.i64_in _ (by omega)]
  omega
def NMs : List ByteArray := [⟨#[97]⟩, ⟨#[98]⟩, ⟨#[99]⟩, ⟨#[100]⟩, ⟨#[101]⟩, ⟨#[102]⟩, ⟨#[103]⟩, ⟨#[104]⟩]
def NM (i : Nat) : ByteArray := NMs.getD i ⟨#[105]⟩
def num (a0 : Int) (i : Nat) : Int := 1 + bits .and .i64 (IntKind.i64.wrap (a0 + (i : Int))) 7
def Qs (a0 : Int) (j : Nat) : List Pt := (List.range j).map (fun i : Nat => (⟨NM i, num a0 i⟩ : Pt))
theorem nm_less : ∀ i < 8, ∀ j < 8, i < j → lessB (NM i) (NM j) = true := by decide
theorem nm_i : ∀ i < 8, lessB (NM i) ⟨#[105]⟩ = true := by decide
theorem nm_name : ∀ i < 8, nameB (NM i) = true := by decide
theorem nm_size : ∀ i < 8, (NM i).size ≤ 281474976710656 := by decide
theorem nm_max (i : Nat) (h : i < 8) : (NM i).size ≤ maxLen := by have := nm_size i h; unfold maxLen; omega
theorem nm_at (i : Nat) (h : i < 8) : NMs[i]? = some (NM i) := by
  unfold NM
  rw [List.getD_eq_getElem?_getD, List.getElem?_eq_getElem (show i < NMs.length from h)]
  rfl
theorem qs_mem {a0 : Int} {j : Nat} {y : Pt} (h : y ∈ Qs a0 j) : ∃ i < j, y = ⟨NM i, num a0 i⟩ := by
  obtain ⟨i, hi, rfl⟩ := List.mem_map.1 h
  exact ⟨i, List.mem_range.1 hi, rfl⟩
theorem qs_next (a0 : Int) (j : Nat) : Qs a0 (j + 1) = Qs a0 j ++ [⟨NM j, num a0 j⟩] := by
  unfold Qs
  rw [List.range_succ, List.map_append]
  rfl
theorem qs_len (a0 : Int) (j : Nat) : (Qs a0 j).length = j := by simp [Qs]
theorem qs_at (a0 : Int) {i j : Nat} (h : i < j) : (Qs a0 j)[i]? = some ⟨NM i, num a0 i⟩ := by
  unfold Qs
  rw [List.getElem?_map, List.getElem?_range h]
  rfl
theorem qs_less {a0 : Int} {j : Nat} (hj : j < 8) : ∀ y ∈ Qs a0 j, lessB y.t (NM j) = true := fun y hy => by
  obtain ⟨i, hi, rfl⟩ := qs_mem hy
  exact nm_less i (by omega) j hj hi
theorem qs_rise (a0 : Int) : ∀ {j : Nat}, j ≤ 8 → Rise (Qs a0 j)
  | 0, _ => List.Pairwise.nil
  | j + 1, h => by
    rw [qs_next]
    exact List.pairwise_append.2 ⟨qs_rise a0 (by omega), List.pairwise_singleton _ _, fun y hy z hz => by rw [List.mem_singleton.1 hz]; exact qs_less (by omega) y hy⟩
/-- a further name behind all others -/
theorem make_last {Q : List Pt} {s : ByteArray} {n : Int} (hl : Q.length < 8) (hm : mayB s n = true) (h : ∀ y ∈ Q, lessB y.t s = true) : makeE Q s n = 0 ∧ makeQ Q s n = Q ++ [⟨s, n⟩] := by
  have hn : hasB Q s = false := has_not.2 fun y hy => less_ne (h y hy)
  have e : makeE Q s n = 0 := by unfold makeE; rw [hm, hn, if_neg (by simp), if_neg (by simp), if_neg (by omega)]
  refine ⟨e, ?_⟩
  unfold makeQ
  rw [e, if_pos rfl]
  exact ins_last (x := ⟨s, n⟩) h
theorem make_full {Q : List Pt} {s : ByteArray} {n : Int} (hl : 8 ≤ Q.length) (hm : mayB s n = true) (h : hasB Q s = false) : makeE Q s n = 2 ∧ makeQ Q s n = Q := by
  have e : makeE Q s n = 2 := by unfold makeE; rw [hm, h, if_neg (by simp), if_neg (by simp), if_pos hl]
  exact ⟨e, by unfold makeQ; rw [e]; rfl⟩
theorem texts_eight (w : World) : ReadsT (w.alloc (.cells #[.string ⟨#[97]⟩, .string ⟨#[98]⟩, .string ⟨#[99]⟩, .string ⟨#[100]⟩, .string ⟨#[101]⟩, .string ⟨#[102]⟩, .string ⟨#[103]⟩, .string ⟨#[104]⟩] 9)) (w.alloc (.cells #[.string ⟨#[97]⟩, .string ⟨#[98]⟩, .string ⟨#[99]⟩, .string ⟨#[100]⟩, .string ⟨#[101]⟩, .string ⟨#[102]⟩, .string ⟨#[103]⟩, .string ⟨#[104]⟩] 9)).heap.size (some ⟨w.heap.size, 0, none⟩) NMs := fun _ => by
  refine ⟨_, rfl, by simp, fun i s hs => ?_⟩
  have hr := heap_alloc_new w (.cells #[.string ⟨#[97]⟩, .string ⟨#[98]⟩, .string ⟨#[99]⟩, .string ⟨#[100]⟩, .string ⟨#[101]⟩, .string ⟨#[102]⟩, .string ⟨#[103]⟩, .string ⟨#[104]⟩] 9)
  refine (cell_of_row _ _ i _ _ _ hr).trans ?_
  unfold NMs at hs
  match i, hs with
  | 0, hs => simp at hs; subst hs; rfl
  | 1, hs => simp at hs; subst hs; rfl
  | 2, hs => simp at hs; subst hs; rfl
  | 3, hs => simp at hs; subst hs; rfl
  | 4, hs => simp at hs; subst hs; rfl
  | 5, hs => simp at hs; subst hs; rfl
  | 6, hs => simp at hs; subst hs; rfl
  | 7, hs => simp at hs; subst hs; rfl
  | i + 8, hs => simp at hs
set_option maxRecDepth 100000 in
set_option maxHeartbeats 16000000 in
theorem walk (W : World) (a0 : Int) (_ : (Lit.int .i64 a0).wf = true) (a1 : Int) (_ : (Lit.int .i64 a1).wf = true) :
    Calls Try.prog 6 #[.int .i64 a0, .int .i64 a1] W fun e w' => e = .returned (.bool true) ∧ Below W.heap.size W w' := by
  have HB0 : Hid (Below W.heap.size W W) := Lib.hid (Below.refl _ _)
  obtain ⟨q, hq, hq7⟩ : ∃ y : Nat, bits .and .i64 a1 7 = (y : Int) ∧ y ≤ 7 := by
    have h : 0 ≤ bits .and .i64 a1 7 ∧ bits .and .i64 a1 7 ≤ 7 := mask_le 7 (by decide) a1
    exact ⟨(bits .and .i64 a1 7).toNat, by omega, by omega⟩
  go_enter Try.func6, Try.ntmps6
  go_wp2_with (go_at_call 8; refine (m9_new W W HB0).mono ?_; rintro e w1 ⟨g, bb, rfl, m1, h1, -⟩; have M1 := Lib.hid m1; clear m1 h1)
  obtain ⟨W2, hW2⟩ : ∃ W2, w1.alloc (.cells #[.string ⟨#[97]⟩, .string ⟨#[98]⟩, .string ⟨#[99]⟩, .string ⟨#[100]⟩, .string ⟨#[101]⟩, .string ⟨#[102]⟩, .string ⟨#[103]⟩, .string ⟨#[104]⟩] 9) = W2 := ⟨_, rfl⟩
  obtain ⟨bn, hbn⟩ : ∃ b, w1.heap.size = b := ⟨_, rfl⟩
  have HT0 := texts_eight w1
  have hM2 := M1.out.below (one_box' (.cells #[.string ⟨#[97]⟩, .string ⟨#[98]⟩, .string ⟨#[99]⟩, .string ⟨#[100]⟩, .string ⟨#[101]⟩, .string ⟨#[102]⟩, .string ⟨#[103]⟩, .string ⟨#[104]⟩] 9))
  rw [hW2] at HT0 hM2 ⊢
  rw [hbn] at HT0 ⊢
  obtain ⟨_, e, hbn2, hcells⟩ := HT0 (by decide)
  injection e with e; injection e with e; subst e
  have HC := Lib.hid hcells
  have HM2 := Lib.hid hM2
  have Q0 : Qs a0 0 = [] := rfl
  clear HT0 hM2 hcells hW2 hbn
  go_loopw [7] (fun i wr => ∃ j : Nat, j ≤ 8 ∧ i = .int .i64 j ∧ Hid (LC W wr g bb j (Qs a0 j)) ∧ Hid (KeepC W2 wr)) (fun i _ => 8 - (intOf i).toNat)
  case atStart => exact ⟨0, by omega, rfl, by rw [Q0]; exact HM2, Lib.hid (fun _ _ h => h)⟩
  case round =>
    obtain ⟨j, hj, rfl, HM, HK⟩ := hrel
    by_cases hlt : j < 8
    · have d0 := HK.out _ _ (HC.out j _ (nm_at j hlt))
      have j0 : (0 : Int) ≤ (j : Int) := by omega
      have j1 : (j : Int) < 8 := by omega
      obtain ⟨u, hu⟩ : ∃ u, IntKind.i64.wrap (a0 + (j : Int)) = u := ⟨_, rfl⟩
      have hu' : wrap64 (a0 + (j : Int)) = u := by rw [← hu]; exact (IntWalk.i64_left _).symm
      obtain ⟨y, hy, hy7⟩ : ∃ y : Nat, bits .and .i64 u 7 = (y : Int) ∧ y ≤ 7 := by
        have h : 0 ≤ bits .and .i64 u 7 ∧ bits .and .i64 u 7 ≤ 7 := mask_le 7 (by decide) u
        exact ⟨(bits .and .i64 u 7).toNat, by omega, by omega⟩
      obtain ⟨K, hK⟩ : ∃ K : Nat, (1 : Int) + (y : Int) = (K : Int) := ⟨1 + y, by omega⟩
      have hnum : num a0 j = (K : Int) := by unfold num; rw [hu, hy, hK]
      have hmK : mayB (NM j) (K : Int) = true := by unfold mayB; rw [nm_name j hlt, decide_eq_true (show 1 ≤ (K : Int) ∧ (K : Int) ≤ 8 by omega)]; rfl
      obtain ⟨s, hs⟩ : ∃ s, NM j = s := ⟨_, rfl⟩
      have hml := make_last (Q := Qs a0 j) (by rw [qs_len]; exact hlt) hmK (qs_less hlt)
      rw [hs] at d0 hml
      have E2 := Lib.hid hml.1
      have D2 : Hid (makeQ (Qs a0 j) s (K : Int) = Qs a0 (j + 1)) := Lib.hid (by rw [hml.2, qs_next, hnum, hs])
      have HS : Hid (s.size ≤ 281474976710656) := Lib.hid (by rw [← hs]; exact nm_size j hlt)
      have wK : IntKind.i64.wrap (K : Int) = (K : Int) := IntWalk.i64_in _ (by omega)
      clear hml hmK hnum hs
      go_wp2_with (go_at_call 10; refine (m9_make s (K : Int) 0 (Qs a0 (j + 1)) HM (by omega) HS.out E2 D2).mono ?_; rintro e w2 ⟨rfl, m2, k2, z2, -⟩; have HM3 := Lib.hid m2; have HK3 := Lib.hid (HK.out.trans k2); clear m2 k2 z2)
      go_roundw
      case rel => exact ⟨j + 1, by omega, by go_num, HM3, HK3⟩
      case measure => simp [intOf]; omega
    · have hj8 : j = 8 := by omega
      have M2 : Hid (LC W wr g bb 8 (Qs a0 8)) := Lib.hid (by have := HM.out; rwa [hj8] at this)
      have j1 : ¬ (j : Int) < 8 := by omega
      have d0 := HK.out _ _ (HC.out q _ (nm_at q (by omega)))
      have q0 : (0 : Int) ≤ (q : Int) := by omega
      have q1 : (q : Int) < 8 := by omega
      obtain ⟨gone, hgone⟩ : ∃ s, NM q = s := ⟨_, rfl⟩
      rw [hgone] at d0
      have hR8 := qs_rise a0 (Nat.le_refl 8)
      have hat := qs_at a0 (show q < 8 by omega)
      rw [hgone] at hat
      have hd := drop_at hR8 hat
      have hdl : (dropQ (Qs a0 8) gone).length = 7 := by rw [hd, List.length_append, List.length_take, List.length_drop, qs_len]; omega
      have hil : ∀ y ∈ Qs a0 8, lessB y.t ⟨#[105]⟩ = true := fun y hy => by
        obtain ⟨i, hi, rfl⟩ := qs_mem hy
        exact nm_i i hi
      have h3 := make_full (Q := Qs a0 8) (s := ⟨#[105]⟩) (n := 1) (by rw [qs_len]; decide) (by decide) (has_not.2 fun y hy => less_ne (hil y hy))
      have E3 := Lib.hid h3.1
      have D3 := Lib.hid h3.2
      have E4 : Hid (dropE (Qs a0 8) gone = 0) := Lib.hid (by unfold dropE; rw [if_pos (has_mem.2 ⟨_, List.mem_of_getElem? hat, rfl⟩)])
      have h5 := make_last (Q := dropQ (Qs a0 8) gone) (s := ⟨#[105]⟩) (n := 1) (by rw [hdl]; decide) (by decide) (fun y hy => hil y (mem_drop.1 hy).1)
      have E5 := Lib.hid h5.1
      have D5 := Lib.hid h5.2
      have hgi : gone ≠ ⟨#[105]⟩ := by rw [← hgone]; exact less_ne (nm_i q (by omega))
      have h6 := make_full (Q := dropQ (Qs a0 8) gone ++ [⟨⟨#[105]⟩, 1⟩]) (s := gone) (n := 1) (by rw [List.length_append, hdl]; decide) (by unfold mayB; rw [← hgone, nm_name q (by omega)]; rfl) (has_not.2 fun y hy => by
        rcases List.mem_append.1 hy with hy | hy
        · exact (mem_drop.1 hy).2
        · rw [List.mem_singleton.1 hy]; exact hgi.symm)
      have E6 := Lib.hid h6.1
      have D6 := Lib.hid h6.2
      have HL8 : Hid ((dropQ (Qs a0 8) gone ++ [⟨⟨#[105]⟩, 1⟩] : List Pt).length = 8) := Lib.hid (by rw [List.length_append, hdl]; rfl)
      have HI7 : Hid ((dropQ (Qs a0 8) gone ++ [⟨⟨#[105]⟩, 1⟩] : List Pt)[7]? = some ⟨⟨#[105]⟩, 1⟩) := Lib.hid (by rw [List.getElem?_append_right (by rw [hdl]; exact Nat.le_refl _), hdl]; rfl)
      have HNS : Hid (gone.size ≤ 281474976710656) := Lib.hid (by rw [← hgone]; exact nm_size q (by omega))
      have HNM : Hid (gone.size ≤ maxLen) := Lib.hid (by rw [← hgone]; exact nm_max q (by omega))
      clear h3 h5 h6 hgi hil hdl hd hat hR8 hgone hj8 hlt hj HM Q0
      go_wp2_with (first
        | (go_at_call 26; have _q := M7; refine (fixed9_any _).mono ?_; rintro e w20 ⟨rfl, h20⟩)
        | (go_at_call 17; have _q := M6; refine (m9_list 8 M6 HL8.out).mono ?_; rintro e w7 ⟨A7, c7, rfl, o7, h7⟩; have M7 := Lib.hid (M6.out.below h7); obtain ⟨ga, rfl, hga, hcells⟩ := own_reads o7 HL8.out (own_lt o7) (by rw [HL8.out]; decide); obtain ⟨d0, d1⟩ := hcells 7 _ HI7.out; dsimp only at d0 d1; clear o7 h7 hcells)
        | (go_at_call 10; have _q := M5; refine (m9_make gone 1 2 (dropQ (Qs a0 8) gone ++ [⟨⟨#[105]⟩, 1⟩]) M5 (by decide) HNS.out E6 D6).mono ?_; rintro e w6 ⟨rfl, m6, k6, z6, -⟩; have M6 := Lib.hid m6; clear m6 k6 z6)
        | (go_at_call 10; have _q := M4; refine (m9_make ⟨#[105]⟩ 1 0 (dropQ (Qs a0 8) gone ++ [⟨⟨#[105]⟩, 1⟩]) M4 (by decide) (by decide) E5 D5).mono ?_; rintro e w5 ⟨rfl, m5, k5, z5, -⟩; have M5 := Lib.hid m5; clear m5 k5 z5)
        | (go_at_call 14; have _q := M3; refine (m9_drop gone 0 (dropQ (Qs a0 8) gone) M3 HNM.out E4 (Lib.hid rfl)).mono ?_; rintro e w4 ⟨rfl, m4, k4, z4, -⟩; have M4 := Lib.hid m4; clear m4 k4 z4)
        | (go_at_call 10; have _q := M2; refine (m9_make ⟨#[105]⟩ 1 2 (Qs a0 8) M2 (by decide) (by decide) E3 D3).mono ?_; rintro e w3 ⟨rfl, m3, k3, z3, -⟩; have M3 := Lib.hid m3; clear m3 k3 z3))
      go_ret
      exact ⟨rfl, M7.out.bel.trans (h20.mono M7.out.bel.size)⟩

set_option maxRecDepth 100000 in
set_option maxHeartbeats 1000000 in
theorem lifted (os : Os) (started : os.Started) (H : Type) (enc : TypeId × Value → H) :
    ReturnsInHanded {} Try.checked os 6 .any (Rows.topicsFullSpec.pre6 enc Try.prog Try.f6 Rows.topicsFullRow.domain false) (Rows.topicsFullSpec.post enc Try.prog Try.f6 false true false false) := by
  refine returnsInHanded_of_change (C := Try.checked) own started (by kernel_rfl) Try.func6
    (ChangeSpec.witness6 (enc := enc) (C := Try.checked) false ⟨#[], #[.int .i64 0, .int .i64 0], []⟩ 8 (by kernel_rfl) (by kernel_rfl) (by kernel_rfl) (by kernel_rfl)) ?_
  intro W base args ds gs before hval0 hW _ _
  have hval : ∀ (j : Nat) t v, Try.f6.params[j]? = some t → args[j]? = some v → Value.okWide Try.prog W .any base t v := hval0
  have hW' := hW
  obtain ⟨p, q, hA0, hV, rfl, hfz, hnd⟩ := hW
  have hA : DataW.TrodAll enc Try.prog W 0 (fun _ => true) true Try.f6.params.toList args.toList ds p := hA0
  rw [Try.params6] at hA hval
  obtain ⟨v0, vs0, d0, ds0, p0, q0, hargs, rfl, rfl, h0, r0⟩ := trodAll_cons hA
  obtain ⟨v1, vs1, d1, ds1, p1, q1, rfl, rfl, rfl, h1, r1⟩ := trodAll_cons r0
  obtain ⟨rfl, rfl, rfl⟩ := trodAll_nil r1
  obtain rfl : args = #[v0, v1] := by cases args; simp_all
  obtain ⟨rfl, rfl⟩ := trodVars_none hV
  have k0 := h0
  have lt0 : ∀ x ∈ p0, x.block < W.heap.size := by obtain ⟨m, hm⟩ := k0; exact DataW.trod_lt m _ _ _ hm
  have k1 := h1
  have lt1 : ∀ x ∈ p1, x.block < W.heap.size := by obtain ⟨m, hm⟩ := k1; exact DataW.trod_lt m _ _ _ hm
  obtain ⟨a0, e0, _, _, w0⟩ := open_int Try.underlying3 (hval 0 3 v0 rfl rfl) h0
  subst e0
  obtain ⟨a1, e1, _, _, w1⟩ := open_int Try.underlying3 (hval 1 3 v1 rfl rfl) h1
  subst e1
  clear hA0 hval0
  refine (walk W a0 w0 a1 w1).mono fun e W' ⟨he, bel⟩ => ?_
  subst he
  exact ⟨_, rfl, _, _, _, [], _, [], hW', trodAll_mk1 (shut_bool Try.underlying4 _), (trodAll_cons_mk (Below.trod laidOut (by kernel_rfl) (of_decide_eq_true (by kernel_rfl)) k0 bel lt0) (trodAll_cons_mk (Below.trod laidOut (by kernel_rfl) (of_decide_eq_true (by kernel_rfl)) k1 bel lt1) trodAll_mk0)), rfl, bel.frame _, fun h => by cases h⟩

theorem over : Rows.topicsFullRow.holds Try.pinned (OpenSpec.ofChange Rows.topicsFullSpec) :=
  OpenClaim.holds_of_wide 6 Try.f6 rfl rfl rfl rfl rfl rfl rfl ⟨rfl, rfl, rfl, rfl, rfl⟩ rfl rfl rfl rfl rfl (by kernel_rfl) Try.func6 (by kernel_rfl)
    (of_decide_eq_true (by kernel_rfl)) (by unfold Func.isWrapper; first | (rw [if_pos (by decide +kernel)]; kernel_rfl) | (rw [if_neg (by decide +kernel)]; exact ⟨rfl, rfl⟩))
    (fun os started H enc _ => lifted os started H enc)

/-- the statement -/
theorem proved : Rows.TopicsFullSaid :=
  over
#print axioms proved
end Go.Proofs.Ytohfbmgonjkhhaa.topicsFull
