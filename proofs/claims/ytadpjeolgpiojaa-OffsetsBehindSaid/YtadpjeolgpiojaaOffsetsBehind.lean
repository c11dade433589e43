/-
  How far a group is behind is what is left to read; with a mark of the end nothing is.
-/
import Derived.Test.YtadpjeolgpiojaaRows
import Derived.WalkKit
import Derived.ProofKit
import Derived.OpenShut
import Derived.ShutString
import Derived.ChangeOld
import Derived.Below
import Derived.Test.YtadpjeolgpiojaaOfFixed
import Derived.LoopTactic
import Derived.IntWalk
namespace Go.Proofs.Ytadpjeolgpiojaa.offsetsBehind
open Go.ChangeShapes Go.WideShapes Go.ChangeAt Go.RowKit Go.Deep
open Go.ChangeMaps (open_string shut_string)
open L3 L4 L12

theorem own : ownKnob Try.prog.godebug = none := by kernel_rfl
theorem laidOut : laidOutB Try.prog = true := by kernel_rfl

theorem mask_le (m : Nat) (hm : m < 9223372036854775808) (x : Int) : 0 ≤ bits .and .i64 x (m : Int) ∧ bits .and .i64 x (m : Int) ≤ m := by
  have e : (BitVec.ofInt 64 x &&& BitVec.ofInt 64 (m : Int)).toNat ≤ m := by
    rw [BitVec.toNat_and]
    refine Nat.le_trans Nat.and_le_right ?_
    rw [BitVec.ofInt_natCast, BitVec.toNat_ofNat, Nat.mod_eq_of_lt (by omega)]
    exact Nat.le_refl _
  show 0 ≤ IntKind.i64.wrap ((BitVec.ofInt 64 x &&& BitVec.ofInt 64 (m : Int)).toNat : Int) ∧ IntKind.i64.wrap ((BitVec.ofInt 64 x &&& BitVec.ofInt 64 (m : Int)).toNat : Int) ≤ m
  rw [IntWalk.i64_in _ (by omega)]
  omega
set_option maxRecDepth 100000 in
set_option maxHeartbeats 16000000 in
theorem walk (W : World) (a0 : Int) (_ : (Lit.int .i64 a0).wf = true) (a1 : Int) (_ : (Lit.int .i64 a1).wf = true) :
    Calls Try.prog 8 #[.int .i64 a0, .int .i64 a1] W fun e w' => e = .returned (.bool true) ∧ Below W.heap.size W w' := by
  obtain ⟨x, hx, x0, x1⟩ : ∃ y : Int, bits .and .i64 a0 16777215 = y ∧ 0 ≤ y ∧ y ≤ 16777215 := ⟨_, rfl, mask_le 16777215 (by decide) a0⟩
  obtain ⟨y, hy, y0, y1⟩ : ∃ y : Int, bits .and .i64 a1 16777215 = y ∧ 0 ≤ y ∧ y ≤ 16777215 := ⟨_, rfl, mask_le 16777215 (by decide) a1⟩
  obtain ⟨d, hd⟩ : ∃ d, y - x = d := ⟨_, rfl⟩
  have e1 : wrap64 (y - x) = d := by simp only [wrap64]; omega
  have GG : Hid (((⟨#[103]⟩ : ByteArray)).size ≤ maxLen) := Lib.hid (by decide)
  have GT : Hid (((⟨#[116]⟩ : ByteArray)).size ≤ maxLen) := Lib.hid (by decide)
  have GH : Hid (((⟨#[104]⟩ : ByteArray)).size ≤ maxLen) := Lib.hid (by decide)
  have P0 : Hid ((Lit.int .i64 0).wf = true) := Lib.hid (by decide)
  have nx : numB x = true := decide_eq_true (by omega)
  have ny : numB y = true := decide_eq_true (by omega)
  have hm : mayR ⟨⟨#[103]⟩, ⟨#[116]⟩, 0, x⟩ = true := by
    unfold mayR
    dsimp only
    rw [nx]; decide
  have E3 : Hid (putE [] ⟨⟨#[103]⟩, ⟨#[116]⟩, 0, x⟩ = 0) := Lib.hid (by unfold putE; rw [hm]; rfl)
  have D3 : Hid (putQ [] ⟨⟨#[103]⟩, ⟨#[116]⟩, 0, x⟩ = [⟨⟨#[103]⟩, ⟨#[116]⟩, 0, x⟩]) := Lib.hid (by unfold putQ; rw [E3.out]; rfl)
  have at1 : atR [⟨⟨#[103]⟩, ⟨#[116]⟩, 0, x⟩] ⟨#[103]⟩ ⟨#[116]⟩ 0 = x := by simp [atR, isAt]
  have at2 : atR [⟨⟨#[103]⟩, ⟨#[116]⟩, 0, x⟩] ⟨#[104]⟩ ⟨#[116]⟩ 0 = 0 := by
    have : isAt ⟨#[104]⟩ ⟨#[116]⟩ 0 ⟨⟨#[103]⟩, ⟨#[116]⟩, 0, x⟩ = false := isAt_not.2 (fun q => absurd (show (⟨#[103]⟩ : ByteArray) = ⟨#[104]⟩ from q.1) (by decide))
    simp [atR, this]
  have B2 : Hid (behindR [] ⟨#[103]⟩ ⟨#[116]⟩ 0 y = y) := Lib.hid (by unfold behindR; rw [if_pos ny]; show max 0 (y - 0) = y; omega)
  have B4 : Hid (behindR [⟨⟨#[103]⟩, ⟨#[116]⟩, 0, x⟩] ⟨#[103]⟩ ⟨#[116]⟩ 0 y = max 0 d) := Lib.hid (by unfold behindR; rw [if_pos ny, at1, hd])
  have B5 : Hid (behindR [⟨⟨#[103]⟩, ⟨#[116]⟩, 0, x⟩] ⟨#[103]⟩ ⟨#[116]⟩ 0 x = 0) := Lib.hid (by unfold behindR; rw [if_pos nx, at1]; omega)
  have B6 : Hid (behindR [⟨⟨#[103]⟩, ⟨#[116]⟩, 0, x⟩] ⟨#[104]⟩ ⟨#[116]⟩ 0 y = y) := Lib.hid (by unfold behindR; rw [if_pos ny, at2]; omega)
  have HB0 : Hid (Below W.heap.size W W) := Lib.hid (Below.refl _ _)
  clear nx ny hm at1 at2 x0 x1 y0 y1 hd
  go_enter Try.func8, Try.ntmps8
  go_upto_region 2 with (go_at_call 9; refine (m_new W W HB0).mono ?_; rintro e w0 ⟨gt, bb, rfl, m0, -, -, -⟩; have M0 := Lib.hid m0; clear m0)
  obtain ⟨hb, p1, q1⟩ := part_made w0 ⟨#[116]⟩ 0
  obtain ⟨w1, hw1⟩ : ∃ W1, w0.alloc (.cells #[.string ⟨#[116]⟩, .int .i64 0] 30) = W1 := ⟨_, rfl⟩
  obtain ⟨bx, hbx⟩ : ∃ bx, w0.heap.size = bx := ⟨_, rfl⟩
  rw [hw1] at hb p1 q1
  rw [hbx] at p1 q1
  have M1 := Lib.hid (M0.out.below hb)
  have HEQ := Lib.hid hw1
  have HBX := Lib.hid hbx
  clear hb hw1 hbx
  go_upto_region 4 with (fail)
  rw [HEQ.out, HBX.out]
  go_wp2_with (first
    | (go_at_call 24; have _q := M6; refine (fixed12_any _).mono ?_; rintro e w7 ⟨rfl, h7⟩; have H7 := Lib.hid h7; clear h7)
    | (go_at_call 22; have _q := M5; refine (m_behind ⟨#[104]⟩ ⟨#[116]⟩ 0 y (y) M5 GH GT P0 B6).mono ?_; rintro e w6 ⟨rfl, h6⟩; have p6 := (KeepC.below h6) _ _ p5; have q6 := (KeepC.below h6) _ _ q5; have M6 := Lib.hid (M5.out.below h6); clear h6)
    | (go_at_call 22; have _q := M4; refine (m_behind ⟨#[103]⟩ ⟨#[116]⟩ 0 x (0) M4 GG GT P0 B5).mono ?_; rintro e w5 ⟨rfl, h5⟩; have p5 := (KeepC.below h5) _ _ p4; have q5 := (KeepC.below h5) _ _ q4; have M5 := Lib.hid (M4.out.below h5); clear h5)
    | (go_at_call 22; have _q := M3; refine (m_behind ⟨#[103]⟩ ⟨#[116]⟩ 0 y (max 0 d) M3 GG GT P0 B4).mono ?_; rintro e w4 ⟨rfl, h4⟩; have p4 := (KeepC.below h4) _ _ p3; have q4 := (KeepC.below h4) _ _ q3; have M4 := Lib.hid (M3.out.below h4); clear h4)
    | (go_at_call 11; have _q := M2; refine (m_put ⟨#[103]⟩ ⟨#[116]⟩ 0 x 0 [⟨⟨#[103]⟩, ⟨#[116]⟩, 0, x⟩] M2 (by decide) GG GT P0 E3 D3).mono ?_; rintro e w3 ⟨rfl, m3, k3, o3⟩; have p3 := k3 _ _ p2; have q3 := k3 _ _ q2; have M3 := Lib.hid m3; clear m3 k3 o3)
    | (go_at_call 22; have _q := M1; refine (m_behind ⟨#[103]⟩ ⟨#[116]⟩ 0 y (y) M1 GG GT P0 B2).mono ?_; rintro e w2 ⟨rfl, h2⟩; have p2 := (KeepC.below h2) _ _ p1; have q2 := (KeepC.below h2) _ _ q1; have M2 := Lib.hid (M1.out.below h2); clear h2))
  go_ret
  exact ⟨rfl, M6.out.bel.trans (H7.out.mono M6.out.bel.size)⟩

set_option maxRecDepth 100000 in
set_option maxHeartbeats 1000000 in
theorem lifted (os : Os) (started : os.Started) (H : Type) (enc : TypeId × Value → H) :
    ReturnsInHanded {} Try.checked os 8 .any (Rows.offsetsBehindSpec.pre6 enc Try.prog Try.f8 Rows.offsetsBehindRow.domain false) (Rows.offsetsBehindSpec.post enc Try.prog Try.f8 false true false false) := by
  refine returnsInHanded_of_change (C := Try.checked) own started (by kernel_rfl) Try.func8
    (ChangeSpec.witness6 (enc := enc) (C := Try.checked) false ⟨#[], #[.int .i64 0, .int .i64 0], []⟩ 8 (by kernel_rfl) (by kernel_rfl) (by kernel_rfl) (by kernel_rfl)) ?_
  intro W base args ds gs before hval0 hW _ _
  have hval : ∀ (j : Nat) t v, Try.f8.params[j]? = some t → args[j]? = some v → Value.okWide Try.prog W .any base t v := hval0
  have hW' := hW
  obtain ⟨p, q, hA0, hV, rfl, hfz, hnd⟩ := hW
  have hA : DataW.TrodAll enc Try.prog W 0 (fun _ => true) true Try.f8.params.toList args.toList ds p := hA0
  rw [Try.params8] at hA hval
  obtain ⟨v0, vs0, d0, ds0, p0, q0, hargs, rfl, rfl, h0, r0⟩ := trodAll_cons hA
  obtain ⟨v1, vs1, d1, ds1, p1, q1, rfl, rfl, rfl, h1, r1⟩ := trodAll_cons r0
  obtain ⟨rfl, rfl, rfl⟩ := trodAll_nil r1
  obtain rfl : args = #[v0, v1] := by cases args; simp_all
  obtain ⟨rfl, rfl⟩ := trodVars_none hV
  have k0 := h0
  have lt0 : ∀ x ∈ p0, x.block < W.heap.size := by obtain ⟨m, hm⟩ := k0; exact DataW.trod_lt m _ _ _ hm
  have k1 := h1
  have lt1 : ∀ x ∈ p1, x.block < W.heap.size := by obtain ⟨m, hm⟩ := k1; exact DataW.trod_lt m _ _ _ hm
  obtain ⟨a0, e0, _, _, w0⟩ := open_int Try.underlying3 (hval 0 3 v0 rfl rfl) h0
  subst e0
  obtain ⟨a1, e1, _, _, w1⟩ := open_int Try.underlying3 (hval 1 3 v1 rfl rfl) h1
  subst e1
  clear hA0 hval0
  refine (walk W a0 w0 a1 w1).mono fun e W' ⟨he, bel⟩ => ?_
  subst he
  exact ⟨_, rfl, _, _, _, [], _, [], hW', trodAll_mk1 (shut_bool Try.underlying4 _), (trodAll_cons_mk (Below.trod laidOut (by kernel_rfl) (of_decide_eq_true (by kernel_rfl)) k0 bel lt0) (trodAll_cons_mk (Below.trod laidOut (by kernel_rfl) (of_decide_eq_true (by kernel_rfl)) k1 bel lt1) trodAll_mk0)), rfl, bel.frame _, fun h => by cases h⟩

theorem over : Rows.offsetsBehindRow.holds Try.pinned (OpenSpec.ofChange Rows.offsetsBehindSpec) :=
  OpenClaim.holds_of_wide 8 Try.f8 rfl rfl rfl rfl rfl rfl rfl ⟨rfl, rfl, rfl, rfl, rfl⟩ rfl rfl rfl rfl rfl (by kernel_rfl) Try.func8 (by kernel_rfl)
    (of_decide_eq_true (by kernel_rfl)) (by unfold Func.isWrapper; first | (rw [if_pos (by decide +kernel)]; kernel_rfl) | (rw [if_neg (by decide +kernel)]; exact ⟨rfl, rfl⟩))
    (fun os started H enc _ => lifted os started H enc)

/-- the statement -/
theorem proved : Rows.OffsetsBehindSaid :=
  over
#print axioms proved
end Go.Proofs.Ytadpjeolgpiojaa.offsetsBehind
