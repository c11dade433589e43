/-
  Proved: for every number with a sign and every one without, zigzag turns one into the other and back, its lowest bit is the sign, those from -64 to 63 alone have one byte, and the fixed calls answer as they must. No condition.
-/
import Derived.Test.YtngdbjapiiijgaaRows
import Derived.WalkKit
import Derived.ProofKit
import Derived.OpenShut
import Derived.ShutString
import Derived.ChangeOld
import Derived.Below
import Derived.Test.YtngdbjapiiijgaaFixed
namespace Go.Proofs.Ytngdbjapiiijgaa.varintSigns
open Go.ChangeShapes Go.WideShapes Go.ChangeAt Go.RowKit
open Go.ChangeMaps (open_string shut_string)

theorem own : ownKnob Try.prog.godebug = none := by kernel_rfl

theorem zig_is (n z : Int) (w : World) (h0 : -9223372036854775808 ≤ n) (h1 : n ≤ 9223372036854775807) (h : Hid (V.zig n = z)) :
    Calls Try.prog 14 #[.int .i64 n] w fun e w' => e = .returned (.int .u64 z) ∧ w = w' := by
  have k := zig_any n w h0 h1
  rw [h.out] at k
  exact k
theorem zag_is (n z : Int) (w : World) (h0 : 0 ≤ n) (h1 : n ≤ 18446744073709551615) (h : Hid (V.zag n = z)) :
    Calls Try.prog 16 #[.int .u64 n] w fun e w' => e = .returned (.int .i64 z) ∧ w = w' := by
  have k := zag_any n w h0 h1
  rw [h.out] at k
  exact k
theorem size_at (n c : Int) (w : World) (h0 : 0 ≤ n) (h1 : n ≤ 18446744073709551615) (h : Hid (((V.puts n.toNat).length : Int) = c)) :
    Calls Try.prog 13 #[.int .u64 n] w fun e w' => e = .returned (.int .i64 c) ∧ Below w.heap.size w w' := by
  have k := size_any n w h0 h1
  rw [h.out] at k
  exact k

set_option maxHeartbeats 1000000 in
theorem walk (a0 : Int) (a1 : Int) (w0 : (Lit.int .i64 a0).wf = true) (w1 : (Lit.int .u64 a1).wf = true) (w : World) :
    Calls Try.prog 7 #[.int .i64 a0, .int .u64 a1] w fun e w' => e = .returned (.bool true) ∧ Below w.heap.size w w' := by
  have hx : -9223372036854775808 ≤ a0 ∧ a0 ≤ 9223372036854775807 := by simpa [Lit.wf, IntKind.min, IntKind.max, IntKind.signed, IntKind.bits] using w0
  have hy : 0 ≤ a1 ∧ a1 ≤ 18446744073709551615 := by simpa [Lit.wf, IntKind.min, IntKind.max, IntKind.signed, IntKind.bits] using w1
  obtain ⟨x0, x1⟩ := hx
  obtain ⟨y0, y1⟩ := hy
  clear w0 w1
  have hB := Below.refl w.heap.size w
  obtain ⟨z, hz⟩ : ∃ z, V.zig a0 = z := ⟨_, rfl⟩
  obtain ⟨g, hg⟩ : ∃ g, V.zag a1 = g := ⟨_, rfl⟩
  obtain ⟨z0, z1⟩ := V.zig_nonneg a0 x0 x1
  obtain ⟨g0, g1⟩ := V.zag_range a1 y0 y1
  rw [hz] at z0 z1
  rw [hg] at g0 g1
  have E1 : Hid (V.zag z = a0) := by rw [← hz]; exact V.zag_zig a0
  have E2 : Hid (V.zig g = a1) := by rw [← hg]; exact V.zig_zag a1 y0
  have hodd := V.zig_odd a0
  have hsmall := V.zig_small a0
  rw [hz] at hodd hsmall
  have hone := V.puts_one z.toNat
  obtain ⟨c, hc⟩ : ∃ c : Int, ((V.puts z.toNat).length : Int) = c := ⟨_, rfl⟩
  have hcs : c = 1 ↔ (-64 ≤ a0 ∧ a0 < 64) := by rw [← hc, ← hsmall]; omega
  have HZ := Lib.hid hz
  have HG := Lib.hid hg
  have HC := Lib.hid hc
  clear hz hg hc hone hsmall
  have X0 := Lib.hid x0
  have X1 := Lib.hid x1
  have Y0 := Lib.hid y0
  have Y1 := Lib.hid y1
  have G0 := Lib.hid g0
  have G1 := Lib.hid g1
  have ways0 : (a0 < -64 ∧ z % 2 = 1 ∧ c ≠ 1) ∨ (-64 ≤ a0 ∧ a0 < 0 ∧ z % 2 = 1 ∧ c = 1) ∨ (0 ≤ a0 ∧ a0 < 64 ∧ z % 2 = 0 ∧ c = 1) ∨ (64 ≤ a0 ∧ z % 2 = 0 ∧ c ≠ 1) := by omega
  have ways : (a0 < -64 ∧ z % 2 = 1 ∧ (c == 1) = false) ∨ (-64 ≤ a0 ∧ a0 < 0 ∧ z % 2 = 1 ∧ c = 1) ∨ (0 ≤ a0 ∧ decide (a0 < 0) = false ∧ a0 < 64 ∧ z % 2 = 0 ∧ c = 1) ∨ (64 ≤ a0 ∧ decide (a0 < 0) = false ∧ decide (a0 < 64) = false ∧ z % 2 = 0 ∧ (c == 1) = false) := by
    rcases ways0 with h | h | h | h
    · exact .inl ⟨h.1, h.2.1, by simpa using h.2.2⟩
    · exact .inr (.inl h)
    · exact .inr (.inr (.inl ⟨h.1, by simp; omega, h.2⟩))
    · exact .inr (.inr (.inr ⟨h.1, by simp; omega, by simp; omega, h.2.1, by simpa using h.2.2⟩))
  clear hodd hcs x0 x1 y0 y1 g0 g1 ways0
  rcases ways with ⟨q1, q2, q3⟩ | ⟨q1, q1', q2, q3⟩ | ⟨q1, qa, q1', q2, q3⟩ | ⟨q1, qa, qb, q2, q3⟩
  all_goals
    go_enter Try.func7, Try.ntmps7
    go_wp2_with (first
      | (go_at_call 14; (first | (with_reducible refine (zig_is _ _ _ X0.out X1.out HZ).mono ?_) | (with_reducible refine (zig_is _ _ _ G0.out G1.out E2).mono ?_)); rintro e w' ⟨rfl, rfl⟩)
      | (go_at_call 16; (first | (with_reducible refine (zag_is _ _ _ z0 z1 E1).mono ?_) | (with_reducible refine (zag_is _ _ _ Y0.out Y1.out HG).mono ?_)); rintro e w' ⟨rfl, rfl⟩)
      | (go_at_call 13; refine (size_at _ _ _ z0 z1 HC).mono ?_; rintro e w' ⟨rfl, hb⟩; replace hB := acc hB hb; clear hb)
      | (go_at_call 18; refine (fixed_any _).mono ?_; rintro e w' ⟨rfl, hb⟩; replace hB := acc hB hb; clear hb))
    go_ret
    exact ⟨by first | rfl | (simp; omega), hB⟩

set_option maxRecDepth 100000 in
theorem lifted (os : Os) (started : os.Started) (H : Type) (enc : TypeId × Value → H) :
    ReturnsInHanded {} Try.checked os 7 .any (Rows.varintSignsSpec.pre6 enc Try.prog Try.f7 Rows.varintSignsRow.domain false) (Rows.varintSignsSpec.post enc Try.prog Try.f7 false true false false) := by
  refine returnsInHanded_of_change (C := Try.checked) own started (by kernel_rfl) Try.func7
    (ChangeSpec.witness6 (enc := enc) (C := Try.checked) false ⟨#[], #[.int .i64 0, .int .u64 0], []⟩ 8 (by kernel_rfl) (by kernel_rfl) (by kernel_rfl) (by kernel_rfl)) ?_
  intro W base args ds gs before hval0 hW _ _
  have hval : ∀ (j : Nat) t v, Try.f7.params[j]? = some t → args[j]? = some v → Value.okWide Try.prog W .any base t v := hval0
  have hW' := hW
  obtain ⟨p, q, hA0, hV, rfl, hfz, hnd⟩ := hW
  have hA : DataW.TrodAll enc Try.prog W 0 (fun _ => true) true Try.f7.params.toList args.toList ds p := hA0
  rw [Try.params7] at hA hval
  obtain ⟨v0, vs0, d0, ds0, p0, q0, hargs, rfl, rfl, h0, r0⟩ := trodAll_cons hA
  obtain ⟨v1, vs1, d1, ds1, p1, q1, rfl, rfl, rfl, h1, r1⟩ := trodAll_cons r0
  obtain ⟨rfl, rfl, rfl⟩ := trodAll_nil r1
  obtain rfl : args = #[v0, v1] := by cases args; simp_all
  obtain ⟨rfl, rfl⟩ := trodVars_none hV
  obtain ⟨a0, rfl, rfl, rfl, w0⟩ := open_int Try.underlying2 (hval 0 2 v0 rfl rfl) h0
  obtain ⟨a1, rfl, rfl, rfl, w1⟩ := open_int Try.underlying22 (hval 1 22 v1 rfl rfl) h1
  clear hA0 hval0
  simp only [List.append_nil] at hW'
  refine (walk a0 a1 w0 w1 W).mono fun e W' ⟨he, bel⟩ => ?_
  subst he
  exact ⟨_, rfl, _, _, _, [], [], [], hW', trodAll_mk1 (shut_bool Try.underlying4 _), (trodAll_cons_mk (shut_int Try.underlying2 w0) (trodAll_cons_mk (shut_int Try.underlying22 w1) trodAll_mk0)), rfl, bel.frame _, fun h => by cases h⟩

theorem over : Rows.varintSignsRow.holds Try.pinned (OpenSpec.ofChange Rows.varintSignsSpec) :=
  OpenClaim.holds_of_wide 7 Try.f7 rfl rfl rfl rfl rfl rfl rfl ⟨rfl, rfl, rfl, rfl, rfl⟩ rfl rfl rfl rfl rfl (by kernel_rfl) Try.func7 (by kernel_rfl)
    (of_decide_eq_true (by kernel_rfl)) (by unfold Func.isWrapper; first | (rw [if_pos (by decide +kernel)]; kernel_rfl) | (rw [if_neg (by decide +kernel)]; exact ⟨rfl, rfl⟩))
    (fun os started H enc _ => lifted os started H enc)

/-- the statement -/
theorem proved : Rows.VarintSignsSaid :=
  over
#print axioms proved
end Go.Proofs.Ytngdbjapiiijgaa.varintSigns
