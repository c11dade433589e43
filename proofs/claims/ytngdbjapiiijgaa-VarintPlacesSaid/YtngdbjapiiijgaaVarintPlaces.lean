/-
  Proved: for any bytes (the first 100 of them) and any distance, no number and no text stands ahead of the beginning or behind the end, and none begins at the end; and the fixed calls answer as they must. No condition.
-/
import Derived.Test.YtngdbjapiiijgaaRows
import Derived.WalkKit
import Derived.ProofKit
import Derived.OpenShut
import Derived.ShutString
import Derived.ChangeOld
import Derived.Below
import Derived.Test.YtngdbjapiiijgaaFixed
import Derived.Test.YtngdbjapiiijgaaMath2
namespace Go.Proofs.Ytngdbjapiiijgaa.varintPlaces
open Go.ChangeShapes Go.WideShapes Go.ChangeAt Go.RowKit
open Go.ChangeMaps (open_string shut_string)

theorem own : ownKnob Try.prog.godebug = none := by kernel_rfl

theorem i64_mask (x : Int) : 0 ≤ bits .and .i64 x 65535 ∧ bits .and .i64 x 65535 ≤ 65535 := by
  have e : (BitVec.ofInt 64 x &&& BitVec.ofInt 64 65535).toNat ≤ 65535 := by
    rw [BitVec.toNat_and]
    exact Nat.le_trans Nat.and_le_right (by decide)
  show 0 ≤ IntKind.i64.wrap ((BitVec.ofInt 64 x &&& BitVec.ofInt 64 65535).toNat : Int) ∧ IntKind.i64.wrap ((BitVec.ofInt 64 x &&& BitVec.ofInt 64 65535).toNat : Int) ≤ 65535
  rw [IntKind.wrap_i64]
  omega

theorem out_is (s : ByteArray) (p : Int) (w : World) (hs : s.size ≤ 100) (hp : p < 0 ∨ (s.size : Int) < p) :
    Calls Try.prog 19 #[.string s, .int .i64 p] w fun e w' => e = .returned (.tuple #[.int .u64 0, .int .i64 0, .int .i64 1]) ∧ w = w' :=
  get_is _ _ w (by unfold maxLen; omega) 0 0 1 (Lib.hid (if_pos hp))
theorem end_is (s : ByteArray) (w : World) (hs : s.size ≤ 100) :
    Calls Try.prog 19 #[.string s, .int .i64 s.size] w fun e w' => e = .returned (.tuple #[.int .u64 0, .int .i64 0, .int .i64 10]) ∧ w = w' := by
  refine get_is _ _ w (by unfold maxLen; omega) 0 0 10 (Lib.hid ?_)
  unfold V.get
  rw [if_neg (by omega), Int.toNat_natCast, List.drop_of_length_le (by rw [V.nats_len]; exact Nat.le_refl _)]
  rfl
theorem outtext_is (s : ByteArray) (p : Int) (w : World) (hs : s.size ≤ 100) (hp : p < 0 ∨ (s.size : Int) < p) :
    Calls Try.prog 21 #[.string s, .int .i64 p, .int .i64 9] w fun e w' => e = .returned (.tuple #[.string ⟨#[]⟩, .int .i64 0, .int .i64 1]) ∧ Below w.heap.size w w' :=
  text_is _ _ _ w (by omega) (by decide) _ _ _ (Lib.hid (V.text_err (if_pos hp) (by decide)))

set_option maxHeartbeats 1000000 in
theorem walk (a0 : ByteArray) (a1 : Int) (w0 : a0.size ≤ maxLen) (_w1 : (Lit.int .i64 a1).wf = true) (w : World) :
    Calls Try.prog 10 #[.string a0, .int .i64 a1] w fun e w' => e = .returned (.bool true) ∧ Below w.heap.size w w' := by
  unfold maxLen at w0
  have hB := Below.refl w.heap.size w
  obtain ⟨m0, m1⟩ := i64_mask a1
  obtain ⟨s, hs⟩ : ∃ s, a0.extract 0 (min (a0.size : Int) 100).toNat = s := ⟨_, rfl⟩
  have s1 : s.size ≤ 100 := by rw [← hs, ByteArray.size_extract]; omega
  obtain ⟨m, hm⟩ : ∃ m, bits .and .i64 a1 65535 = m := ⟨_, rfl⟩
  rw [hm] at m0 m1
  go_enter Try.func10, Try.ntmps10
  go_wp2_with (first
    | (go_at_call 19; (first | (with_reducible refine (end_is _ _ s1).mono ?_) | (with_reducible refine (out_is _ _ _ s1 (by omega)).mono ?_)); rintro e w' ⟨rfl, rfl⟩)
    | (go_at_call 21; refine (outtext_is _ _ _ s1 (by omega)).mono ?_; rintro e w' ⟨rfl, hb⟩; replace hB := acc hB hb; clear hb)
    | (go_at_call 18; refine (fixed_any _).mono ?_; rintro e w' ⟨rfl, hb⟩; replace hB := acc hB hb; clear hb))
  go_ret
  exact ⟨rfl, hB⟩

set_option maxRecDepth 100000 in
theorem lifted (os : Os) (started : os.Started) (H : Type) (enc : TypeId × Value → H) :
    ReturnsInHanded {} Try.checked os 10 .any (Rows.varintPlacesSpec.pre6 enc Try.prog Try.f10 Rows.varintPlacesRow.domain false) (Rows.varintPlacesSpec.post enc Try.prog Try.f10 false true false false) := by
  refine returnsInHanded_of_change (C := Try.checked) own started (by kernel_rfl) Try.func10
    (ChangeSpec.witness6 (enc := enc) (C := Try.checked) false ⟨#[], #[.string ByteArray.empty, .int .i64 0], []⟩ 8 (by kernel_rfl) (by kernel_rfl) (by kernel_rfl) (by kernel_rfl)) ?_
  intro W base args ds gs before hval0 hW _ _
  have hval : ∀ (j : Nat) t v, Try.f10.params[j]? = some t → args[j]? = some v → Value.okWide Try.prog W .any base t v := hval0
  have hW' := hW
  obtain ⟨p, q, hA0, hV, rfl, hfz, hnd⟩ := hW
  have hA : DataW.TrodAll enc Try.prog W 0 (fun _ => true) true Try.f10.params.toList args.toList ds p := hA0
  rw [Try.params10] at hA hval
  obtain ⟨v0, vs0, d0, ds0, p0, q0, hargs, rfl, rfl, h0, r0⟩ := trodAll_cons hA
  obtain ⟨v1, vs1, d1, ds1, p1, q1, rfl, rfl, rfl, h1, r1⟩ := trodAll_cons r0
  obtain ⟨rfl, rfl, rfl⟩ := trodAll_nil r1
  obtain rfl : args = #[v0, v1] := by cases args; simp_all
  obtain ⟨rfl, rfl⟩ := trodVars_none hV
  obtain ⟨a0, rfl, rfl, rfl, w0⟩ := open_string Try.underlying9 (hval 0 9 v0 rfl rfl) h0
  obtain ⟨a1, rfl, rfl, rfl, w1⟩ := open_int Try.underlying3 (hval 1 3 v1 rfl rfl) h1
  clear hA0 hval0
  simp only [List.append_nil] at hW'
  refine (walk a0 a1 w0 w1 W).mono fun e W' ⟨he, bel⟩ => ?_
  subst he
  exact ⟨_, rfl, _, _, _, [], [], [], hW', trodAll_mk1 (shut_bool Try.underlying4 _), (trodAll_cons_mk (shut_string Try.underlying9 w0) (trodAll_cons_mk (shut_int Try.underlying3 w1) trodAll_mk0)), rfl, bel.frame _, fun h => by cases h⟩

theorem over : Rows.varintPlacesRow.holds Try.pinned (OpenSpec.ofChange Rows.varintPlacesSpec) :=
  OpenClaim.holds_of_wide 10 Try.f10 rfl rfl rfl rfl rfl rfl rfl ⟨rfl, rfl, rfl, rfl, rfl⟩ rfl rfl rfl rfl rfl (by kernel_rfl) Try.func10 (by kernel_rfl)
    (of_decide_eq_true (by kernel_rfl)) (by unfold Func.isWrapper; first | (rw [if_pos (by decide +kernel)]; kernel_rfl) | (rw [if_neg (by decide +kernel)]; exact ⟨rfl, rfl⟩))
    (fun os started H enc _ => lifted os started H enc)

/-- the statement -/
theorem proved : Rows.VarintPlacesSaid :=
  over
#print axioms proved
end Go.Proofs.Ytngdbjapiiijgaa.varintPlaces
