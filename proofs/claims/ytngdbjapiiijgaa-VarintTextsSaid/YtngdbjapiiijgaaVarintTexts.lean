/-
  Proved: for any two texts (the first 1000 bytes of each), the first one put, with the second behind it, is got as it was if it may be so long; if it may be one byte shorter at most it is too big; one byte cut off, too few are left; and the fixed calls answer as they must. No condition.
-/
import Derived.Test.YtngdbjapiiijgaaRows
import Derived.WalkKit
import Derived.ProofKit
import Derived.OpenShut
import Derived.ShutString
import Derived.ChangeOld
import Derived.Below
import Derived.Test.YtngdbjapiiijgaaFixed
import Derived.Test.YtngdbjapiiijgaaMath2
namespace Go.Proofs.Ytngdbjapiiijgaa.varintTexts
open Go.ChangeShapes Go.WideShapes Go.ChangeAt Go.RowKit
open Go.ChangeMaps (open_string shut_string)

theorem own : ownKnob Try.prog.godebug = none := by kernel_rfl

theorem puttext_is (t s : ByteArray) (w : World) (ht : t.size ≤ 281474976710656) (h : Hid (V.put t.size ++ t = s)) :
    Calls Try.prog 23 #[.string t] w fun e w' => e = .returned (.string s) ∧ Below w.heap.size w w' := by
  have k := puttext_any t w ht
  rw [h.out] at k
  exact k
theorem back_is (t s b : ByteArray) (w : World) (ht : t.size ≤ 1000) (hs : s.size ≤ 2000) (hb : b.size ≤ 1000) (h : Hid (V.put t.size ++ t = s)) :
    Calls Try.prog 21 #[.string (s ++ b), .int .i64 0, .int .i64 t.size] w fun e w' => e = .returned (.tuple #[.string t, .int .i64 s.size, .int .i64 0]) ∧ Below w.heap.size w w' := by
  refine text_is _ _ _ w (by rw [ByteArray.size_append]; omega) (by omega) _ _ _ (Lib.hid ?_)
  rw [← h.out]
  exact V.text_back t b ht
theorem less_is (t s b : ByteArray) (w : World) (ht : t.size ≤ 1000) (hs : s.size ≤ 2000) (hb : b.size ≤ 1000) (h : Hid (V.put t.size ++ t = s)) :
    Calls Try.prog 21 #[.string (s ++ b), .int .i64 0, .int .i64 ((t.size : Int) - 1)] w fun e w' => e = .returned (.tuple #[.string ⟨#[]⟩, .int .i64 0, .int .i64 2]) ∧ Below w.heap.size w w' := by
  refine text_is _ _ _ w (by rw [ByteArray.size_append]; omega) (by omega) _ _ _ (Lib.hid ?_)
  rw [← h.out]
  exact V.text_less t b ht
theorem cut_is (t s : ByteArray) (w : World) (ht : t.size ≤ 1000) (hs : s.size ≤ 2000) (h : Hid (V.put t.size ++ t = s)) (j : Nat) (hj : j = s.size - 1) :
    Calls Try.prog 21 #[.string (s.extract 0 j), .int .i64 0, .int .i64 t.size] w fun e w' => e = .returned (.tuple #[.string ⟨#[]⟩, .int .i64 0, .int .i64 10]) ∧ Below w.heap.size w w' := by
  refine text_is _ _ _ w (by rw [ByteArray.size_extract]; omega) (by omega) _ _ _ (Lib.hid ?_)
  rw [hj, ← h.out]
  exact V.text_cut t ht

set_option maxHeartbeats 1000000 in
theorem walk (a0 : ByteArray) (a1 : ByteArray) (w0 : a0.size ≤ maxLen) (w1 : a1.size ≤ maxLen) (w : World) :
    Calls Try.prog 8 #[.string a0, .string a1] w fun e w' => e = .returned (.bool true) ∧ Below w.heap.size w w' := by
  unfold maxLen at w0 w1
  have hB := Below.refl w.heap.size w
  obtain ⟨t, ht⟩ : ∃ t, a0.extract 0 (min (a0.size : Int) 1000).toNat = t := ⟨_, rfl⟩
  obtain ⟨b, hb⟩ : ∃ b, a1.extract 0 (min (a1.size : Int) 1000).toNat = b := ⟨_, rfl⟩
  have t1 : t.size ≤ 1000 := by rw [← ht, ByteArray.size_extract]; omega
  have b1 : b.size ≤ 1000 := by rw [← hb, ByteArray.size_extract]; omega
  obtain ⟨s, hs⟩ : ∃ s, V.put t.size ++ t = s := ⟨_, rfl⟩
  have s1 : 1 ≤ s.size := by rw [← hs, ByteArray.size_append, V.put_size]; have := V.puts_pos t.size; omega
  have s2 : s.size ≤ 2000 := by rw [← hs, ByteArray.size_append, V.put_size]; have := V.puts_len t.size (by omega); omega
  have HS := Lib.hid hs
  clear hs
  go_enter Try.func8, Try.ntmps8
  go_wp2_with (first
    | (go_at_call 23; refine (puttext_is _ _ _ (by omega) HS).mono ?_; rintro e w' ⟨rfl, hb⟩; replace hB := acc hB hb; clear hb)
    | (go_at_call 21; (first | (with_reducible refine (back_is _ _ _ _ t1 s2 b1 HS).mono ?_) | (with_reducible refine (less_is _ _ _ _ t1 s2 b1 HS).mono ?_) | (with_reducible refine (cut_is _ _ _ t1 s2 HS _ (by omega)).mono ?_)); rintro e w' ⟨rfl, hb⟩; replace hB := acc hB hb; clear hb)
    | (go_at_call 18; refine (fixed_any _).mono ?_; rintro e w' ⟨rfl, hb⟩; replace hB := acc hB hb; clear hb))
  go_ret
  exact ⟨rfl, hB⟩

set_option maxRecDepth 100000 in
theorem lifted (os : Os) (started : os.Started) (H : Type) (enc : TypeId × Value → H) :
    ReturnsInHanded {} Try.checked os 8 .any (Rows.varintTextsSpec.pre6 enc Try.prog Try.f8 Rows.varintTextsRow.domain false) (Rows.varintTextsSpec.post enc Try.prog Try.f8 false true false false) := by
  refine returnsInHanded_of_change (C := Try.checked) own started (by kernel_rfl) Try.func8
    (ChangeSpec.witness6 (enc := enc) (C := Try.checked) false ⟨#[], #[.string ByteArray.empty, .string ByteArray.empty], []⟩ 8 (by kernel_rfl) (by kernel_rfl) (by kernel_rfl) (by kernel_rfl)) ?_
  intro W base args ds gs before hval0 hW _ _
  have hval : ∀ (j : Nat) t v, Try.f8.params[j]? = some t → args[j]? = some v → Value.okWide Try.prog W .any base t v := hval0
  have hW' := hW
  obtain ⟨p, q, hA0, hV, rfl, hfz, hnd⟩ := hW
  have hA : DataW.TrodAll enc Try.prog W 0 (fun _ => true) true Try.f8.params.toList args.toList ds p := hA0
  rw [Try.params8] at hA hval
  obtain ⟨v0, vs0, d0, ds0, p0, q0, hargs, rfl, rfl, h0, r0⟩ := trodAll_cons hA
  obtain ⟨v1, vs1, d1, ds1, p1, q1, rfl, rfl, rfl, h1, r1⟩ := trodAll_cons r0
  obtain ⟨rfl, rfl, rfl⟩ := trodAll_nil r1
  obtain rfl : args = #[v0, v1] := by cases args; simp_all
  obtain ⟨rfl, rfl⟩ := trodVars_none hV
  obtain ⟨a0, rfl, rfl, rfl, w0⟩ := open_string Try.underlying9 (hval 0 9 v0 rfl rfl) h0
  obtain ⟨a1, rfl, rfl, rfl, w1⟩ := open_string Try.underlying9 (hval 1 9 v1 rfl rfl) h1
  clear hA0 hval0
  simp only [List.append_nil] at hW'
  refine (walk a0 a1 w0 w1 W).mono fun e W' ⟨he, bel⟩ => ?_
  subst he
  exact ⟨_, rfl, _, _, _, [], [], [], hW', trodAll_mk1 (shut_bool Try.underlying4 _), (trodAll_cons_mk (shut_string Try.underlying9 w0) (trodAll_cons_mk (shut_string Try.underlying9 w1) trodAll_mk0)), rfl, bel.frame _, fun h => by cases h⟩

theorem over : Rows.varintTextsRow.holds Try.pinned (OpenSpec.ofChange Rows.varintTextsSpec) :=
  OpenClaim.holds_of_wide 8 Try.f8 rfl rfl rfl rfl rfl rfl rfl ⟨rfl, rfl, rfl, rfl, rfl⟩ rfl rfl rfl rfl rfl (by kernel_rfl) Try.func8 (by kernel_rfl)
    (of_decide_eq_true (by kernel_rfl)) (by unfold Func.isWrapper; first | (rw [if_pos (by decide +kernel)]; kernel_rfl) | (rw [if_neg (by decide +kernel)]; exact ⟨rfl, rfl⟩))
    (fun os started H enc _ => lifted os started H enc)

/-- the statement -/
theorem proved : Rows.VarintTextsSaid :=
  over
#print axioms proved
end Go.Proofs.Ytngdbjapiiijgaa.varintTexts
