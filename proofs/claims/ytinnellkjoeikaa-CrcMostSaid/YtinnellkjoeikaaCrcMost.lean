/-
  Proved: for any bytes (the first 300 of them) and any most, their frame is cut as it was just if they are no longer than most, and is too big else; and the fixed calls answer as they must. No condition.
-/
import Derived.Test.YtinnellkjoeikaaRows
import Derived.WalkKit
import Derived.ProofKit
import Derived.OpenShut
import Derived.ShutString
import Derived.ChangeOld
import Derived.Below
import Derived.Test.YtinnellkjoeikaaCrcFixed
namespace Go.Proofs.Ytinnellkjoeikaa.crcMost
open Go.ChangeShapes Go.WideShapes Go.ChangeAt Go.RowKit
open Go.ChangeMaps (open_string shut_string)

theorem own : ownKnob Try.prog.godebug = none := by kernel_rfl

theorem most_ok (s f : ByteArray) (m : Int) (hs : s.size ≤ 300) (h : Hid (frame s = f)) (hm : (s.size : Int) ≤ m) : cut f 0 m = (s, (f.size : Int), 0) := by
  have k := cut_at (s := f) (l := []) (r := []) (t := s) (most := m) (by omega) (by rw [← h.out]; simp) hm
  rw [h.out] at k
  simpa using k
theorem most_big (s f : ByteArray) (m : Int) (hs : s.size ≤ 300) (h : Hid (frame s = f)) (hm : m < (s.size : Int)) : cut f 0 m = (⟨#[]⟩, 0, 2) := by
  refine cut_err (V.text_big (V.get_first (n := s.size) (r := V.nats s ++ C.four (sumOf s)) (by omega) ?_) rfl (by omega)) (by decide)
  rw [← h.out, frame_nats]

set_option maxHeartbeats 1000000 in
theorem walk (a0 : ByteArray) (a1 : Int) (w0 : a0.size ≤ maxLen) (w1 : (Lit.int .i64 a1).wf = true) (w : World) :
    Calls Try.prog 9 #[.string a0, .int .i64 a1] w fun e w' => e = .returned (.bool true) ∧ Below w.heap.size w w' := by
  have hy : -9223372036854775808 ≤ a1 ∧ a1 ≤ 9223372036854775807 := by simpa [Lit.wf, IntKind.min, IntKind.max, IntKind.signed, IntKind.bits] using w1
  have Y1 := Lib.hid hy.2
  clear w1 hy
  unfold maxLen at w0
  have hB := Below.refl w.heap.size w
  obtain ⟨s, hs⟩ : ∃ s, a0.extract 0 (min (a0.size : Int) 300).toNat = s := ⟨_, rfl⟩
  have s1 : s.size ≤ 300 := by rw [← hs, ByteArray.size_extract]; omega
  obtain ⟨f, hf⟩ : ∃ f, frame s = f := ⟨_, rfl⟩
  have f1 : f.size ≤ 314 := by rw [← hf, frame_size]; have := V.puts_len s.size (by omega); omega
  have HF := Lib.hid hf
  clear hf
  by_cases hm : a1 < (s.size : Int)
  · have HX := Lib.hid (most_big s f a1 s1 HF hm)
    go_enter Try.func9, Try.ntmps9
    go_wp2_with (first
      | (go_at_call 15; refine (cut_is _ _ _ _ (by omega) Y1.out _ _ _ HX).mono ?_; rintro e w' ⟨rfl, hb⟩; replace hB := acc hB hb; clear hb)
      | (go_at_call 17; refine (frame_is _ _ _ (by omega) HF).mono ?_; rintro e w' ⟨rfl, hb⟩; replace hB := acc hB hb; clear hb)
      | (go_at_call 14; refine (fixed2_any _).mono ?_; rintro e w' ⟨rfl, hb⟩; replace hB := acc hB hb; clear hb))
    go_ret
    exact ⟨rfl, hB⟩
  · have HX := Lib.hid (most_ok s f a1 s1 HF (by omega))
    go_enter Try.func9, Try.ntmps9
    go_wp2_with (first
      | (go_at_call 15; refine (cut_is _ _ _ _ (by omega) Y1.out _ _ _ HX).mono ?_; rintro e w' ⟨rfl, hb⟩; replace hB := acc hB hb; clear hb)
      | (go_at_call 17; refine (frame_is _ _ _ (by omega) HF).mono ?_; rintro e w' ⟨rfl, hb⟩; replace hB := acc hB hb; clear hb)
      | (go_at_call 14; refine (fixed2_any _).mono ?_; rintro e w' ⟨rfl, hb⟩; replace hB := acc hB hb; clear hb))
    go_ret
    exact ⟨rfl, hB⟩

set_option maxRecDepth 100000 in
theorem lifted (os : Os) (started : os.Started) (H : Type) (enc : TypeId × Value → H) :
    ReturnsInHanded {} Try.checked os 9 .any (Rows.crcMostSpec.pre6 enc Try.prog Try.f9 Rows.crcMostRow.domain false) (Rows.crcMostSpec.post enc Try.prog Try.f9 false true false false) := by
  refine returnsInHanded_of_change (C := Try.checked) own started (by kernel_rfl) Try.func9
    (ChangeSpec.witness6 (enc := enc) (C := Try.checked) false ⟨#[], #[.string ByteArray.empty, .int .i64 0], []⟩ 8 (by kernel_rfl) (by kernel_rfl) (by kernel_rfl) (by kernel_rfl)) ?_
  intro W base args ds gs before hval0 hW _ _
  have hval : ∀ (j : Nat) t v, Try.f9.params[j]? = some t → args[j]? = some v → Value.okWide Try.prog W .any base t v := hval0
  have hW' := hW
  obtain ⟨p, q, hA0, hV, rfl, hfz, hnd⟩ := hW
  have hA : DataW.TrodAll enc Try.prog W 0 (fun _ => true) true Try.f9.params.toList args.toList ds p := hA0
  rw [Try.params9] at hA hval
  obtain ⟨v0, vs0, d0, ds0, p0, q0, hargs, rfl, rfl, h0, r0⟩ := trodAll_cons hA
  obtain ⟨v1, vs1, d1, ds1, p1, q1, rfl, rfl, rfl, h1, r1⟩ := trodAll_cons r0
  obtain ⟨rfl, rfl, rfl⟩ := trodAll_nil r1
  obtain rfl : args = #[v0, v1] := by cases args; simp_all
  obtain ⟨rfl, rfl⟩ := trodVars_none hV
  obtain ⟨a0, rfl, rfl, rfl, w0⟩ := open_string Try.underlying9 (hval 0 9 v0 rfl rfl) h0
  obtain ⟨a1, rfl, rfl, rfl, w1⟩ := open_int Try.underlying3 (hval 1 3 v1 rfl rfl) h1
  clear hA0 hval0
  simp only [List.append_nil] at hW'
  refine (walk a0 a1 w0 w1 W).mono fun e W' ⟨he, bel⟩ => ?_
  subst he
  exact ⟨_, rfl, _, _, _, [], [], [], hW', trodAll_mk1 (shut_bool Try.underlying4 _), (trodAll_cons_mk (shut_string Try.underlying9 w0) (trodAll_cons_mk (shut_int Try.underlying3 w1) trodAll_mk0)), rfl, bel.frame _, fun h => by cases h⟩

theorem over : Rows.crcMostRow.holds Try.pinned (OpenSpec.ofChange Rows.crcMostSpec) :=
  OpenClaim.holds_of_wide 9 Try.f9 rfl rfl rfl rfl rfl rfl rfl ⟨rfl, rfl, rfl, rfl, rfl⟩ rfl rfl rfl rfl rfl (by kernel_rfl) Try.func9 (by kernel_rfl)
    (of_decide_eq_true (by kernel_rfl)) (by unfold Func.isWrapper; first | (rw [if_pos (by decide +kernel)]; kernel_rfl) | (rw [if_neg (by decide +kernel)]; exact ⟨rfl, rfl⟩))
    (fun os started H enc _ => lifted os started H enc)

/-- the statement -/
theorem proved : Rows.CrcMostSaid :=
  over
#print axioms proved
end Go.Proofs.Ytinnellkjoeikaa.crcMost
