/-
  Proved: for any two texts and any bytes ahead (the first 600 of each), their frames one behind the other are cut one by one as they were, to the end; and the fixed calls answer as they must. No condition.
-/
import Derived.Test.YtinnellkjoeikaaRows
import Derived.WalkKit
import Derived.ProofKit
import Derived.OpenShut
import Derived.ShutString
import Derived.ChangeOld
import Derived.Below
import Derived.Test.YtinnellkjoeikaaCrcFixed
namespace Go.Proofs.Ytinnellkjoeikaa.crcBack
open Go.ChangeShapes Go.WideShapes Go.ChangeAt Go.RowKit
open Go.ChangeMaps (open_string shut_string)

theorem own : ownKnob Try.prog.godebug = none := by kernel_rfl

theorem nats_three (h x y : ByteArray) : V.nats (h ++ x ++ y) = V.nats h ++ (V.nats x ++ V.nats y) := by
  rw [V.nats_append, V.nats_append, List.append_assoc]

theorem first_cut (h a fa fb s : ByteArray) (ha : a.size ≤ 600) (HA : Hid (frame a = fa)) (HS : Hid (h ++ fa ++ fb = s)) : cut s h.size 600 = (a, (h.size : Int) + fa.size, 0) := by
  have k := cut_at (s := s) (l := V.nats h) (r := V.nats fb) (t := a) (most := 600) (by omega) (by rw [← HS.out, HA.out]; exact nats_three h fa fb) (by omega)
  rw [V.nats_len, HA.out] at k
  exact k
theorem second_cut (h b fa fb s : ByteArray) (hb : b.size ≤ 600) (HB : Hid (frame b = fb)) (HS : Hid (h ++ fa ++ fb = s)) : cut s ((h.size : Int) + fa.size) 600 = (b, (s.size : Int), 0) := by
  have k := cut_at (s := s) (l := V.nats h ++ V.nats fa) (r := []) (t := b) (most := 600) (by omega) (by rw [← HS.out, HB.out, nats_three]; simp) (by omega)
  rw [List.length_append, V.nats_len, V.nats_len, HB.out] at k
  have e : (s.size : Int) = (h.size : Int) + fa.size + fb.size := by rw [← HS.out, ByteArray.size_append, ByteArray.size_append]; omega
  rw [e]
  simpa using k

set_option maxHeartbeats 1000000 in
theorem walk (a0 : ByteArray) (a1 : ByteArray) (a2 : ByteArray) (w0 : a0.size ≤ maxLen) (w1 : a1.size ≤ maxLen) (w2 : a2.size ≤ maxLen) (w : World) :
    Calls Try.prog 5 #[.string a0, .string a1, .string a2] w fun e w' => e = .returned (.bool true) ∧ Below w.heap.size w w' := by
  unfold maxLen at w0 w1 w2
  have hB := Below.refl w.heap.size w
  obtain ⟨x, hx⟩ : ∃ x, a0.extract 0 (min (a0.size : Int) 600).toNat = x := ⟨_, rfl⟩
  obtain ⟨y, hy⟩ : ∃ y, a1.extract 0 (min (a1.size : Int) 600).toNat = y := ⟨_, rfl⟩
  obtain ⟨h, hh⟩ : ∃ h, a2.extract 0 (min (a2.size : Int) 600).toNat = h := ⟨_, rfl⟩
  have x1 : x.size ≤ 600 := by rw [← hx, ByteArray.size_extract]; omega
  have y1 : y.size ≤ 600 := by rw [← hy, ByteArray.size_extract]; omega
  have h1 : h.size ≤ 600 := by rw [← hh, ByteArray.size_extract]; omega
  obtain ⟨fx, hfx⟩ : ∃ f, frame x = f := ⟨_, rfl⟩
  obtain ⟨fy, hfy⟩ : ∃ f, frame y = f := ⟨_, rfl⟩
  have fx1 : fx.size ≤ 614 := by rw [← hfx, frame_size]; have := V.puts_len x.size (by omega); omega
  have fy1 : fy.size ≤ 614 := by rw [← hfy, frame_size]; have := V.puts_len y.size (by omega); omega
  obtain ⟨s, hs⟩ : ∃ s, h ++ fx ++ fy = s := ⟨_, rfl⟩
  have s1 : s.size ≤ 2000 := by rw [← hs, ByteArray.size_append, ByteArray.size_append]; omega
  have HFX := Lib.hid hfx
  have HFY := Lib.hid hfy
  have C1 := Lib.hid (first_cut h x fx fy s x1 HFX (Lib.hid hs))
  have C2 := Lib.hid (second_cut h y fx fy s y1 HFY (Lib.hid hs))
  clear hfx hfy
  go_enter Try.func5, Try.ntmps5
  go_wp2_with (first
    | (go_at_call 17; (first | (with_reducible refine (frame_is _ _ _ (by omega) HFX).mono ?_) | (with_reducible refine (frame_is _ _ _ (by omega) HFY).mono ?_)); rintro e w' ⟨rfl, hb⟩; replace hB := acc hB hb; clear hb)
    | (go_at_call 15; (first | (with_reducible refine (cut_is _ _ _ _ (by omega) (by decide) _ _ _ C1).mono ?_) | (with_reducible refine (cut_is _ _ _ _ (by omega) (by decide) _ _ _ C2).mono ?_)); rintro e w' ⟨rfl, hb⟩; replace hB := acc hB hb; clear hb)
    | (go_at_call 14; refine (fixed2_any _).mono ?_; rintro e w' ⟨rfl, hb⟩; replace hB := acc hB hb; clear hb))
  go_ret
  exact ⟨rfl, hB⟩

set_option maxRecDepth 100000 in
theorem lifted (os : Os) (started : os.Started) (H : Type) (enc : TypeId × Value → H) :
    ReturnsInHanded {} Try.checked os 5 .any (Rows.crcBackSpec.pre6 enc Try.prog Try.f5 Rows.crcBackRow.domain false) (Rows.crcBackSpec.post enc Try.prog Try.f5 false true false false) := by
  refine returnsInHanded_of_change (C := Try.checked) own started (by kernel_rfl) Try.func5
    (ChangeSpec.witness6 (enc := enc) (C := Try.checked) false ⟨#[], #[.string ByteArray.empty, .string ByteArray.empty, .string ByteArray.empty], []⟩ 8 (by kernel_rfl) (by kernel_rfl) (by kernel_rfl) (by kernel_rfl)) ?_
  intro W base args ds gs before hval0 hW _ _
  have hval : ∀ (j : Nat) t v, Try.f5.params[j]? = some t → args[j]? = some v → Value.okWide Try.prog W .any base t v := hval0
  have hW' := hW
  obtain ⟨p, q, hA0, hV, rfl, hfz, hnd⟩ := hW
  have hA : DataW.TrodAll enc Try.prog W 0 (fun _ => true) true Try.f5.params.toList args.toList ds p := hA0
  rw [Try.params5] at hA hval
  obtain ⟨v0, vs0, d0, ds0, p0, q0, hargs, rfl, rfl, h0, r0⟩ := trodAll_cons hA
  obtain ⟨v1, vs1, d1, ds1, p1, q1, rfl, rfl, rfl, h1, r1⟩ := trodAll_cons r0
  obtain ⟨v2, vs2, d2, ds2, p2, q2, rfl, rfl, rfl, h2, r2⟩ := trodAll_cons r1
  obtain ⟨rfl, rfl, rfl⟩ := trodAll_nil r2
  obtain rfl : args = #[v0, v1, v2] := by cases args; simp_all
  obtain ⟨rfl, rfl⟩ := trodVars_none hV
  obtain ⟨a0, rfl, rfl, rfl, w0⟩ := open_string Try.underlying9 (hval 0 9 v0 rfl rfl) h0
  obtain ⟨a1, rfl, rfl, rfl, w1⟩ := open_string Try.underlying9 (hval 1 9 v1 rfl rfl) h1
  obtain ⟨a2, rfl, rfl, rfl, w2⟩ := open_string Try.underlying9 (hval 2 9 v2 rfl rfl) h2
  clear hA0 hval0
  simp only [List.append_nil] at hW'
  refine (walk a0 a1 a2 w0 w1 w2 W).mono fun e W' ⟨he, bel⟩ => ?_
  subst he
  exact ⟨_, rfl, _, _, _, [], [], [], hW', trodAll_mk1 (shut_bool Try.underlying4 _), (trodAll_cons_mk (shut_string Try.underlying9 w0) (trodAll_cons_mk (shut_string Try.underlying9 w1) (trodAll_cons_mk (shut_string Try.underlying9 w2) trodAll_mk0))), rfl, bel.frame _, fun h => by cases h⟩

theorem over : Rows.crcBackRow.holds Try.pinned (OpenSpec.ofChange Rows.crcBackSpec) :=
  OpenClaim.holds_of_wide 5 Try.f5 rfl rfl rfl rfl rfl rfl rfl ⟨rfl, rfl, rfl, rfl, rfl⟩ rfl rfl rfl rfl rfl (by kernel_rfl) Try.func5 (by kernel_rfl)
    (of_decide_eq_true (by kernel_rfl)) (by unfold Func.isWrapper; first | (rw [if_pos (by decide +kernel)]; kernel_rfl) | (rw [if_neg (by decide +kernel)]; exact ⟨rfl, rfl⟩))
    (fun os started H enc _ => lifted os started H enc)

/-- the statement -/
theorem proved : Rows.CrcBackSaid :=
  over
#print axioms proved
end Go.Proofs.Ytinnellkjoeikaa.crcBack
