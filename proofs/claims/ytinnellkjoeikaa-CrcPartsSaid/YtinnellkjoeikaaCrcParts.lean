/-
  Proved: for any bytes (the first 600 of them), wherever they are cut, the sum of the bytes is told by that of their beginning and what stands behind; nothing behind leaves it as it is; and the fixed calls answer as they must. No condition.
-/
import Derived.Test.YtinnellkjoeikaaRows
import Derived.WalkKit
import Derived.ProofKit
import Derived.OpenShut
import Derived.ShutString
import Derived.ChangeOld
import Derived.Below
import Derived.Test.YtinnellkjoeikaaCrcFixed
namespace Go.Proofs.Ytinnellkjoeikaa.crcParts
open Go.ChangeShapes Go.WideShapes Go.ChangeAt Go.RowKit
open Go.ChangeMaps (open_string shut_string)

theorem own : ownKnob Try.prog.godebug = none := by kernel_rfl

theorem i64_mask (x : Int) : 0 ≤ bits .and .i64 x 65535 ∧ bits .and .i64 x 65535 ≤ 65535 := by
  have e : (BitVec.ofInt 64 x &&& BitVec.ofInt 64 65535).toNat ≤ 65535 := by
    rw [BitVec.toNat_and]
    exact Nat.le_trans Nat.and_le_right (by decide)
  show 0 ≤ IntKind.i64.wrap ((BitVec.ofInt 64 x &&& BitVec.ofInt 64 65535).toNat : Int) ∧ IntKind.i64.wrap ((BitVec.ofInt 64 x &&& BitVec.ofInt 64 65535).toNat : Int) ≤ 65535
  rw [IntKind.wrap_i64]
  omega

theorem parts (s p q : ByteArray) (k : Nat) (hp : s.extract 0 k = p) (hq : s.extract k s.size = q) : C.more (sumOf p) (V.nats q) = sumOf s := by
  have e : V.nats s = V.nats p ++ V.nats q := by
    rw [← hp, ← hq, V.nats_extract, V.nats_extract, List.drop_zero, Nat.sub_zero, List.take_of_length_le (l := (V.nats s).drop k) (by rw [List.length_drop, V.nats_len]; exact Nat.le_refl _), List.take_append_drop]
  unfold sumOf
  rw [C.more_sum _ _ (V.nats_byte p), e]

set_option maxRecDepth 100000 in
set_option maxHeartbeats 2000000 in
theorem walk (a0 : ByteArray) (a1 : Int) (w0 : a0.size ≤ maxLen) (_w1 : (Lit.int .i64 a1).wf = true) (w : World) :
    Calls Try.prog 7 #[.string a0, .int .i64 a1] w fun e w' => e = .returned (.bool true) ∧ Below w.heap.size w w' := by
  unfold maxLen at w0
  have hB := Below.refl w.heap.size w
  obtain ⟨s, hs⟩ : ∃ s, a0.extract 0 (min (a0.size : Int) 600).toNat = s := ⟨_, rfl⟩
  have s1 : s.size ≤ 600 := by rw [← hs, ByteArray.size_extract]; omega
  obtain ⟨m0, m1⟩ := i64_mask a1
  obtain ⟨k, hk⟩ : ∃ k, bits .and .i64 a1 65535 % ((s.size : Int) + 1) = k := ⟨_, rfl⟩
  have k0 : 0 ≤ k := by rw [← hk]; exact Int.emod_nonneg _ (by omega)
  have k1 : k ≤ (s.size : Int) := by have := Int.emod_lt_of_pos (bits .and .i64 a1 65535) (show (0 : Int) < (s.size : Int) + 1 by omega); omega
  obtain ⟨p, hp⟩ : ∃ p, s.extract 0 k.toNat = p := ⟨_, rfl⟩
  obtain ⟨q, hq⟩ : ∃ q, s.extract k.toNat s.size = q := ⟨_, rfl⟩
  have P1 : Hid (p.size ≤ 600) := by show _ ≤ _; rw [← hp, ByteArray.size_extract]; omega
  have Q1 : Hid (q.size ≤ 600) := by show _ ≤ _; rw [← hq, ByteArray.size_extract]; omega
  have S1 := Lib.hid s1
  obtain ⟨c, hc⟩ : ∃ c : Int, ((sumOf s : Nat) : Int) = c := ⟨_, rfl⟩
  obtain ⟨d, hd⟩ : ∃ d : Int, ((sumOf p : Nat) : Int) = d := ⟨_, rfl⟩
  have lc := sumOf_lt s
  have ld := sumOf_lt p
  have c0 : 0 ≤ c := by omega
  have c1 : c ≤ 4294967295 := by omega
  have d0 : 0 ≤ d := by omega
  have d1 : d ≤ 4294967295 := by omega
  have HC := Lib.hid hc
  have HD := Lib.hid hd
  have M1 : Hid (((C.more d.toNat (V.nats q) : Nat) : Int) = c) := by
    show _ = _
    rw [show d.toNat = sumOf p by omega, parts s p q k.toNat hp hq, hc]
  have M2 : Hid (((C.more c.toNat (V.nats ⟨#[]⟩) : Nat) : Int) = c) := by
    show ((C.more c.toNat [] : Nat) : Int) = c
    rw [C.more_none _ (by omega)]; omega
  have C0 := Lib.hid c0
  have C1 := Lib.hid c1
  have D0 := Lib.hid d0
  have D1 := Lib.hid d1
  clear hc hd lc ld c0 c1 d0 d1
  go_enter Try.func7, Try.ntmps7
  go_wp2_with fail
  rw [hk]
  clear hs _w1 w0 m0 m1 hk
  go_region_held3 (fun w' => Below w.heap.size w w')
    (first
      | assumption
      | exact Below.drew (by assumption)
      | exact acc (by assumption) (by assumption)
      | exact acc (Below.drew (by assumption)) (by assumption))
    (first
      | (go_at_call 10; (first | (with_reducible refine (crcsum_is _ _ _ (by have := P1.out; omega) HD).mono ?_) | (with_reducible refine (crcsum_is _ _ _ (by have := S1.out; omega) HC).mono ?_)); rintro e w1 ⟨rfl, hb1⟩)
      | (go_at_call 12; (first | (with_reducible refine (crcmore_is _ _ _ _ D0.out D1.out (by have := Q1.out; omega) M1).mono ?_) | (with_reducible refine (crcmore_is _ _ _ _ C0.out C1.out (by decide) M2).mono ?_)); rintro e w2 ⟨rfl, hb2⟩)
      | (go_at_call 14; (refine (fixed2_any _).mono ?_); rintro e w3 ⟨rfl, hb3⟩))
  go_wp2_with fail
  go_ret
  exact ⟨rfl, by assumption⟩

set_option maxRecDepth 100000 in
theorem lifted (os : Os) (started : os.Started) (H : Type) (enc : TypeId × Value → H) :
    ReturnsInHanded {} Try.checked os 7 .any (Rows.crcPartsSpec.pre6 enc Try.prog Try.f7 Rows.crcPartsRow.domain false) (Rows.crcPartsSpec.post enc Try.prog Try.f7 false true false false) := by
  refine returnsInHanded_of_change (C := Try.checked) own started (by kernel_rfl) Try.func7
    (ChangeSpec.witness6 (enc := enc) (C := Try.checked) false ⟨#[], #[.string ByteArray.empty, .int .i64 0], []⟩ 8 (by kernel_rfl) (by kernel_rfl) (by kernel_rfl) (by kernel_rfl)) ?_
  intro W base args ds gs before hval0 hW _ _
  have hval : ∀ (j : Nat) t v, Try.f7.params[j]? = some t → args[j]? = some v → Value.okWide Try.prog W .any base t v := hval0
  have hW' := hW
  obtain ⟨p, q, hA0, hV, rfl, hfz, hnd⟩ := hW
  have hA : DataW.TrodAll enc Try.prog W 0 (fun _ => true) true Try.f7.params.toList args.toList ds p := hA0
  rw [Try.params7] at hA hval
  obtain ⟨v0, vs0, d0, ds0, p0, q0, hargs, rfl, rfl, h0, r0⟩ := trodAll_cons hA
  obtain ⟨v1, vs1, d1, ds1, p1, q1, rfl, rfl, rfl, h1, r1⟩ := trodAll_cons r0
  obtain ⟨rfl, rfl, rfl⟩ := trodAll_nil r1
  obtain rfl : args = #[v0, v1] := by cases args; simp_all
  obtain ⟨rfl, rfl⟩ := trodVars_none hV
  obtain ⟨a0, rfl, rfl, rfl, w0⟩ := open_string Try.underlying9 (hval 0 9 v0 rfl rfl) h0
  obtain ⟨a1, rfl, rfl, rfl, w1⟩ := open_int Try.underlying3 (hval 1 3 v1 rfl rfl) h1
  clear hA0 hval0
  simp only [List.append_nil] at hW'
  refine (walk a0 a1 w0 w1 W).mono fun e W' ⟨he, bel⟩ => ?_
  subst he
  exact ⟨_, rfl, _, _, _, [], [], [], hW', trodAll_mk1 (shut_bool Try.underlying4 _), (trodAll_cons_mk (shut_string Try.underlying9 w0) (trodAll_cons_mk (shut_int Try.underlying3 w1) trodAll_mk0)), rfl, bel.frame _, fun h => by cases h⟩

theorem over : Rows.crcPartsRow.holds Try.pinned (OpenSpec.ofChange Rows.crcPartsSpec) :=
  OpenClaim.holds_of_wide 7 Try.f7 rfl rfl rfl rfl rfl rfl rfl ⟨rfl, rfl, rfl, rfl, rfl⟩ rfl rfl rfl rfl rfl (by kernel_rfl) Try.func7 (by kernel_rfl)
    (of_decide_eq_true (by kernel_rfl)) (by unfold Func.isWrapper; first | (rw [if_pos (by decide +kernel)]; kernel_rfl) | (rw [if_neg (by decide +kernel)]; exact ⟨rfl, rfl⟩))
    (fun os started H enc _ => lifted os started H enc)

/-- the statement -/
theorem proved : Rows.CrcPartsSaid :=
  over
#print axioms proved
end Go.Proofs.Ytinnellkjoeikaa.crcParts
