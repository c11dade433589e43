/-
  Proved: of any bytes (the first 100 of them) the frame with one bit turned over, anywhere in its text or its sum, is no frame, since the sum is not the text's, and the frame cut short is none; and the fixed calls answer as they must. No condition.
-/
import Derived.Test.YtinnellkjoeikaaRows
import Derived.WalkKit
import Derived.ProofKit
import Derived.OpenShut
import Derived.ShutString
import Derived.ChangeOld
import Derived.Below
import Derived.Deep.DeepCutAuto
import Derived.Deep.RegionWith
import Derived.BigRegion
import Derived.Test.YtinnellkjoeikaaCrcSpoil
import Derived.Test.YtinnellkjoeikaaCrcFixed
namespace Go.Proofs.Ytinnellkjoeikaa.crcSpoilt
open Go.ChangeShapes Go.WideShapes Go.ChangeAt Go.RowKit
open Go.ChangeMaps (open_string shut_string)

theorem own : ownKnob Try.prog.godebug = none := by kernel_rfl

theorem i64_mask (x : Int) : 0 ≤ bits .and .i64 x 65535 ∧ bits .and .i64 x 65535 ≤ 65535 := by
  have e : (BitVec.ofInt 64 x &&& BitVec.ofInt 64 65535).toNat ≤ 65535 := by
    rw [BitVec.toNat_and]
    exact Nat.le_trans Nat.and_le_right (by decide)
  show 0 ≤ IntKind.i64.wrap ((BitVec.ofInt 64 x &&& BitVec.ofInt 64 65535).toNat : Int) ∧ IntKind.i64.wrap ((BitVec.ofInt 64 x &&& BitVec.ofInt 64 65535).toNat : Int) ≤ 65535
  rw [IntKind.wrap_i64]
  omega
theorem i64_mask7 (x : Int) : 0 ≤ bits .and .i64 x 7 ∧ bits .and .i64 x 7 ≤ 7 := by
  have e : (BitVec.ofInt 64 x &&& BitVec.ofInt 64 7).toNat ≤ 7 := by
    rw [BitVec.toNat_and]
    exact Nat.le_trans Nat.and_le_right (by decide)
  show 0 ≤ IntKind.i64.wrap ((BitVec.ofInt 64 x &&& BitVec.ofInt 64 7).toNat : Int) ∧ IntKind.i64.wrap ((BitVec.ofInt 64 x &&& BitVec.ofInt 64 7).toNat : Int) ≤ 7
  rw [IntKind.wrap_i64]
  omega

theorem acc_alloc {W w : World} (h : Below W.heap.size W w) (o : Obj) : Below W.heap.size W (w.alloc o) := h.alloc h.size o

/-- a byte with one bit turned over -/
theorem turned (b j : Nat) (hb : b ≤ 255) (hj : j ≤ 7) : ∃ c : Nat, c ≠ b ∧ c ≤ 255 ∧ bits .xor .u8 (b : Int) (2 ^ j % 256) = (c : Int) := by
  have hp : 2 ^ j < 256 ∧ 0 < 2 ^ j ∧ ((2 : Int) ^ j % 256) = ((2 ^ j : Nat) : Int) := by
    have h : j = 0 ∨ j = 1 ∨ j = 2 ∨ j = 3 ∨ j = 4 ∨ j = 5 ∨ j = 6 ∨ j = 7 := by omega
    rcases h with rfl | rfl | rfl | rfl | rfl | rfl | rfl | rfl <;> decide
  refine ⟨b ^^^ 2 ^ j, ?_, Nat.le_of_lt_succ (Nat.xor_lt_two_pow (n := 8) (by omega) hp.1), ?_⟩
  · intro h
    have h2 : b ^^^ 2 ^ j = b ^^^ 0 := by rw [h, Nat.xor_zero]
    have := C.xor_left h2
    omega
  · rw [hp.2.2]; exact u8_xor_nat b (2 ^ j) (by omega) hp.1

set_option maxRecDepth 100000 in
set_option maxHeartbeats 2000000 in
theorem walk (a0 : ByteArray) (a1 : Int) (a2 : Int) (w0 : a0.size ≤ maxLen) (_w1 : (Lit.int .i64 a1).wf = true) (_w2 : (Lit.int .i64 a2).wf = true) (w : World) :
    Calls Try.prog 6 #[.string a0, .int .i64 a1, .int .i64 a2] w fun e w' => e = .returned (.bool true) ∧ Below w.heap.size w w' := by
  unfold maxLen at w0
  have hB := Below.refl w.heap.size w
  obtain ⟨s, hs⟩ : ∃ s, a0.extract 0 (min (a0.size : Int) 100).toNat = s := ⟨_, rfl⟩
  have s1 : s.size ≤ 100 := by rw [← hs, ByteArray.size_extract]; omega
  obtain ⟨m0, m1⟩ := i64_mask a1
  obtain ⟨j0, j1⟩ := i64_mask7 a2
  obtain ⟨f, hf⟩ : ∃ f, frame s = f := ⟨_, rfl⟩
  have fz : f.size = s.size + 5 := by rw [← hf, frame_size, (V.puts_one _).2 (by omega)]; omega
  have fz1 : ((f.size : Int) == (s.size : Int) + 5) = true := by simp; omega
  have fz2 : 5 ≤ f.size := by omega
  have fz3 : f.size ≤ 105 := by omega
  have HF := Lib.hid hf
  have FZ := Lib.hid fz
  clear hf fz
  have kc := conv_one
  obtain ⟨k, hk⟩ : ∃ k : Nat, wrap64 (1 + bits .and .i64 a1 65535 % ((f.size : Int) - 1)) = (k : Int) := by
    have h0 := Int.emod_nonneg (bits .and .i64 a1 65535) (show (f.size : Int) - 1 ≠ 0 by omega)
    exact ⟨(wrap64 (1 + bits .and .i64 a1 65535 % ((f.size : Int) - 1))).toNat, by have h1 := Int.emod_lt_of_pos (bits .and .i64 a1 65535) (show (0 : Int) < (f.size : Int) - 1 by omega); unfold wrap64; omega⟩
  have hkk : 1 ≤ k ∧ k < f.size := by
    have h0 := Int.emod_nonneg (bits .and .i64 a1 65535) (show (f.size : Int) - 1 ≠ 0 by omega)
    have h1 := Int.emod_lt_of_pos (bits .and .i64 a1 65535) (show (0 : Int) < (f.size : Int) - 1 by omega)
    unfold wrap64 at hk
    omega
  obtain ⟨k1, k2⟩ := hkk
  obtain ⟨b, hbv⟩ : ∃ b, f[k].toNat = b := ⟨_, rfl⟩
  have b1 : b ≤ 255 := by rw [← hbv]; exact Nat.le_of_lt_succ f[k].toNat_lt
  have hF8 : (V.nats f)[k]? = some b := by
    have e := congrArg (fun l => l[0]?) (V.drop_at f k k2)
    rw [hbv] at e
    simpa using e
  obtain ⟨j, hj⟩ : ∃ j : Nat, bits .and .i64 a2 7 = (j : Int) := ⟨(bits .and .i64 a2 7).toNat, by omega⟩
  have hj7 : j ≤ 7 := by omega
  clear j0 j1
  obtain ⟨c, hcb, c1, hxe⟩ := turned b j b1 hj7
  obtain ⟨p, hp⟩ : ∃ p, f.extract 0 k = p := ⟨_, rfl⟩
  obtain ⟨q, hq⟩ : ∃ q, f.extract (k + 1) f.size = q := ⟨_, rfl⟩
  have p1 : p.size ≤ 105 := by rw [← hp, ByteArray.size_extract]; omega
  have q1 : q.size ≤ 105 := by rw [← hq, ByteArray.size_extract]; omega
  have np : V.nats p = (V.nats f).take k := by rw [← hp, V.nats_extract, List.drop_zero, Nat.sub_zero]
  have nq : V.nats q = (V.nats f).drop (k + 1) := by rw [← hq, V.nats_extract, List.take_of_length_le (by rw [List.length_drop, V.nats_len]; exact Nat.le_refl _)]
  have zc : (strOfNums [(c : Int)]).size = 1 := strOfNums_size _
  have hno1 : (9223372036854775807 < p.size + 1) = False := by simp; omega
  have hno2 : (9223372036854775807 < p.size + 1 + q.size) = False := by simp; omega
  have X1 : Hid (cut (p ++ strOfNums [(c : Int)] ++ q) 0 600 = (⟨#[]⟩, 0, 21)) := by
    refine spoilt (s := s) k c s1 k1 (by have := FZ.out; omega) (by omega) ?_ ?_
    · rw [V.nats_append, V.nats_append, np, nq, HF.out]
      have e1 : V.nats (strOfNums [(c : Int)]) = [c] := by
        show [(UInt8.ofNat ((c : Int)).toNat).toNat] = [c]
        rw [UInt8.toNat_ofNat', Int.toNat_natCast, Nat.mod_eq_of_lt (by omega)]
      rw [e1, List.append_assoc]; rfl
    · rw [HF.out, hF8]
      intro e
      exact hcb (Option.some.inj e).symm
  obtain ⟨t2, pl2, e2, hx2⟩ : ∃ t pl e, cut p 0 600 = (t, pl, e) := ⟨_, _, _, rfl⟩
  have he2 : (e2 != 0) = true := by
    have h := short (s := s) (g := p) k s1 k1 (by have := FZ.out; omega) (by rw [np, HF.out])
    rw [hx2] at h
    simpa using h
  have X2 := Lib.hid hx2
  have G1 : Hid ((p ++ strOfNums [(c : Int)] ++ q).size ≤ 140737488355328) := by show _ ≤ _; rw [ByteArray.size_append, ByteArray.size_append, zc]; omega
  clear hx2 np nq hF8 hcb
  have k3 : (0 : Int) ≤ (k : Int) := by omega
  have k4 : (k : Int) < (f.size : Int) := by omega
  have k5 : (k : Int) ≤ (f.size : Int) := by omega
  have hsum : IntKind.i64.wrap ((k : Int) + 1) = (k : Int) + 1 := IntWalk.i64_in _ (by omega)
  have k6 : (0 : Int) ≤ (k : Int) + 1 := by omega
  have k7 : (k : Int) + 1 ≤ (f.size : Int) := by omega
  go_enter Try.func6, Try.ntmps6
  go_wp2_with (go_at_call 17; refine (frame_is _ _ _ (by omega) HF).mono ?_; rintro e w' ⟨rfl, hb⟩; replace hB := acc hB hb; clear hb)
  rw [hk]
  clear hs w0 _w1 _w2 m0 m1 hk fz1
  go_region
  all_goals
    go_wp2_with (first
      | (go_at_call 15; (first | (with_reducible refine (cut_is _ _ _ _ G1.out (by decide) _ _ _ X1).mono ?_) | (with_reducible refine (cut_is _ _ _ _ (by omega) (by decide) _ _ _ X2).mono ?_)); rintro e wn ⟨rfl, hb⟩; first | (replace hB := acc hB hb) | (replace hB := acc (acc_alloc hB _).drew hb); clear hb)
      | (go_at_call 14; refine (fixed2_any _).mono ?_; rintro e wn ⟨rfl, hb⟩; replace hB := acc hB hb; clear hb))
    go_ret
    exact ⟨rfl, hB⟩

set_option maxRecDepth 100000 in
theorem lifted (os : Os) (started : os.Started) (H : Type) (enc : TypeId × Value → H) :
    ReturnsInHanded {} Try.checked os 6 .any (Rows.crcSpoiltSpec.pre6 enc Try.prog Try.f6 Rows.crcSpoiltRow.domain false) (Rows.crcSpoiltSpec.post enc Try.prog Try.f6 false true false false) := by
  refine returnsInHanded_of_change (C := Try.checked) own started (by kernel_rfl) Try.func6
    (ChangeSpec.witness6 (enc := enc) (C := Try.checked) false ⟨#[], #[.string ByteArray.empty, .int .i64 0, .int .i64 0], []⟩ 8 (by kernel_rfl) (by kernel_rfl) (by kernel_rfl) (by kernel_rfl)) ?_
  intro W base args ds gs before hval0 hW _ _
  have hval : ∀ (j : Nat) t v, Try.f6.params[j]? = some t → args[j]? = some v → Value.okWide Try.prog W .any base t v := hval0
  have hW' := hW
  obtain ⟨p, q, hA0, hV, rfl, hfz, hnd⟩ := hW
  have hA : DataW.TrodAll enc Try.prog W 0 (fun _ => true) true Try.f6.params.toList args.toList ds p := hA0
  rw [Try.params6] at hA hval
  obtain ⟨v0, vs0, d0, ds0, p0, q0, hargs, rfl, rfl, h0, r0⟩ := trodAll_cons hA
  obtain ⟨v1, vs1, d1, ds1, p1, q1, rfl, rfl, rfl, h1, r1⟩ := trodAll_cons r0
  obtain ⟨v2, vs2, d2, ds2, p2, q2, rfl, rfl, rfl, h2, r2⟩ := trodAll_cons r1
  obtain ⟨rfl, rfl, rfl⟩ := trodAll_nil r2
  obtain rfl : args = #[v0, v1, v2] := by cases args; simp_all
  obtain ⟨rfl, rfl⟩ := trodVars_none hV
  obtain ⟨a0, rfl, rfl, rfl, w0⟩ := open_string Try.underlying9 (hval 0 9 v0 rfl rfl) h0
  obtain ⟨a1, rfl, rfl, rfl, w1⟩ := open_int Try.underlying3 (hval 1 3 v1 rfl rfl) h1
  obtain ⟨a2, rfl, rfl, rfl, w2⟩ := open_int Try.underlying3 (hval 2 3 v2 rfl rfl) h2
  clear hA0 hval0
  simp only [List.append_nil] at hW'
  refine (walk a0 a1 a2 w0 w1 w2 W).mono fun e W' ⟨he, bel⟩ => ?_
  subst he
  exact ⟨_, rfl, _, _, _, [], [], [], hW', trodAll_mk1 (shut_bool Try.underlying4 _), (trodAll_cons_mk (shut_string Try.underlying9 w0) (trodAll_cons_mk (shut_int Try.underlying3 w1) (trodAll_cons_mk (shut_int Try.underlying3 w2) trodAll_mk0))), rfl, bel.frame _, fun h => by cases h⟩

theorem over : Rows.crcSpoiltRow.holds Try.pinned (OpenSpec.ofChange Rows.crcSpoiltSpec) :=
  OpenClaim.holds_of_wide 6 Try.f6 rfl rfl rfl rfl rfl rfl rfl ⟨rfl, rfl, rfl, rfl, rfl⟩ rfl rfl rfl rfl rfl (by kernel_rfl) Try.func6 (by kernel_rfl)
    (of_decide_eq_true (by kernel_rfl)) (by unfold Func.isWrapper; first | (rw [if_pos (by decide +kernel)]; kernel_rfl) | (rw [if_neg (by decide +kernel)]; exact ⟨rfl, rfl⟩))
    (fun os started H enc _ => lifted os started H enc)

/-- the statement -/
theorem proved : Rows.CrcSpoiltSaid :=
  over
#print axioms proved
end Go.Proofs.Ytinnellkjoeikaa.crcSpoilt
