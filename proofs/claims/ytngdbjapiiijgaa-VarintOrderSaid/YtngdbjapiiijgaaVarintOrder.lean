/-
  Proved: for any two numbers the less has no more bytes than the greater, each has one to ten, and a number's bytes cut short are no number but too few, and the fixed calls answer as they must. No condition.
-/
import Derived.Test.YtngdbjapiiijgaaRows
import Derived.WalkKit
import Derived.ProofKit
import Derived.OpenShut
import Derived.ShutString
import Derived.ChangeOld
import Derived.Below
import Derived.Test.YtngdbjapiiijgaaFixed
namespace Go.Proofs.Ytngdbjapiiijgaa.varintOrder
open Go.ChangeShapes Go.WideShapes Go.ChangeAt Go.RowKit
open Go.ChangeMaps (open_string shut_string)

theorem own : ownKnob Try.prog.godebug = none := by kernel_rfl

theorem i64_mask (x : Int) : 0 ≤ bits .and .i64 x 65535 ∧ bits .and .i64 x 65535 ≤ 65535 := by
  have e : (BitVec.ofInt 64 x &&& BitVec.ofInt 64 65535).toNat ≤ 65535 := by
    rw [BitVec.toNat_and]
    exact Nat.le_trans Nat.and_le_right (by decide)
  show 0 ≤ IntKind.i64.wrap ((BitVec.ofInt 64 x &&& BitVec.ofInt 64 65535).toNat : Int) ∧ IntKind.i64.wrap ((BitVec.ofInt 64 x &&& BitVec.ofInt 64 65535).toNat : Int) ≤ 65535
  rw [IntKind.wrap_i64]
  omega

theorem put_is (n : Int) (s : ByteArray) (w : World) (h0 : 0 ≤ n) (h1 : n ≤ 18446744073709551615) (h : Hid (V.put n.toNat = s)) :
    Calls Try.prog 11 #[.int .u64 n] w fun e w' => e = .returned (.string s) ∧ Below w.heap.size w w' := by
  have k := put_any n w h0 h1
  rw [h.out] at k
  exact k
theorem size_at (n c : Int) (w : World) (h0 : 0 ≤ n) (h1 : n ≤ 18446744073709551615) (h : Hid (((V.put n.toNat).size : Int) = c)) :
    Calls Try.prog 13 #[.int .u64 n] w fun e w' => e = .returned (.int .i64 c) ∧ Below w.heap.size w w' := by
  have k := size_is n w h0 h1
  rw [h.out] at k
  exact k

theorem cut_short (n : Nat) (s : ByteArray) (j : Nat) (w : World) (hn : n < 18446744073709551616) (hs : Hid (V.put n = s)) (hj : j < s.size) :
    Calls Try.prog 19 #[.string (s.extract 0 j), .int .i64 0] w fun e w' => e = .returned (.tuple #[.int .u64 0, .int .i64 0, .int .i64 10]) ∧ w = w' := by
  have e1 : V.nats (s.extract 0 j) = (V.puts n).take j := by
    rw [← V.nats_put n, hs.out]
    simp [V.nats, ByteArray.data_extract]
  have hz : s.size ≤ 10 := by rw [← hs.out, V.put_size]; exact V.puts_len n hn
  have hl : j < (V.puts n).length := by rw [← V.put_size, hs.out]; exact hj
  have e2 := V.got_cut n j 0 0 (by decide) (by simpa using hn) (fun h => absurd h (by decide)) hl
  refine get_is _ _ w (by rw [ByteArray.size_extract]; unfold maxLen; omega) 0 0 10 (Lib.hid ?_)
  unfold V.get
  rw [if_neg (by rw [ByteArray.size_extract]; omega)]
  show (_, _, _) = _
  simp only [Int.toNat_zero, List.drop_zero, e1, e2]
  rfl

set_option maxHeartbeats 1000000 in
theorem walk (a0 : Int) (a1 : Int) (a2 : Int) (w0 : (Lit.int .u64 a0).wf = true) (w1 : (Lit.int .u64 a1).wf = true) (_w2 : (Lit.int .i64 a2).wf = true) (w : World) :
    Calls Try.prog 6 #[.int .u64 a0, .int .u64 a1, .int .i64 a2] w fun e w' => e = .returned (.bool true) ∧ Below w.heap.size w w' := by
  have hx : 0 ≤ a0 ∧ a0 ≤ 18446744073709551615 := by simpa [Lit.wf, IntKind.min, IntKind.max, IntKind.signed, IntKind.bits] using w0
  have hy : 0 ≤ a1 ∧ a1 ≤ 18446744073709551615 := by simpa [Lit.wf, IntKind.min, IntKind.max, IntKind.signed, IntKind.bits] using w1
  obtain ⟨x0, x1⟩ := hx
  obtain ⟨y0, y1⟩ := hy
  clear w0 w1
  have hB := Below.refl w.heap.size w
  obtain ⟨s, hs⟩ : ∃ s, V.put a0.toNat = s := ⟨_, rfl⟩
  obtain ⟨c, hc⟩ : ∃ c : Int, ((V.put a1.toNat).size : Int) = c := ⟨_, rfl⟩
  obtain ⟨m0, m1⟩ := i64_mask a2
  have s1 : 1 ≤ s.size := by rw [← hs, V.put_size]; exact V.puts_pos _
  have s2 : s.size ≤ 10 := by rw [← hs, V.put_size]; exact V.puts_len _ (by omega)
  have up : a0 ≤ a1 → (s.size : Int) ≤ c := by
    intro h
    rw [← hs, ← hc, V.put_size, V.put_size]
    exact Int.ofNat_le.2 (V.puts_mono _ _ (by omega))
  have down : a1 ≤ a0 → c ≤ (s.size : Int) := by
    intro h
    rw [← hs, ← hc, V.put_size, V.put_size]
    exact Int.ofNat_le.2 (V.puts_mono _ _ (by omega))
  have k0 : 0 ≤ bits .and .i64 a2 65535 % (s.size : Int) := Int.emod_nonneg _ (by omega)
  have k1 : bits .and .i64 a2 65535 % (s.size : Int) < (s.size : Int) := Int.emod_lt_of_pos _ (by omega)
  have k2 : bits .and .i64 a2 65535 % (s.size : Int) ≤ (s.size : Int) := by omega
  have K3 : Hid ((bits .and .i64 a2 65535 % (s.size : Int)).toNat < s.size) := by show _ < _; omega
  have HSZ : Hid (((V.put a0.toNat).size : Int) = (s.size : Int)) := by rw [hs]; exact rfl
  have HS := Lib.hid hs
  have HC := Lib.hid hc
  clear hs hc
  have ways : (a0 < a1 ∧ (s.size : Int) ≤ c) ∨ (a0 ≤ a1 ∧ a1 ≤ a0 ∧ (s.size : Int) ≤ c ∧ c ≤ (s.size : Int)) ∨ (a1 < a0 ∧ c ≤ (s.size : Int)) := by omega
  clear up down
  have X0 := Lib.hid x0
  have X1 := Lib.hid x1
  have Y0 := Lib.hid y0
  have Y1 := Lib.hid y1
  rcases ways with ⟨q1, q2⟩ | ⟨q1, q2, q3, q4⟩ | ⟨q1, q2⟩
  all_goals
    go_enter Try.func6, Try.ntmps6
    go_wp2_with (first
      | (go_at_call 11; refine (put_is _ _ _ X0.out X1.out HS).mono ?_; rintro e w' ⟨rfl, hb⟩; replace hB := acc hB hb; clear hb)
      | (go_at_call 13; (first | (with_reducible refine (size_at _ _ _ X0.out X1.out HSZ).mono ?_) | (with_reducible refine (size_at _ _ _ Y0.out Y1.out HC).mono ?_)); rintro e w' ⟨rfl, hb⟩; replace hB := acc hB hb; clear hb)
      | (go_at_call 19; refine (cut_short a0.toNat _ _ _ (by have := X1.out; omega) HS K3.out).mono ?_; rintro e w' ⟨rfl, rfl⟩)
      | (go_at_call 18; refine (fixed_any _).mono ?_; rintro e w' ⟨rfl, hb⟩; replace hB := acc hB hb; clear hb))
    go_ret
    exact ⟨rfl, hB⟩

set_option maxRecDepth 100000 in
theorem lifted (os : Os) (started : os.Started) (H : Type) (enc : TypeId × Value → H) :
    ReturnsInHanded {} Try.checked os 6 .any (Rows.varintOrderSpec.pre6 enc Try.prog Try.f6 Rows.varintOrderRow.domain false) (Rows.varintOrderSpec.post enc Try.prog Try.f6 false true false false) := by
  refine returnsInHanded_of_change (C := Try.checked) own started (by kernel_rfl) Try.func6
    (ChangeSpec.witness6 (enc := enc) (C := Try.checked) false ⟨#[], #[.int .u64 0, .int .u64 0, .int .i64 0], []⟩ 8 (by kernel_rfl) (by kernel_rfl) (by kernel_rfl) (by kernel_rfl)) ?_
  intro W base args ds gs before hval0 hW _ _
  have hval : ∀ (j : Nat) t v, Try.f6.params[j]? = some t → args[j]? = some v → Value.okWide Try.prog W .any base t v := hval0
  have hW' := hW
  obtain ⟨p, q, hA0, hV, rfl, hfz, hnd⟩ := hW
  have hA : DataW.TrodAll enc Try.prog W 0 (fun _ => true) true Try.f6.params.toList args.toList ds p := hA0
  rw [Try.params6] at hA hval
  obtain ⟨v0, vs0, d0, ds0, p0, q0, hargs, rfl, rfl, h0, r0⟩ := trodAll_cons hA
  obtain ⟨v1, vs1, d1, ds1, p1, q1, rfl, rfl, rfl, h1, r1⟩ := trodAll_cons r0
  obtain ⟨v2, vs2, d2, ds2, p2, q2, rfl, rfl, rfl, h2, r2⟩ := trodAll_cons r1
  obtain ⟨rfl, rfl, rfl⟩ := trodAll_nil r2
  obtain rfl : args = #[v0, v1, v2] := by cases args; simp_all
  obtain ⟨rfl, rfl⟩ := trodVars_none hV
  obtain ⟨a0, rfl, rfl, rfl, w0⟩ := open_int Try.underlying22 (hval 0 22 v0 rfl rfl) h0
  obtain ⟨a1, rfl, rfl, rfl, w1⟩ := open_int Try.underlying22 (hval 1 22 v1 rfl rfl) h1
  obtain ⟨a2, rfl, rfl, rfl, w2⟩ := open_int Try.underlying3 (hval 2 3 v2 rfl rfl) h2
  clear hA0 hval0
  simp only [List.append_nil] at hW'
  refine (walk a0 a1 a2 w0 w1 w2 W).mono fun e W' ⟨he, bel⟩ => ?_
  subst he
  exact ⟨_, rfl, _, _, _, [], [], [], hW', trodAll_mk1 (shut_bool Try.underlying4 _), (trodAll_cons_mk (shut_int Try.underlying22 w0) (trodAll_cons_mk (shut_int Try.underlying22 w1) (trodAll_cons_mk (shut_int Try.underlying3 w2) trodAll_mk0))), rfl, bel.frame _, fun h => by cases h⟩

theorem over : Rows.varintOrderRow.holds Try.pinned (OpenSpec.ofChange Rows.varintOrderSpec) :=
  OpenClaim.holds_of_wide 6 Try.f6 rfl rfl rfl rfl rfl rfl rfl ⟨rfl, rfl, rfl, rfl, rfl⟩ rfl rfl rfl rfl rfl (by kernel_rfl) Try.func6 (by kernel_rfl)
    (of_decide_eq_true (by kernel_rfl)) (by unfold Func.isWrapper; first | (rw [if_pos (by decide +kernel)]; kernel_rfl) | (rw [if_neg (by decide +kernel)]; exact ⟨rfl, rfl⟩))
    (fun os started H enc _ => lifted os started H enc)

/-- the statement -/
theorem proved : Rows.VarintOrderSaid :=
  over
#print axioms proved
end Go.Proofs.Ytngdbjapiiijgaa.varintOrder
