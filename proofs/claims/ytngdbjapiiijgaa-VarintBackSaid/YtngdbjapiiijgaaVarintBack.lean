/-
  Proved: for every number and any bytes ahead and behind (the first 1000 of each), the number put between them is got at its place as it was, with the place behind it; what is got at the beginning of the bytes behind, put, is the bytes that it was got of, and where nothing is got nothing is told; and the fixed calls answer as they must. No condition.
-/
import Derived.Test.YtngdbjapiiijgaaRows
import Derived.WalkKit
import Derived.ProofKit
import Derived.OpenShut
import Derived.ShutString
import Derived.ChangeOld
import Derived.Below
import Derived.Test.YtngdbjapiiijgaaFixed
import Derived.Test.YtngdbjapiiijgaaMath2
import Derived.Deep.RegionHeld3
namespace Go.Proofs.Ytngdbjapiiijgaa.varintBack
open Go.ChangeShapes Go.WideShapes Go.ChangeAt Go.RowKit
open Go.ChangeMaps (open_string shut_string)

theorem own : ownKnob Try.prog.godebug = none := by kernel_rfl

theorem put_is (n : Int) (s : ByteArray) (w : World) (h0 : 0 ≤ n) (h1 : n ≤ 18446744073709551615) (h : Hid (V.put n.toNat = s)) :
    Calls Try.prog 11 #[.int .u64 n] w fun e w' => e = .returned (.string s) ∧ Below w.heap.size w w' := by
  have k := put_any n w h0 h1
  rw [h.out] at k
  exact k
theorem mid_is (n : Int) (t s b : ByteArray) (w : World) (h0 : 0 ≤ n) (h1 : n ≤ 18446744073709551615) (ht : t.size ≤ 1000) (hs : s.size ≤ 10) (hb : b.size ≤ 1000) (h : Hid (V.put n.toNat = s)) :
    Calls Try.prog 19 #[.string (t ++ s ++ b), .int .i64 t.size] w fun e w' => e = .returned (.tuple #[.int .u64 n, .int .i64 ((t.size : Int) + s.size), .int .i64 0]) ∧ w = w' := by
  have hn : V.nats (t ++ s ++ b) = V.nats t ++ (V.puts n.toNat ++ V.nats b) := by
    rw [V.nats_append, V.nats_append, ← h.out, V.nats_put, List.append_assoc]
  have k := V.get_at (by omega) hn
  rw [V.nats_len, ← V.put_size, h.out] at k
  have r := get_is _ _ w (by rw [ByteArray.size_append, ByteArray.size_append]; unfold maxLen; omega) _ _ _ (Lib.hid k)
  rw [show ((n.toNat : Nat) : Int) = n by omega] at r
  exact r

theorem first_err {b : ByteArray} {k : Nat} {to f : Int} (h : V.get b 0 = (k, to, f)) (hf : f ≠ 0) : k = 0 ∧ to = 0 := by
  unfold V.get at h
  rw [if_neg (by omega)] at h
  obtain ⟨r, hr⟩ : ∃ r, V.got ((V.nats b).drop (0 : Int).toNat) 0 0 = r := ⟨_, rfl⟩
  rw [hr] at h
  simp only [Prod.mk.injEq] at h
  obtain ⟨rfl, rfl, rfl⟩ := h
  have e := V.got_err _ 0 0 r.1 r.2.1 r.2.2 (by rw [hr]) (by omega)
  refine ⟨e.1, ?_⟩
  unfold V.behind
  rw [if_neg (by omega)]

theorem first_ok {b : ByteArray} {k : Nat} {to : Int} (h : V.get b 0 = (k, to, 0)) : 0 < to ∧ to ≤ b.size ∧ b.extract 0 to.toNat = V.put k := by
  unfold V.get at h
  rw [if_neg (by omega)] at h
  obtain ⟨r, hr⟩ : ∃ r, V.got ((V.nats b).drop (0 : Int).toNat) 0 0 = r := ⟨_, rfl⟩
  rw [hr] at h
  simp only [Prod.mk.injEq] at h
  obtain ⟨rfl, h2, h3⟩ := h
  have h3' : r.2.2 = 0 := by omega
  rw [Int.toNat_zero, List.drop_zero] at hr
  obtain ⟨n, e1, e2, e3, e4, _⟩ := V.got_ok (V.nats b) 0 0 r.1 r.2.1 (V.nats_byte b) (by decide) (by rw [hr, ← h3'])
  have hn : r.1 = n := by simpa using e1
  unfold V.behind at h2
  rw [if_pos h3'] at h2
  rw [V.nats_len] at e3
  have hp := V.puts_pos n
  refine ⟨by omega, by omega, ?_⟩
  apply V.nats_inj
  rw [V.nats_extract, V.nats_put, hn, List.drop_zero, ← e4]
  congr 1
  omega

set_option maxRecDepth 100000 in
set_option maxHeartbeats 2000000 in
theorem walk (a0 : Int) (a1 : ByteArray) (a2 : ByteArray) (w0 : (Lit.int .u64 a0).wf = true) (w1 : a1.size ≤ maxLen) (w2 : a2.size ≤ maxLen) (w : World) :
    Calls Try.prog 5 #[.int .u64 a0, .string a1, .string a2] w fun e w' => e = .returned (.bool true) ∧ Below w.heap.size w w' := by
  have hx : 0 ≤ a0 ∧ a0 ≤ 18446744073709551615 := by simpa [Lit.wf, IntKind.min, IntKind.max, IntKind.signed, IntKind.bits] using w0
  obtain ⟨x0, x1⟩ := hx
  clear w0
  unfold maxLen at w1 w2
  have hB := Below.refl w.heap.size w
  obtain ⟨t, ht⟩ : ∃ t, a1.extract 0 (min (a1.size : Int) 1000).toNat = t := ⟨_, rfl⟩
  obtain ⟨b, hb⟩ : ∃ b, a2.extract 0 (min (a2.size : Int) 1000).toNat = b := ⟨_, rfl⟩
  have t1 : t.size ≤ 1000 := by rw [← ht, ByteArray.size_extract]; omega
  have b1 : b.size ≤ 1000 := by rw [← hb, ByteArray.size_extract]; omega
  obtain ⟨s, hs⟩ : ∃ s, V.put a0.toNat = s := ⟨_, rfl⟩
  have s2 : s.size ≤ 10 := by rw [← hs, V.put_size]; exact V.puts_len _ (by omega)
  have HS := Lib.hid hs
  clear hs
  obtain ⟨k, to, f, hg⟩ : ∃ k to f, V.get b 0 = (k, to, f) := ⟨_, _, _, rfl⟩
  have HG := Lib.hid hg
  obtain ⟨k1, to0, to1⟩ := V.get_some hg
  clear hg
  have X0 := Lib.hid x0
  have X1 := Lib.hid x1
  by_cases hf : f = 0
  · subst hf
    obtain ⟨q1, q2, q3⟩ := first_ok HG.out
    obtain ⟨p, hp⟩ : ∃ p, V.put k = p := ⟨_, rfl⟩
    rw [hp] at q3
    have HP : Hid (V.put (k : Int).toNat = p) := by rw [Int.toNat_natCast]; exact hp
    clear hp
    have d1 : decide (0 < to) = true := by simpa using q1
    have d2 : decide (to ≤ (b.size : Int)) = true := by simpa using q2
    go_enter Try.func5, Try.ntmps5
    go_wp2_with (first
      | (go_at_call 11; (with_reducible refine (put_is _ _ _ X0.out X1.out HS).mono ?_); rintro e w' ⟨rfl, hb⟩; replace hB := acc hB hb; clear hb)
      | (go_at_call 19; (first | (with_reducible refine (mid_is _ _ _ _ _ X0.out X1.out t1 s2 b1 HS).mono ?_) | (with_reducible refine (get_is _ _ _ (by unfold maxLen; omega) _ _ _ HG).mono ?_)); rintro e w' ⟨rfl, rfl⟩))
    have K1 : Hid ((k : Int) ≤ 18446744073709551615) := by show (_ : Int) ≤ _; omega
    have K0 : Hid (0 ≤ (k : Int)) := by show (_ : Int) ≤ _; omega
    clear k1
    clear ht hb X0 X1 HS HG t1 b1 s2 x0 x1 to1 w1 w2 q1
    go_region_held3 (fun w' => Below w.heap.size w w')
      (first
        | assumption
        | exact Below.drew (by assumption)
        | exact acc (by assumption) (by assumption)
        | exact acc (Below.drew (by assumption)) (by assumption))
      (first
        | (go_at_call 11; (with_reducible refine (put_is _ _ _ K0.out K1.out HP).mono ?_); rintro e w1 ⟨rfl, hb1⟩)
        | (go_at_call 18; (refine (fixed_any _).mono ?_); rintro e w2 ⟨rfl, hb2⟩))
    go_wp2_with fail
    go_ret
    exact ⟨rfl, by assumption⟩
  · obtain ⟨rfl, rfl⟩ := first_err HG.out hf
    have d1 : (f != 0) = true := by simpa using hf
    clear hf
    go_enter Try.func5, Try.ntmps5
    go_wp2_with (first
      | (go_at_call 11; (with_reducible refine (put_is _ _ _ X0.out X1.out HS).mono ?_); rintro e w' ⟨rfl, hb⟩; replace hB := acc hB hb; clear hb)
      | (go_at_call 19; (first | (with_reducible refine (mid_is _ _ _ _ _ X0.out X1.out t1 s2 b1 HS).mono ?_) | (with_reducible refine (get_is _ _ _ (by unfold maxLen; omega) _ _ _ HG).mono ?_)); rintro e w' ⟨rfl, rfl⟩)
      | (go_at_call 18; refine (fixed_any _).mono ?_; rintro e w' ⟨rfl, hb⟩; replace hB := acc hB hb; clear hb))
    go_ret
    exact ⟨rfl, hB⟩

set_option maxRecDepth 100000 in
theorem lifted (os : Os) (started : os.Started) (H : Type) (enc : TypeId × Value → H) :
    ReturnsInHanded {} Try.checked os 5 .any (Rows.varintBackSpec.pre6 enc Try.prog Try.f5 Rows.varintBackRow.domain false) (Rows.varintBackSpec.post enc Try.prog Try.f5 false true false false) := by
  refine returnsInHanded_of_change (C := Try.checked) own started (by kernel_rfl) Try.func5
    (ChangeSpec.witness6 (enc := enc) (C := Try.checked) false ⟨#[], #[.int .u64 0, .string ByteArray.empty, .string ByteArray.empty], []⟩ 8 (by kernel_rfl) (by kernel_rfl) (by kernel_rfl) (by kernel_rfl)) ?_
  intro W base args ds gs before hval0 hW _ _
  have hval : ∀ (j : Nat) t v, Try.f5.params[j]? = some t → args[j]? = some v → Value.okWide Try.prog W .any base t v := hval0
  have hW' := hW
  obtain ⟨p, q, hA0, hV, rfl, hfz, hnd⟩ := hW
  have hA : DataW.TrodAll enc Try.prog W 0 (fun _ => true) true Try.f5.params.toList args.toList ds p := hA0
  rw [Try.params5] at hA hval
  obtain ⟨v0, vs0, d0, ds0, p0, q0, hargs, rfl, rfl, h0, r0⟩ := trodAll_cons hA
  obtain ⟨v1, vs1, d1, ds1, p1, q1, rfl, rfl, rfl, h1, r1⟩ := trodAll_cons r0
  obtain ⟨v2, vs2, d2, ds2, p2, q2, rfl, rfl, rfl, h2, r2⟩ := trodAll_cons r1
  obtain ⟨rfl, rfl, rfl⟩ := trodAll_nil r2
  obtain rfl : args = #[v0, v1, v2] := by cases args; simp_all
  obtain ⟨rfl, rfl⟩ := trodVars_none hV
  obtain ⟨a0, rfl, rfl, rfl, w0⟩ := open_int Try.underlying22 (hval 0 22 v0 rfl rfl) h0
  obtain ⟨a1, rfl, rfl, rfl, w1⟩ := open_string Try.underlying9 (hval 1 9 v1 rfl rfl) h1
  obtain ⟨a2, rfl, rfl, rfl, w2⟩ := open_string Try.underlying9 (hval 2 9 v2 rfl rfl) h2
  clear hA0 hval0
  simp only [List.append_nil] at hW'
  refine (walk a0 a1 a2 w0 w1 w2 W).mono fun e W' ⟨he, bel⟩ => ?_
  subst he
  exact ⟨_, rfl, _, _, _, [], [], [], hW', trodAll_mk1 (shut_bool Try.underlying4 _), (trodAll_cons_mk (shut_int Try.underlying22 w0) (trodAll_cons_mk (shut_string Try.underlying9 w1) (trodAll_cons_mk (shut_string Try.underlying9 w2) trodAll_mk0))), rfl, bel.frame _, fun h => by cases h⟩

theorem over : Rows.varintBackRow.holds Try.pinned (OpenSpec.ofChange Rows.varintBackSpec) :=
  OpenClaim.holds_of_wide 5 Try.f5 rfl rfl rfl rfl rfl rfl rfl ⟨rfl, rfl, rfl, rfl, rfl⟩ rfl rfl rfl rfl rfl (by kernel_rfl) Try.func5 (by kernel_rfl)
    (of_decide_eq_true (by kernel_rfl)) (by unfold Func.isWrapper; first | (rw [if_pos (by decide +kernel)]; kernel_rfl) | (rw [if_neg (by decide +kernel)]; exact ⟨rfl, rfl⟩))
    (fun os started H enc _ => lifted os started H enc)

/-- the statement -/
theorem proved : Rows.VarintBackSaid :=
  over
#print axioms proved
end Go.Proofs.Ytngdbjapiiijgaa.varintBack
