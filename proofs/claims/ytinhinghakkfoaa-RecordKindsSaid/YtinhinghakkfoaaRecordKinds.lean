/-
  Proved: of a record that may be (cut to at most 80 and 600 bytes) its key with another value, or none and a tomb, may be, too; a tomb without a key may not; a record that may not be has no bytes; and the fixed calls answer as they must. No condition.
-/
import Derived.Test.YtinhinghakkfoaaRows
import Derived.WalkKit
import Derived.ProofKit
import Derived.OpenShut
import Derived.ShutString
import Derived.ChangeOld
import Derived.Below
import Derived.Test.YtinhinghakkfoaaRecFixed
import Derived.Test.YtinhinghakkfoaaRecOpen
import Derived.Test.YtinhinghakkfoaaRecCut
import Derived.Deep.RegionHeld3
namespace Go.Proofs.Ytinhinghakkfoaa.recordKinds
open Go.ChangeShapes Go.WideShapes Go.ChangeAt Go.RowKit
open Go.ChangeMaps (open_string shut_string)
open L3

theorem own : ownKnob Try.prog.godebug = none := by kernel_rfl
theorem laidOut : laidOutB Try.prog = true := by kernel_rfl

theorem check_is (hk : Bool) (k : ByteArray) (tb : Bool) (v : ByteArray) (x : Int) (w : World) (h1 : k.size ≤ 600) (h2 : v.size ≤ 600) (h : Hid (chk hk k tb v = x)) :
    Calls Try.prog 15 #[.agg #[.bool hk, .string k, .bool tb, .string v]] w fun e w' => e = .returned (.int .i64 x) ∧ Below w.heap.size w w' := by
  have c := check_any hk k tb v w (by unfold maxLen; omega) (by unfold maxLen; omega)
  rw [h.out] at c
  exact c
theorem kinds_a {hk tb : Bool} {k u v : ByteArray} (h : chk hk k tb u = 0) (hv : v.size ≤ 512) : chk hk k false v = 0 := by
  obtain ⟨q1, q2, q3, q4⟩ := chk_parts h
  cases hk
  · have := (q3 rfl).1
    show (if 0 < k.size then 30 else if 512 < v.size then 2 else 0 : Int) = 0
    rw [if_neg (by omega), if_neg (by omega)]
  · show (if 64 < k.size then 2 else if 512 < v.size then 2 else 0 : Int) = 0
    rw [if_neg (by omega), if_neg (by omega)]
theorem kinds_b {hk tb : Bool} {k u : ByteArray} (h : chk hk k tb u = 0) : chk hk k true ⟨#[]⟩ = if hk then 0 else 30 := by
  obtain ⟨q1, q2, q3, q4⟩ := chk_parts h
  cases hk
  · rfl
  · show (if 0 < (ByteArray.mk #[]).size then 30 else if 64 < k.size then 2 else 0 : Int) = 0
    rw [if_neg (by decide), if_neg (by omega)]
set_option maxRecDepth 100000 in
set_option maxHeartbeats 8000000 in
theorem walk (hk : Bool) (k : ByteArray) (tb : Bool) (u : ByteArray) (s0 : k.size ≤ maxLen) (z0 : u.size ≤ maxLen) (a1 : ByteArray) (w1' : a1.size ≤ maxLen) (w : World) :
    Calls Try.prog 8 #[.agg #[.bool hk, .string k, .bool tb, .string u], .string a1] w fun e w' => e = .returned (.bool true) ∧ Below w.heap.size w w' := by
  have HS := Lib.hid s0
  have HZ := Lib.hid z0
  unfold maxLen at w1'
  obtain ⟨k', hk'⟩ : ∃ k', cutS k 80 = k' := ⟨_, rfl⟩
  obtain ⟨u', hu'⟩ : ∃ u', cutS u 600 = u' := ⟨_, rfl⟩
  obtain ⟨v, hv⟩ : ∃ v, a1.extract 0 (min (a1.size : Int) 512).toNat = v := ⟨_, rfl⟩
  have k1 : k'.size ≤ 80 := by rw [← hk']; exact cutS_size k 80
  have u1 : u'.size ≤ 600 := by rw [← hu']; exact cutS_size u 600
  have v1 : v.size ≤ 512 := by rw [← hv, ByteArray.size_extract]; omega
  have HK := Lib.hid hk'
  have HU := Lib.hid hu'
  obtain ⟨x, hx⟩ : ∃ x, chk hk k' tb u' = x := ⟨_, rfl⟩
  have HX := Lib.hid hx
  clear s0 z0 hk' hu' hx
  by_cases h : x = 0
  · subst h
    cases hk
    · have HA : Hid (chk false k' false v = 0) := Lib.hid (kinds_a HX.out v1)
      have HBt : Hid (chk false k' true ⟨#[]⟩ = 30) := Lib.hid (kinds_b HX.out)
      have HC30 : Hid (chk false ⟨#[]⟩ true ⟨#[]⟩ = 30) := Lib.hid rfl
      go_enter Try.func8, Try.ntmps8
      go_wp2_with (first
        | (go_at_call 9; refine (cut_any _ _ _ _ _ _ _ HS.out HZ.out HK.out HU.out).mono ?_; rintro e w1 ⟨rfl, hb1⟩; obtain ⟨hc1, hf1⟩ := box_cells hb1; have hz1 : w.heap.size < w1.heap.size := (by have := hb1.size; simp at this; omega); have hB := (one_box _).trans (hb1.mono (by simp)))
        | (go_at_call 15; (with_reducible refine (check_is _ _ _ _ _ _ (by omega) (by omega) HX).mono ?_); rintro e w2 ⟨rfl, hb2⟩; obtain ⟨hc2, hf2⟩ := box_cells hb2; have hz2 : w.heap.size < w2.heap.size := (by have := hb2.size; simp at this; omega); have hB2 : Below w.heap.size w w2 := Below.trans (by (repeat (first | with_reducible assumption | with_reducible exact Below.refl _ _ | refine Below.drew ?_ | refine Below.setCell ?_ (by first | omega | (simp; omega) | simp) _ | refine Below.alloc ?_ (by first | omega | (simp; omega) | simp) _))) (hb2.mono (by simp; omega))))
      have hT : ∀ w', Below w2.heap.size w2 w' → ((w'.cell? ⟨w.heap.size, 0, none⟩ = some (.bool false) ∧ w'.cell? ⟨w.heap.size, 1, none⟩ = some (.string k') ∧ w'.cell? ⟨w.heap.size, 2, none⟩ = some (.bool tb) ∧ w'.cell? ⟨w.heap.size, 3, none⟩ = some (.string u')) ∧ Below w2.heap.size w2 w') := fun w' hb => by
        have a := fun i => hb.cell (p := ⟨w.heap.size, i, none⟩) hz2
        exact ⟨⟨(a 0).trans (by simp [go_sem, hc1, hc2, hz1]), (a 1).trans (by simp [go_sem, hc1, hc2, hz1]), (a 2).trans (by simp [go_sem, hc1, hc2, hz1]), (a 3).trans (by simp [go_sem, hc1, hc2, hz1])⟩, hb⟩
      have HT := Lib.hid hT
      clear hT hc1 hf1 hc2 hf2
      go_region_held3 (fun w' => ((w'.cell? ⟨w.heap.size, 0, none⟩ = some (.bool false) ∧ w'.cell? ⟨w.heap.size, 1, none⟩ = some (.string k') ∧ w'.cell? ⟨w.heap.size, 2, none⟩ = some (.bool tb) ∧ w'.cell? ⟨w.heap.size, 3, none⟩ = some (.string u')) ∧ Below w2.heap.size w2 w'))
        (first | with_reducible assumption | exact HT.out _ (by (repeat (first | with_reducible assumption | with_reducible exact Below.refl _ _ | refine Below.drew ?_ | refine Below.setCell ?_ (by first | omega | (simp; omega) | simp) _ | refine Below.alloc ?_ (by first | omega | (simp; omega) | simp) _))))
        (fail)
      all_goals
        obtain ⟨⟨e0, e1, e2, e3⟩, _⟩ := HT.out w2 (Below.refl _ _)
        have l0 : w.heap.size < w2.heap.size + 1 := by omega
        have l1 : w.heap.size < w2.heap.size + 1 + 1 := by omega
        have l2 : w.heap.size ≤ w2.heap.size := by omega
        have l3 : w.heap.size ≤ w2.heap.size + 1 := by omega
        have l4 : w.heap.size ≠ w2.heap.size := by omega
        have l5 : w.heap.size ≠ w2.heap.size + 1 := by omega
        have l6 : w.heap.size ≠ w2.heap.size + 1 + 1 := by omega
        clear HT
        go_wp2_with (first
          | (go_at_call 15; (with_reducible refine (check_is _ _ _ _ _ _ (by omega) (by omega) HA).mono ?_); rintro e w3 ⟨rfl, hb3⟩; obtain ⟨hc3, hf3⟩ := box_cells hb3; have y0 : w2.heap.size < w3.heap.size := (by have := hb3.size; simp at this; omega); have y1 : w2.heap.size + 1 < w3.heap.size := (by have := hb3.size; simp at this; omega); have y2 : w2.heap.size + 1 + 1 < w3.heap.size := (by have := hb3.size; simp at this; omega); have hB3 : Below w.heap.size w w3 := Below.trans (by (repeat (first | with_reducible assumption | with_reducible exact Below.refl _ _ | refine Below.drew ?_ | refine Below.setCell ?_ (by first | omega | (simp; omega) | simp) _ | refine Below.alloc ?_ (by first | omega | (simp; omega) | simp) _))) (hb3.mono (by simp; omega)))
          | (go_at_call 15; (with_reducible refine (check_is _ _ _ _ _ _ (by omega) (by decide) HBt).mono ?_); rintro e w4 ⟨rfl, hb4⟩; obtain ⟨hc4, hf4⟩ := box_cells hb4; have hB4 := acc hB3 hb4)
          | (go_at_call 15; (with_reducible refine (check_is false _ true _ 30 _ (by decide) (by decide) HC30).mono ?_); rintro e w5 ⟨rfl, hb5⟩; have hB5 := acc hB4 hb5)
          | (go_at_call 21; refine (fixed3_any _).mono ?_; rintro e wf ⟨rfl, hbf⟩; have hB6 := acc hB5 hbf))
        go_ret
        exact ⟨rfl, hB6⟩
    · have HA : Hid (chk true k' false v = 0) := Lib.hid (kinds_a HX.out v1)
      have HBt : Hid (chk true k' true ⟨#[]⟩ = 0) := Lib.hid (kinds_b HX.out)
      have HC30 : Hid (chk false ⟨#[]⟩ true ⟨#[]⟩ = 30) := Lib.hid rfl
      go_enter Try.func8, Try.ntmps8
      go_wp2_with (first
        | (go_at_call 9; refine (cut_any _ _ _ _ _ _ _ HS.out HZ.out HK.out HU.out).mono ?_; rintro e w1 ⟨rfl, hb1⟩; obtain ⟨hc1, hf1⟩ := box_cells hb1; have hz1 : w.heap.size < w1.heap.size := (by have := hb1.size; simp at this; omega); have hB := (one_box _).trans (hb1.mono (by simp)))
        | (go_at_call 15; (with_reducible refine (check_is _ _ _ _ _ _ (by omega) (by omega) HX).mono ?_); rintro e w2 ⟨rfl, hb2⟩; obtain ⟨hc2, hf2⟩ := box_cells hb2; have hz2 : w.heap.size < w2.heap.size := (by have := hb2.size; simp at this; omega); have hB2 : Below w.heap.size w w2 := Below.trans (by (repeat (first | with_reducible assumption | with_reducible exact Below.refl _ _ | refine Below.drew ?_ | refine Below.setCell ?_ (by first | omega | (simp; omega) | simp) _ | refine Below.alloc ?_ (by first | omega | (simp; omega) | simp) _))) (hb2.mono (by simp; omega))))
      have hT : ∀ w', Below w2.heap.size w2 w' → ((w'.cell? ⟨w.heap.size, 0, none⟩ = some (.bool true) ∧ w'.cell? ⟨w.heap.size, 1, none⟩ = some (.string k') ∧ w'.cell? ⟨w.heap.size, 2, none⟩ = some (.bool tb) ∧ w'.cell? ⟨w.heap.size, 3, none⟩ = some (.string u')) ∧ Below w2.heap.size w2 w') := fun w' hb => by
        have a := fun i => hb.cell (p := ⟨w.heap.size, i, none⟩) hz2
        exact ⟨⟨(a 0).trans (by simp [go_sem, hc1, hc2, hz1]), (a 1).trans (by simp [go_sem, hc1, hc2, hz1]), (a 2).trans (by simp [go_sem, hc1, hc2, hz1]), (a 3).trans (by simp [go_sem, hc1, hc2, hz1])⟩, hb⟩
      have HT := Lib.hid hT
      clear hT hc1 hf1 hc2 hf2
      go_region_held3 (fun w' => ((w'.cell? ⟨w.heap.size, 0, none⟩ = some (.bool true) ∧ w'.cell? ⟨w.heap.size, 1, none⟩ = some (.string k') ∧ w'.cell? ⟨w.heap.size, 2, none⟩ = some (.bool tb) ∧ w'.cell? ⟨w.heap.size, 3, none⟩ = some (.string u')) ∧ Below w2.heap.size w2 w'))
        (first | with_reducible assumption | exact HT.out _ (by (repeat (first | with_reducible assumption | with_reducible exact Below.refl _ _ | refine Below.drew ?_ | refine Below.setCell ?_ (by first | omega | (simp; omega) | simp) _ | refine Below.alloc ?_ (by first | omega | (simp; omega) | simp) _))))
        (fail)
      all_goals
        obtain ⟨⟨e0, e1, e2, e3⟩, _⟩ := HT.out w2 (Below.refl _ _)
        have l0 : w.heap.size < w2.heap.size + 1 := by omega
        have l1 : w.heap.size < w2.heap.size + 1 + 1 := by omega
        have l2 : w.heap.size ≤ w2.heap.size := by omega
        have l3 : w.heap.size ≤ w2.heap.size + 1 := by omega
        have l4 : w.heap.size ≠ w2.heap.size := by omega
        have l5 : w.heap.size ≠ w2.heap.size + 1 := by omega
        have l6 : w.heap.size ≠ w2.heap.size + 1 + 1 := by omega
        clear HT
        go_wp2_with (first
          | (go_at_call 15; (with_reducible refine (check_is _ _ _ _ _ _ (by omega) (by omega) HA).mono ?_); rintro e w3 ⟨rfl, hb3⟩; obtain ⟨hc3, hf3⟩ := box_cells hb3; have y0 : w2.heap.size < w3.heap.size := (by have := hb3.size; simp at this; omega); have y1 : w2.heap.size + 1 < w3.heap.size := (by have := hb3.size; simp at this; omega); have y2 : w2.heap.size + 1 + 1 < w3.heap.size := (by have := hb3.size; simp at this; omega); have hB3 : Below w.heap.size w w3 := Below.trans (by (repeat (first | with_reducible assumption | with_reducible exact Below.refl _ _ | refine Below.drew ?_ | refine Below.setCell ?_ (by first | omega | (simp; omega) | simp) _ | refine Below.alloc ?_ (by first | omega | (simp; omega) | simp) _))) (hb3.mono (by simp; omega)))
          | (go_at_call 15; (with_reducible refine (check_is _ _ _ _ _ _ (by omega) (by decide) HBt).mono ?_); rintro e w4 ⟨rfl, hb4⟩; obtain ⟨hc4, hf4⟩ := box_cells hb4; have hB4 := acc hB3 hb4)
          | (go_at_call 15; (with_reducible refine (check_is false _ true _ 30 _ (by decide) (by decide) HC30).mono ?_); rintro e w5 ⟨rfl, hb5⟩; have hB5 := acc hB4 hb5)
          | (go_at_call 21; refine (fixed3_any _).mono ?_; rintro e wf ⟨rfl, hbf⟩; have hB6 := acc hB5 hbf))
        go_ret
        exact ⟨rfl, hB6⟩
  · have hx1 : (x != 0) = true := by simpa using h
    have HP : Hid (putT hk k' tb u' = ⟨#[]⟩) := Lib.hid (by unfold putT; rw [if_neg (by rw [HX.out]; exact h)])
    clear h
    go_enter Try.func8, Try.ntmps8
    go_wp2_with (first
      | (go_at_call 9; refine (cut_any _ _ _ _ _ _ _ HS.out HZ.out HK.out HU.out).mono ?_; rintro e w1 ⟨rfl, hb1⟩; obtain ⟨hc1, hf1⟩ := box_cells hb1; have hz1 : w.heap.size < w1.heap.size := (by have := hb1.size; simp at this; omega); have hB := (one_box _).trans (hb1.mono (by simp)))
      | (go_at_call 15; (with_reducible refine (check_is _ _ _ _ _ _ (by omega) (by omega) HX).mono ?_); rintro e w2 ⟨rfl, hb2⟩; obtain ⟨hc2, hf2⟩ := box_cells hb2; have hz2 : w.heap.size < w2.heap.size := (by have := hb2.size; simp at this; omega); have hB2 : Below w.heap.size w w2 := Below.trans (by (repeat (first | with_reducible assumption | with_reducible exact Below.refl _ _ | refine Below.drew ?_ | refine Below.setCell ?_ (by first | omega | (simp; omega) | simp) _ | refine Below.alloc ?_ (by first | omega | (simp; omega) | simp) _))) (hb2.mono (by simp; omega)))
      | (go_at_call 19; refine (size_is _ _ _ _ _ _ (by unfold maxLen; omega) (by unfold maxLen; omega) HP).mono ?_; rintro e w3 ⟨rfl, hb3⟩; replace hB2 := acc hB2 hb3)
      | (go_at_call 21; refine (fixed3_any _).mono ?_; rintro e wf ⟨rfl, hbf⟩; replace hB2 := acc hB2 hbf))
    go_ret
    exact ⟨rfl, hB2⟩

set_option maxRecDepth 100000 in
theorem lifted (os : Os) (started : os.Started) (H : Type) (enc : TypeId × Value → H) :
    ReturnsInHanded {} Try.checked os 8 .any (Rows.recordKindsSpec.pre6 enc Try.prog Try.f8 Rows.recordKindsRow.domain false) (Rows.recordKindsSpec.post enc Try.prog Try.f8 false true false false) := by
  refine returnsInHanded_of_change (C := Try.checked) own started (by kernel_rfl) Try.func8
    (ChangeSpec.witness6 (enc := enc) (C := Try.checked) false ⟨#[], #[.agg #[.bool false, .string ByteArray.empty, .bool false, .string ByteArray.empty], .string ByteArray.empty], []⟩ 8 (by kernel_rfl) (by kernel_rfl) (by kernel_rfl) (by kernel_rfl)) ?_
  intro W base args ds gs before hval0 hW _ _
  have hval : ∀ (j : Nat) t v, Try.f8.params[j]? = some t → args[j]? = some v → Value.okWide Try.prog W .any base t v := hval0
  have hW' := hW
  obtain ⟨p, q, hA0, hV, rfl, hfz, hnd⟩ := hW
  have hA : DataW.TrodAll enc Try.prog W 0 (fun _ => true) true Try.f8.params.toList args.toList ds p := hA0
  rw [Try.params8] at hA hval
  obtain ⟨v0, vs0, d0, ds0, p0, q0, hargs, rfl, rfl, h0, r0⟩ := trodAll_cons hA
  obtain ⟨v1, vs1, d1, ds1, p1, q1, rfl, rfl, rfl, h1, r1⟩ := trodAll_cons r0
  obtain ⟨rfl, rfl, rfl⟩ := trodAll_nil r1
  obtain rfl : args = #[v0, v1] := by cases args; simp_all
  obtain ⟨rfl, rfl⟩ := trodVars_none hV
  have k0 := h0
  have lt0 : ∀ x ∈ p0, x.block < W.heap.size := by obtain ⟨m, hm⟩ := k0; exact DataW.trod_lt m _ _ _ hm
  have k1 := h1
  have lt1 : ∀ x ∈ p1, x.block < W.heap.size := by obtain ⟨m, hm⟩ := k1; exact DataW.trod_lt m _ _ _ hm
  obtain ⟨b0, k0_, t0, u0, e0, s0, z0⟩ := L3.open_rec (hval 0 23 v0 rfl rfl) h0
  subst e0
  obtain ⟨a1, e1, _, _, w1⟩ := open_string Try.underlying9 (hval 1 9 v1 rfl rfl) h1
  subst e1
  clear hA0 hval0
  refine (walk b0 k0_ t0 u0 s0 z0 a1 w1 W).mono fun e W' ⟨he, bel⟩ => ?_
  subst he
  exact ⟨_, rfl, _, _, _, [], _, [], hW', trodAll_mk1 (shut_bool Try.underlying4 _), (trodAll_cons_mk (Below.trod laidOut (by kernel_rfl) (of_decide_eq_true (by kernel_rfl)) k0 bel lt0) (trodAll_cons_mk (Below.trod laidOut (by kernel_rfl) (of_decide_eq_true (by kernel_rfl)) k1 bel lt1) trodAll_mk0)), rfl, bel.frame _, fun h => by cases h⟩

theorem over : Rows.recordKindsRow.holds Try.pinned (OpenSpec.ofChange Rows.recordKindsSpec) :=
  OpenClaim.holds_of_wide 8 Try.f8 rfl rfl rfl rfl rfl rfl rfl ⟨rfl, rfl, rfl, rfl, rfl⟩ rfl rfl rfl rfl rfl (by kernel_rfl) Try.func8 (by kernel_rfl)
    (of_decide_eq_true (by kernel_rfl)) (by unfold Func.isWrapper; first | (rw [if_pos (by decide +kernel)]; kernel_rfl) | (rw [if_neg (by decide +kernel)]; exact ⟨rfl, rfl⟩))
    (fun os started H enc _ => lifted os started H enc)

/-- the statement -/
theorem proved : Rows.RecordKindsSaid :=
  over
#print axioms proved
end Go.Proofs.Ytinhinghakkfoaa.recordKinds
