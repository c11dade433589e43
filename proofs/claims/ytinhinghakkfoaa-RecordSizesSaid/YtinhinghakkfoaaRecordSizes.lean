/-
  Proved: the bytes of a batch (at most 20 records of 80 and 600 bytes) are its numbers' and its records' sizes; cut short it is none; a batch that may not be has none; and the fixed calls answer as they must. No condition.
-/
import Derived.Test.YtinhinghakkfoaaRows
import Derived.WalkKit
import Derived.ProofKit
import Derived.OpenShut
import Derived.ShutString
import Derived.ChangeOld
import Derived.Below
import Derived.Test.YtinhinghakkfoaaRecFixed
import Derived.Test.YtinhinghakkfoaaRecOpen
import Derived.Test.YtinhinghakkfoaaRecBound
import Derived.Test.YtinhinghakkfoaaRecLaw
namespace Go.Proofs.Ytinhinghakkfoaa.recordSizes
open Go.ChangeShapes Go.WideShapes Go.ChangeAt Go.RowKit
open Go.ChangeMaps (open_string shut_string)
open L3

theorem own : ownKnob Try.prog.godebug = none := by kernel_rfl
theorem laidOut : laidOutB Try.prog = true := by kernel_rfl

theorem box_set {w1 : World} {H : Nat} {a b c d v0 v1 v2 v3 : Value} {T : TypeId} (h : w1.heap[H]? = some (.cells #[a, b, c, d] T (0, 0))) :
    ((((w1.setCell ⟨H, 0, none⟩ v0).setCell ⟨H, 1, none⟩ v1).setCell ⟨H, 2, none⟩ v2).setCell ⟨H, 3, none⟩ v3).heap[H]? = some (.cells #[v0, v1, v2, v3] T (0, 0)) :=
  heap_setCell_same _ H 3 _ _ v3 (heap_setCell_same _ H 2 _ _ v2 (heap_setCell_same _ H 1 _ _ v1 (heap_setCell_same _ H 0 _ _ v0 h)))
theorem own_set {w : World} {base k G : Nat} {T : TypeId} {m : Nat} {V : Value} {xs : List Value} (h : w.ownsRow base T m V k xs) (hG : G < base) (v0 v1 v2 v3 : Value) :
    ((((w.setCell ⟨G, 0, none⟩ v0).setCell ⟨G, 1, none⟩ v1).setCell ⟨G, 2, none⟩ v2).setCell ⟨G, 3, none⟩ v3).ownsRow base T m V k xs :=
  ownsRow_setCell_below (ownsRow_setCell_below (ownsRow_setCell_below (ownsRow_setCell_below h (a := ⟨G, 0, none⟩) hG v0) (a := ⟨G, 1, none⟩) hG v1) (a := ⟨G, 2, none⟩) hG v2) (a := ⟨G, 3, none⟩) hG v3
theorem below_set {w w1 : World} (h : Below w.heap.size w w1) (v0 v1 v2 v3 : Value) :
    Below w.heap.size w ((((w1.setCell ⟨w.heap.size, 0, none⟩ v0).setCell ⟨w.heap.size, 1, none⟩ v1).setCell ⟨w.heap.size, 2, none⟩ v2).setCell ⟨w.heap.size, 3, none⟩ v3) :=
  (((h.setCell (p := ⟨w.heap.size, 0, none⟩) (Nat.le_refl _) v0).setCell (p := ⟨w.heap.size, 1, none⟩) (Nat.le_refl _) v1).setCell (p := ⟨w.heap.size, 2, none⟩) (Nat.le_refl _) v2).setCell (p := ⟨w.heap.size, 3, none⟩) (Nat.le_refl _) v3

theorem i64_mask (x : Int) : 0 ≤ bits .and .i64 x 65535 ∧ bits .and .i64 x 65535 ≤ 65535 := by
  have e : (BitVec.ofInt 64 x &&& BitVec.ofInt 64 65535).toNat ≤ 65535 := by
    rw [BitVec.toNat_and]
    exact Nat.le_trans Nat.and_le_right (by decide)
  show 0 ≤ IntKind.i64.wrap ((BitVec.ofInt 64 x &&& BitVec.ofInt 64 65535).toNat : Int) ∧ IntKind.i64.wrap ((BitVec.ofInt 64 x &&& BitVec.ofInt 64 65535).toNat : Int) ≤ 65535
  rw [IntKind.wrap_i64]
  omega
/-- what is told where no batch stands -/
def ZPost (x : Int) (w : World) (e : Ending) (w' : World) : Prop :=
  ∃ A cap, e = .returned (.tuple #[.agg #[.int .i64 0, .int .i64 0, .int .i64 0, .slice A 0 cap], .int .i64 0, .int .i64 x]) ∧ Below w.heap.size w w'
theorem parse_zero (s : ByteArray) (a x : Int) (w : World) (hs : s.size ≤ 140737488355328) (HP : Hid (parse s a = (Bt.zero, 0, x))) :
    Calls Try.prog 24 #[.string s, .int .i64 a] w (ZPost x w) :=
  (parse_is s a _ _ _ w hs HP).mono fun _ _ ⟨A, cap, he, _, hb⟩ => ⟨A, cap, he, hb⟩
set_option maxRecDepth 100000 in
set_option maxHeartbeats 8000000 in
theorem walk (x0 y0 z0 : Int) (A0 : Option Addr) (l0 : List R) (c0 : Nat) (w : World) (R0 : IsRecs w A0 l0) (a1 : Int) (w1' : (Lit.int .i64 a1).wf = true) :
    Calls Try.prog 6 #[.agg #[.int .i64 x0, .int .i64 y0, .int .i64 z0, .slice A0 l0.length c0], .int .i64 a1] w fun e w' => e = .returned (.bool true) ∧ Below w.heap.size w w' := by
  obtain ⟨L, hL⟩ : ∃ L, (l0.take 20).map R.cut = L := ⟨_, rfl⟩
  have L20 : L.length ≤ 20 := by rw [← hL]; exact cutR_len l0
  have HM : Hid (∀ r ∈ L, r.key.size ≤ maxLen ∧ r.val.size ≤ maxLen) := Lib.hid (by rw [← hL]; exact cutR_max l0)
  have HL := Lib.hid hL
  obtain ⟨X, hX⟩ : ∃ X, allN x0 y0 z0 L = X := ⟨_, rfl⟩
  obtain ⟨T, hT⟩ : ∃ T, batP x0 y0 z0 L = T := ⟨_, rfl⟩
  have T1 : T.size ≤ 10000 := by rw [← hT]; exact batP_size _ _ _ _
  have HX := Lib.hid hX
  have HT := Lib.hid hT
  clear hL hX hT w1'
  by_cases h : X = 0
  · subst h
    obtain ⟨_, _, _, n0, n1, hall⟩ := allN_ok HX.out
    have HALL := Lib.hid hall
    have hT : batT x0 y0 z0 L = T := (batP_ok HX.out).symm.trans HT.out
    obtain ⟨t1, t2⟩ := bat_bounds HX.out
    rw [hT] at t1 t2
    obtain ⟨j, hj⟩ : ∃ j, (bits .and .i64 a1 65535 % (T.size : Int)).toNat = j := ⟨_, rfl⟩
    have m0 := (i64_mask a1).1
    have k0 : 0 ≤ bits .and .i64 a1 65535 % (T.size : Int) := Int.emod_nonneg _ (by omega)
    have k1 : bits .and .i64 a1 65535 % (T.size : Int) < (T.size : Int) := Int.emod_lt_of_pos _ (by omega)
    have k2 : bits .and .i64 a1 65535 % (T.size : Int) ≤ (T.size : Int) := by omega
    obtain ⟨b, to, xx, hp⟩ : ∃ b to xx, parse (T.extract 0 (bits .and .i64 a1 65535 % (T.size : Int)).toNat) 0 = (b, to, xx) := ⟨_, _, _, rfl⟩
    have hxx : xx ≠ 0 := by
      rw [← hT] at hp
      exact cut_none HX.out (by rw [hT]; omega) hp
    obtain ⟨rfl, rfl⟩ := parse_err hp hxx
    have HPn := Lib.hid hp
    have hxx1 : (xx != 0) = true := by simpa using hxx
    have q1 : ((sumL L : Nat) : Int) + 4 ≤ (T.size : Int) := by omega
    have q2 : (T.size : Int) ≤ ((sumL L : Nat) : Int) + 1 + 18 := by omega
    have q3 : (T.size : Int) ≤ 10000 := by omega
    have hz0 : (0 : Int) < (T.size : Int) := by omega
    clear hall hT hp hxx hj t1 t2
    go_enter Try.func6, Try.ntmps6
    go_wp2_with (first
      | (go_at_call 10; refine (bound_is _ _ _ _ _ _ _ _ _ (Lib.hid (R0.1.out.below (one_box _))) (by simp) R0.2.2 R0.2.1 HL).mono ?_; rintro e w1 ⟨A', cap', rfl, hown1, hb1⟩; have hz1 : w.heap.size < w1.heap.size := (by have := hb1.size; simp at this; omega); have hB1 : Below w.heap.size w w1 := (one_box _).trans (hb1.mono (by simp)); have hrow1 : w1.heap[w.heap.size]? = some (.cells #[.int .i64 x0, .int .i64 y0, .int .i64 z0, .slice A0 l0.length c0] 26 (0, 0)) := (hb1.block _ (by simp)).trans (heap_alloc_new _ _); have hc1 := cell_of_row w1 w.heap.size 0 _ _ _ hrow1; have hc2 := cell_of_row w1 w.heap.size 1 _ _ _ hrow1; have hc3 := cell_of_row w1 w.heap.size 2 _ _ _ hrow1; have hc4 := cell_of_row w1 w.heap.size 3 _ _ _ hrow1; have hf1 := frozen_of_row w1 w.heap.size 0 _ _ hrow1; have hf2 := frozen_of_row w1 w.heap.size 1 _ _ hrow1; have hf3 := frozen_of_row w1 w.heap.size 2 _ _ hrow1; have hf4 := frozen_of_row w1 w.heap.size 3 _ _ hrow1; have HW1 := Lib.hid (box_set (v0 := .int .i64 x0) (v1 := .int .i64 y0) (v2 := .int .i64 z0) (v3 := .slice A' L.length cap') hrow1); have HO1 := Lib.hid (own_set hown1 (by simp : w.heap.size < _) (.int .i64 x0) (.int .i64 y0) (.int .i64 z0) (.slice A' L.length cap')); have HBW := Lib.hid (below_set hB1 (.int .i64 x0) (.int .i64 y0) (.int .i64 z0) (.slice A' L.length cap')); clear hrow1 hown1)
      | (go_at_call 13; refine (batch_is _ _ _ _ _ _ _ _ _ _ (Lib.hid (Reads.own HO1.out)) (Nat.le_refl _) L20 HM HX HT).mono ?_; rintro e w2 ⟨rfl, hb2⟩; have hr2 := (hb2.block w.heap.size (by simp; omega)).trans HW1.out; have e0 := (cell_of_row w2 w.heap.size 0 _ _ _ hr2).trans rfl; have e1 := (cell_of_row w2 w.heap.size 1 _ _ _ hr2).trans rfl; have e2 := (cell_of_row w2 w.heap.size 2 _ _ _ hr2).trans rfl; have e3 := (cell_of_row w2 w.heap.size 3 _ _ _ hr2).trans rfl; have HB2 := Lib.hid (acc HBW.out hb2); have RD2 := Lib.hid (((Reads.own HO1.out).below hb2).mono hb2.size); have hzw : w.heap.size < w2.heap.size := (by have := hb2.size; simp at this; omega); clear hr2))
    obtain ⟨g, rfl, hg, hcells⟩ := RD2.out n0
    have HC := Lib.hid hcells
    clear hcells
    go_loopw [7, 8] (fun n i wr => ∃ k : Nat, k ≤ L.length ∧ i = .int .i64 k ∧ n = .int .i64 (sumL (L.take k) : Nat) ∧ Below w2.heap.size w2 wr) (fun _ i _ => L.length - (intOf i).toNat)
    case atStart => exact ⟨0, by omega, rfl, rfl, Below.refl _ _⟩
    case round =>
      obtain ⟨k, hk, rfl, rfl, hbel⟩ := hrel
      have hs0 : sumL (L.take k) ≤ 600 * k := sumL_le L k
      have ew := (hbel.cell (p := ⟨w.heap.size, 3, none⟩) hzw).trans e3
      clear e0 e1 e2
      by_cases hlt : k < L.length
      · obtain ⟨⟨rk, key, tb, val⟩, hr⟩ : ∃ r, L[k]? = some r := ⟨L[k], List.getElem?_eq_getElem hlt⟩
        obtain ⟨z1, z2⟩ := HM.out _ (List.mem_of_getElem? hr)
        have Z1 := Lib.hid z1
        have Z2 := Lib.hid z2
        obtain ⟨p1, p2⟩ := put_bounds (HALL.out _ (List.mem_of_getElem? hr))
        obtain ⟨t, ht⟩ : ∃ t, putT rk key tb val = t := ⟨_, rfl⟩
        have p1' : (2 : Int) ≤ (t.size : Int) := by rw [← ht]; exact Int.ofNat_le.2 p1
        have p2' : (t.size : Int) ≤ 580 := by rw [← ht]; exact Int.ofNat_le.2 p2
        have hsn : ((sumL (L.take (k + 1)) : Nat) : Int) = (sumL (L.take k) : Int) + (t.size : Int) := by
          rw [sumL_next hr, ← ht]
          exact Int.natCast_add _ _
        obtain ⟨b0, b1, b2, b3⟩ := HC.out k _ hr
        have d0 := (hbel.cell (p := ⟨g, k * 4, none⟩) hg).trans b0
        have d1 := (hbel.cell (p := ⟨g, k * 4 + 1, none⟩) hg).trans b1
        have d2 := (hbel.cell (p := ⟨g, k * 4 + 2, none⟩) hg).trans b2
        have d3 := (hbel.cell (p := ⟨g, k * 4 + 3, none⟩) hg).trans b3
        have HT' := Lib.hid ht
        have HSN := Lib.hid hsn
        have kl : (k : Int) < (L.length : Int) := by omega
        clear b0 b1 b2 b3 hr z1 z2 ht p1 p2 hsn
        dsimp only at d0 d1 d2 d3 Z1 Z2
        go_wp2_with (go_at_call 19; refine (size_is _ _ _ _ _ _ Z1.out Z2.out HT').mono ?_; rintro e w3 ⟨rfl, hb3⟩)
        go_roundw
        case rel => exact ⟨k + 1, by omega, by go_num, by rw [HSN.out], hbel.trans (hb3.mono hbel.size)⟩
        case measure => simp [intOf]; omega
      · obtain rfl : k = L.length := by omega
        rw [List.take_length]
        clear hs0
        go_wp2_with (first
          | (go_at_call 24; refine (parse_zero _ _ _ _ (by rw [ByteArray.size_extract]; omega) HPn).mono ?_; rintro e w4 ⟨A4, cap4, rfl, hb4⟩)
          | (go_at_call 21; refine (fixed3_any _).mono ?_; rintro e wf ⟨rfl, hbf⟩))
        go_ret
        exact ⟨rfl, acc ((acc (acc HB2.out hbel) hb4).alloc (acc (acc HB2.out hbel) hb4).size _) hbf⟩
  · have hx1 : (X != 0) = true := by simpa using h
    obtain rfl : T = ⟨#[]⟩ := HT.out.symm.trans (batP_err HX.out h)
    clear h
    go_enter Try.func6, Try.ntmps6
    go_wp2_with (first
      | (go_at_call 10; refine (bound_is _ _ _ _ _ _ _ _ _ (Lib.hid (R0.1.out.below (one_box _))) (by simp) R0.2.2 R0.2.1 HL).mono ?_; rintro e w1 ⟨A', cap', rfl, hown1, hb1⟩; have hz1 : w.heap.size < w1.heap.size := (by have := hb1.size; simp at this; omega); have hB1 : Below w.heap.size w w1 := (one_box _).trans (hb1.mono (by simp)); have hrow1 : w1.heap[w.heap.size]? = some (.cells #[.int .i64 x0, .int .i64 y0, .int .i64 z0, .slice A0 l0.length c0] 26 (0, 0)) := (hb1.block _ (by simp)).trans (heap_alloc_new _ _); have hc1 := cell_of_row w1 w.heap.size 0 _ _ _ hrow1; have hc2 := cell_of_row w1 w.heap.size 1 _ _ _ hrow1; have hc3 := cell_of_row w1 w.heap.size 2 _ _ _ hrow1; have hc4 := cell_of_row w1 w.heap.size 3 _ _ _ hrow1; have hf1 := frozen_of_row w1 w.heap.size 0 _ _ hrow1; have hf2 := frozen_of_row w1 w.heap.size 1 _ _ hrow1; have hf3 := frozen_of_row w1 w.heap.size 2 _ _ hrow1; have hf4 := frozen_of_row w1 w.heap.size 3 _ _ hrow1; have HW1 := Lib.hid (box_set (v0 := .int .i64 x0) (v1 := .int .i64 y0) (v2 := .int .i64 z0) (v3 := .slice A' L.length cap') hrow1); have HO1 := Lib.hid (own_set hown1 (by simp : w.heap.size < _) (.int .i64 x0) (.int .i64 y0) (.int .i64 z0) (.slice A' L.length cap')); have HBW := Lib.hid (below_set hB1 (.int .i64 x0) (.int .i64 y0) (.int .i64 z0) (.slice A' L.length cap')); clear hrow1 hown1)
      | (go_at_call 13; refine (batch_is _ _ _ _ _ _ _ _ _ _ (Lib.hid (Reads.own HO1.out)) (Nat.le_refl _) L20 HM HX HT).mono ?_; rintro e w2 ⟨rfl, hb2⟩; have hr2 := (hb2.block w.heap.size (by simp; omega)).trans HW1.out; have e0 := (cell_of_row w2 w.heap.size 0 _ _ _ hr2).trans rfl; have e1 := (cell_of_row w2 w.heap.size 1 _ _ _ hr2).trans rfl; have e2 := (cell_of_row w2 w.heap.size 2 _ _ _ hr2).trans rfl; have e3 := (cell_of_row w2 w.heap.size 3 _ _ _ hr2).trans rfl; have HB2 := Lib.hid (acc HBW.out hb2); have RD2 := Lib.hid ((Reads.own HO1.out).below hb2); have hz2 := hb2.size; clear hr2)
      | (go_at_call 17; refine (all_is _ _ _ _ _ _ _ _ _ RD2 hz2 L20 HM HX).mono ?_; rintro e w3 ⟨rfl, hb3⟩)
      | (go_at_call 21; refine (fixed3_any _).mono ?_; rintro e wf ⟨rfl, hbf⟩))
    go_ret
    exact ⟨rfl, acc (acc HB2.out hb3) hbf⟩

set_option maxRecDepth 100000 in
theorem lifted (os : Os) (started : os.Started) (H : Type) (enc : TypeId × Value → H) :
    ReturnsInHanded {} Try.checked os 6 .any (Rows.recordSizesSpec.pre6 enc Try.prog Try.f6 Rows.recordSizesRow.domain false) (Rows.recordSizesSpec.post enc Try.prog Try.f6 false true false false) := by
  refine returnsInHanded_of_change (C := Try.checked) own started (by kernel_rfl) Try.func6
    (ChangeSpec.witness6 (enc := enc) (C := Try.checked) false ⟨#[], #[.agg #[.int .i64 0, .int .i64 0, .int .i64 0, .slice none 0 0], .int .i64 0], []⟩ 8 (by kernel_rfl) (by kernel_rfl) (by kernel_rfl) (by kernel_rfl)) ?_
  intro W base args ds gs before hval0 hW _ _
  have hval : ∀ (j : Nat) t v, Try.f6.params[j]? = some t → args[j]? = some v → Value.okWide Try.prog W .any base t v := hval0
  have hW' := hW
  obtain ⟨p, q, hA0, hV, rfl, hfz, hnd⟩ := hW
  have hA : DataW.TrodAll enc Try.prog W 0 (fun _ => true) true Try.f6.params.toList args.toList ds p := hA0
  rw [Try.params6] at hA hval
  obtain ⟨v0, vs0, d0, ds0, p0, q0, hargs, rfl, rfl, h0, r0⟩ := trodAll_cons hA
  obtain ⟨v1, vs1, d1, ds1, p1, q1, rfl, rfl, rfl, h1, r1⟩ := trodAll_cons r0
  obtain ⟨rfl, rfl, rfl⟩ := trodAll_nil r1
  obtain rfl : args = #[v0, v1] := by cases args; simp_all
  obtain ⟨rfl, rfl⟩ := trodVars_none hV
  have k0 := h0
  have lt0 : ∀ x ∈ p0, x.block < W.heap.size := by obtain ⟨m, hm⟩ := k0; exact DataW.trod_lt m _ _ _ hm
  have k1 := h1
  have lt1 : ∀ x ∈ p1, x.block < W.heap.size := by obtain ⟨m, hm⟩ := k1; exact DataW.trod_lt m _ _ _ hm
  obtain ⟨x0, y0, z0, A0, l0, c0, e0, R0⟩ := L3.open_batch (hval 0 26 v0 rfl rfl) h0
  subst e0
  obtain ⟨a1, e1, _, _, w1⟩ := open_int Try.underlying3 (hval 1 3 v1 rfl rfl) h1
  subst e1
  clear hA0 hval0
  refine (walk x0 y0 z0 A0 l0 c0 W R0 a1 w1).mono fun e W' ⟨he, bel⟩ => ?_
  subst he
  exact ⟨_, rfl, _, _, _, [], _, [], hW', trodAll_mk1 (shut_bool Try.underlying4 _), (trodAll_cons_mk (Below.trod laidOut (by kernel_rfl) (of_decide_eq_true (by kernel_rfl)) k0 bel lt0) (trodAll_cons_mk (Below.trod laidOut (by kernel_rfl) (of_decide_eq_true (by kernel_rfl)) k1 bel lt1) trodAll_mk0)), rfl, bel.frame _, fun h => by cases h⟩

theorem over : Rows.recordSizesRow.holds Try.pinned (OpenSpec.ofChange Rows.recordSizesSpec) :=
  OpenClaim.holds_of_wide 6 Try.f6 rfl rfl rfl rfl rfl rfl rfl ⟨rfl, rfl, rfl, rfl, rfl⟩ rfl rfl rfl rfl rfl (by kernel_rfl) Try.func6 (by kernel_rfl)
    (of_decide_eq_true (by kernel_rfl)) (by unfold Func.isWrapper; first | (rw [if_pos (by decide +kernel)]; kernel_rfl) | (rw [if_neg (by decide +kernel)]; exact ⟨rfl, rfl⟩))
    (fun os started H enc _ => lifted os started H enc)

/-- the statement -/
theorem proved : Rows.RecordSizesSaid :=
  over
#print axioms proved
end Go.Proofs.Ytinhinghakkfoaa.recordSizes
