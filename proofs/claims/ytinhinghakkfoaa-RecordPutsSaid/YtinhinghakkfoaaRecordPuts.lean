/-
  Proved: whether any record (cut to at most 80 and 600 bytes), and any batch (of at most 20 such), may be, and their bytes, is as the document says; what is handed in stays; and the fixed calls answer as they must. No condition.
-/
import Derived.Test.YtinhinghakkfoaaRows
import Derived.WalkKit
import Derived.ProofKit
import Derived.OpenShut
import Derived.ShutString
import Derived.ChangeOld
import Derived.Below
import Derived.Test.YtinhinghakkfoaaRecFixed
import Derived.Test.YtinhinghakkfoaaRecOpen
import Derived.Test.YtinhinghakkfoaaRecBound
import Derived.Test.YtinhinghakkfoaaRecRall
import Derived.Test.YtinhinghakkfoaaRecLaw
import Derived.Deep.RegionHeld3
import Derived.Outline
namespace Go.Proofs.Ytinhinghakkfoaa.recordPuts
open Go.ChangeShapes Go.WideShapes Go.ChangeAt Go.RowKit
open Go.ChangeMaps (open_string shut_string)
open L3

theorem own : ownKnob Try.prog.godebug = none := by kernel_rfl
theorem laidOut : laidOutB Try.prog = true := by kernel_rfl

theorem acc_alloc {W w : World} (h : Below W.heap.size W w) (o : Obj) : Below W.heap.size W (w.alloc o) := h.alloc h.size _
theorem cell4 {w : World} {B : Nat} {a b c d : Value} {T : TypeId} (h : w.heap[B]? = some (.cells #[a, b, c, d] T (0, 0))) :
    w.cell? ⟨B, 0, none⟩ = some a ∧ w.cell? ⟨B, 1, none⟩ = some b ∧ w.cell? ⟨B, 2, none⟩ = some c ∧ w.cell? ⟨B, 3, none⟩ = some d :=
  ⟨(cell_of_row _ _ 0 _ _ _ h).trans rfl, (cell_of_row _ _ 1 _ _ _ h).trans rfl, (cell_of_row _ _ 2 _ _ _ h).trans rfl, (cell_of_row _ _ 3 _ _ _ h).trans rfl⟩
theorem frozen4 {w : World} {B : Nat} {cs : Array Value} {T : TypeId} (h : w.heap[B]? = some (.cells cs T (0, 0))) :
    w.frozen? ⟨B, 0, none⟩ = false ∧ w.frozen? ⟨B, 1, none⟩ = false ∧ w.frozen? ⟨B, 2, none⟩ = false ∧ w.frozen? ⟨B, 3, none⟩ = false :=
  ⟨frozen_of_row _ _ 0 _ _ h, frozen_of_row _ _ 1 _ _ h, frozen_of_row _ _ 2 _ _ h, frozen_of_row _ _ 3 _ _ h⟩
theorem set4_same {w1 : World} {H : Nat} {a b c d v0 v1 v2 v3 : Value} {T : TypeId} (h : w1.heap[H]? = some (.cells #[a, b, c, d] T (0, 0))) :
    ((((w1.setCell ⟨H, 0, none⟩ v0).setCell ⟨H, 1, none⟩ v1).setCell ⟨H, 2, none⟩ v2).setCell ⟨H, 3, none⟩ v3).heap[H]? = some (.cells #[v0, v1, v2, v3] T (0, 0)) :=
  heap_setCell_same _ H 3 _ _ v3 (heap_setCell_same _ H 2 _ _ v2 (heap_setCell_same _ H 1 _ _ v1 (heap_setCell_same _ H 0 _ _ v0 h)))
theorem set4_other {w1 : World} {H k : Nat} {v0 v1 v2 v3 : Value} (hk : k ≠ H) :
    ((((w1.setCell ⟨H, 0, none⟩ v0).setCell ⟨H, 1, none⟩ v1).setCell ⟨H, 2, none⟩ v2).setCell ⟨H, 3, none⟩ v3).heap[k]? = w1.heap[k]? := by
  rw [heap_setCell_other _ _ _ _ hk, heap_setCell_other _ _ _ _ hk, heap_setCell_other _ _ _ _ hk, heap_setCell_other _ _ _ _ hk]
theorem set4_own {w : World} {base k G : Nat} {T : TypeId} {m : Nat} {V : Value} {xs : List Value} (h : w.ownsRow base T m V k xs) (hG : G < base) (v0 v1 v2 v3 : Value) :
    ((((w.setCell ⟨G, 0, none⟩ v0).setCell ⟨G, 1, none⟩ v1).setCell ⟨G, 2, none⟩ v2).setCell ⟨G, 3, none⟩ v3).ownsRow base T m V k xs :=
  ownsRow_setCell_below (ownsRow_setCell_below (ownsRow_setCell_below (ownsRow_setCell_below h (a := ⟨G, 0, none⟩) hG v0) (a := ⟨G, 1, none⟩) hG v1) (a := ⟨G, 2, none⟩) hG v2) (a := ⟨G, 3, none⟩) hG v3
theorem set4_below {w w1 : World} {B H : Nat} (h : Below B w w1) (hH : B ≤ H) (v0 v1 v2 v3 : Value) :
    Below B w ((((w1.setCell ⟨H, 0, none⟩ v0).setCell ⟨H, 1, none⟩ v1).setCell ⟨H, 2, none⟩ v2).setCell ⟨H, 3, none⟩ v3) :=
  (((h.setCell (p := ⟨H, 0, none⟩) hH v0).setCell (p := ⟨H, 1, none⟩) hH v1).setCell (p := ⟨H, 2, none⟩) hH v2).setCell (p := ⟨H, 3, none⟩) hH v3
theorem set4_size {w1 : World} {H : Nat} {v0 v1 v2 v3 : Value} :
    ((((w1.setCell ⟨H, 0, none⟩ v0).setCell ⟨H, 1, none⟩ v1).setCell ⟨H, 2, none⟩ v2).setCell ⟨H, 3, none⟩ v3).heap.size = w1.heap.size := by simp
theorem check_is (hk : Bool) (k : ByteArray) (tb : Bool) (v : ByteArray) (x : Int) (w : World) (h1 : k.size ≤ maxLen) (h2 : v.size ≤ maxLen) (h : Hid (chk hk k tb v = x)) :
    Calls Try.prog 15 #[.agg #[.bool hk, .string k, .bool tb, .string v]] w fun e w' => e = .returned (.int .i64 x) ∧ Below w.heap.size w w' := by
  have c := check_any hk k tb v w h1 h2
  rw [h.out] at c
  exact c
theorem refcheck_is (hk : Bool) (k : ByteArray) (tb : Bool) (v : ByteArray) (x : Int) (w : World) (h1 : k.size ≤ maxLen) (h2 : v.size ≤ maxLen) (h : Hid (chk hk k tb v = x)) :
    Calls Try.prog 16 #[.agg #[.bool hk, .string k, .bool tb, .string v]] w fun e w' => e = .returned (.int .i64 x) ∧ Below w.heap.size w w' := by
  have c := refcheck_any hk k tb v w h1 h2
  rw [h.out] at c
  exact c
theorem cutS_again (s : ByteArray) (m : Nat) : cutS (cutS s m) m = cutS s m := by
  have h := cutS_size s m
  obtain ⟨t, ht⟩ : ∃ t, cutS s m = t := ⟨_, rfl⟩
  rw [ht] at h ⊢
  unfold cutS
  rw [show (min (t.size : Int) (m : Int)).toNat = t.size by omega]
  exact ByteArray.extract_zero_size
theorem cut_again (r : R) : r.cut.cut = r.cut := by
  show (⟨_, cutS (cutS r.key 80) 80, _, cutS (cutS r.val 600) 600⟩ : R) = ⟨_, _, _, _⟩
  rw [show cutS (cutS r.key 80) 80 = cutS r.key 80 from cutS_again r.key 80, show cutS (cutS r.val 600) 600 = cutS r.val 600 from cutS_again r.val 600]
  rfl
theorem bound_again (l : List R) : ((((l.take 20).map R.cut).take 20).map R.cut) = (l.take 20).map R.cut := by
  rw [List.take_of_length_le (by rw [List.length_map, List.length_take]; omega), List.map_map]
  exact List.map_congr_left fun r _ => cut_again r
theorem below2 {w : World} {a b : Obj} : Below w.heap.size w ((w.alloc a).alloc b) := ((Below.refl _ _).alloc (Nat.le_refl _) _).alloc (by simp) _

set_option maxRecDepth 100000 in
set_option maxHeartbeats 16000000 in
theorem walk (hk : Bool) (k : ByteArray) (tb : Bool) (u : ByteArray) (s0 : k.size ≤ maxLen) (z0' : u.size ≤ maxLen) (x0 y0 z0 : Int) (A0 : Option Addr) (l0 : List R) (c0 : Nat) (w : World) (R0 : IsRecs w A0 l0) :
    Calls Try.prog 3 #[.agg #[.bool hk, .string k, .bool tb, .string u], .agg #[.int .i64 x0, .int .i64 y0, .int .i64 z0, .slice A0 l0.length c0]] w fun e w' => e = .returned (.bool true) ∧ Below w.heap.size w w' := by
  have HS := Lib.hid s0
  have HZ := Lib.hid z0'
  obtain ⟨k', hk'⟩ : ∃ k', cutS k 80 = k' := ⟨_, rfl⟩
  obtain ⟨u', hu'⟩ : ∃ u', cutS u 600 = u' := ⟨_, rfl⟩
  have k1 : k'.size ≤ 80 := by rw [← hk']; exact cutS_size k 80
  have u1 : u'.size ≤ 600 := by rw [← hu']; exact cutS_size u 600
  have K1 : Hid (k'.size ≤ maxLen) := Lib.hid (by unfold maxLen; omega)
  have U1 : Hid (u'.size ≤ maxLen) := Lib.hid (by unfold maxLen; omega)
  have HK := Lib.hid hk'
  have HU := Lib.hid hu'
  obtain ⟨L, hL⟩ : ∃ L, (l0.take 20).map R.cut = L := ⟨_, rfl⟩
  have L20 : L.length ≤ 20 := by rw [← hL]; exact cutR_len l0
  have HM : Hid (∀ r ∈ L, r.key.size ≤ maxLen ∧ r.val.size ≤ maxLen) := Lib.hid (by rw [← hL]; exact cutR_max l0)
  have HLL : Hid ((L.take 20).map R.cut = L) := Lib.hid (by rw [← hL]; exact bound_again l0)
  have HL := Lib.hid hL
  have HLm : Hid (L.length ≤ maxLen) := Lib.hid (by unfold maxLen; omega)
  obtain ⟨x, hx⟩ : ∃ x, chk hk k' tb u' = x := ⟨_, rfl⟩
  obtain ⟨P, hP⟩ : ∃ P, putT hk k' tb u' = P := ⟨_, rfl⟩
  obtain ⟨X, hX⟩ : ∃ X, allN x0 y0 z0 L = X := ⟨_, rfl⟩
  obtain ⟨T, hT⟩ : ∃ T, batP x0 y0 z0 L = T := ⟨_, rfl⟩
  have HCK := Lib.hid hx
  have HPT := Lib.hid hP
  have HX := Lib.hid hX
  have HT := Lib.hid hT
  clear s0 z0' hk' hu' hL hx hP hX hT k1 u1
  go_enter Try.func3, Try.ntmps3
  go_wp2_with fail
  go_at_call 9
  refine (cut_any _ _ _ _ _ _ _ HS.out HZ.out HK.out HU.out).mono ?_
  rintro e w1 ⟨rfl, hb1⟩
  have r0 := (hb1.block w.heap.size (by simp; omega)).trans (heap_alloc2_old w _ _)
  have r1 := (hb1.block (w.heap.size + 1) (by simp)).trans (heap_alloc2_new w _ _)
  have hz1 : w.heap.size + 1 < w1.heap.size := by have := hb1.size; simp at this; omega
  have hB1 : Below w.heap.size w w1 := below2.trans (hb1.mono (by simp; omega))
  obtain ⟨c0', c1, c2, c3⟩ := cell4 r0
  obtain ⟨f0, f1, f2, f3⟩ := frozen4 r0
  obtain ⟨d0, d1, d2, d3⟩ := cell4 r1
  have X0 := Lib.hid (set4_same (v0 := .bool hk) (v1 := .string k') (v2 := .bool tb) (v3 := .string u') r0)
  have X1 := Lib.hid ((set4_other (k := w.heap.size + 1) (H := w.heap.size) (v0 := .bool hk) (v1 := .string k') (v2 := .bool tb) (v3 := .string u') (by omega)).trans r1)
  have XB := Lib.hid (set4_below hB1 (Nat.le_refl _) (.bool hk) (.string k') (.bool tb) (.string u'))
  have XS : Hid (w.heap.size + 1 < ((((w1.setCell ⟨w.heap.size, 0, none⟩ (.bool hk)).setCell ⟨w.heap.size, 1, none⟩ (.string k')).setCell ⟨w.heap.size, 2, none⟩ (.bool tb)).setCell ⟨w.heap.size, 3, none⟩ (.string u')).heap.size) := Lib.hid (by rw [set4_size]; exact hz1)
  clear r0 r1 hb1 hB1
  go_wp2_with fail
  clear c0' c1 c2 c3 f0 f1 f2 f3 d0 d1 d2 d3 hz1
  generalize (((w1.setCell ⟨w.heap.size, 0, none⟩ (.bool hk)).setCell ⟨w.heap.size, 1, none⟩ (.string k')).setCell ⟨w.heap.size, 2, none⟩ (.bool tb)).setCell ⟨w.heap.size, 3, none⟩ (.string u') = W1 at X0 X1 XB XS ⊢
  go_at_call 10
  refine (bound_is _ _ _ _ _ _ _ w.heap.size _ (Lib.hid (R0.1.out.below XB.out)) (by have := XB.out.size; omega) R0.2.2 R0.2.1 HL).mono ?_
  rintro e w2 ⟨A1, cap1, rfl, hown2, hb2⟩
  have r0 := (hb2.block w.heap.size (by have := XS.out; omega)).trans X0.out
  have r1 := (hb2.block (w.heap.size + 1) XS.out).trans X1.out
  have hz2 : w.heap.size + 1 < w2.heap.size := by have := hb2.size; have := XS.out; omega
  obtain ⟨d0, d1, d2, d3⟩ := cell4 r1
  obtain ⟨f0, f1, f2, f3⟩ := frozen4 r1
  have Y0 := Lib.hid ((set4_other (k := w.heap.size) (H := w.heap.size + 1) (v0 := .int .i64 x0) (v1 := .int .i64 y0) (v2 := .int .i64 z0) (v3 := .slice A1 L.length cap1) (by omega)).trans r0)
  have Y1 := Lib.hid (set4_same (v0 := .int .i64 x0) (v1 := .int .i64 y0) (v2 := .int .i64 z0) (v3 := .slice A1 L.length cap1) r1)
  have YB := Lib.hid (set4_below (acc XB.out hb2) (Nat.le_succ _) (.int .i64 x0) (.int .i64 y0) (.int .i64 z0) (.slice A1 L.length cap1))
  have YO := Lib.hid (set4_own hown2 XS.out (.int .i64 x0) (.int .i64 y0) (.int .i64 z0) (.slice A1 L.length cap1))
  have YS : Hid (w.heap.size + 1 < ((((w2.setCell ⟨w.heap.size + 1, 0, none⟩ (.int .i64 x0)).setCell ⟨w.heap.size + 1, 1, none⟩ (.int .i64 y0)).setCell ⟨w.heap.size + 1, 2, none⟩ (.int .i64 z0)).setCell ⟨w.heap.size + 1, 3, none⟩ (.slice A1 L.length cap1)).heap.size) := Lib.hid (by rw [set4_size]; exact hz2)
  clear r0 r1 hb2 hown2 X0 X1 XB XS
  go_wp2_with fail
  clear d0 d1 d2 d3 f0 f1 f2 f3 hz2
  generalize (((w2.setCell ⟨w.heap.size + 1, 0, none⟩ (.int .i64 x0)).setCell ⟨w.heap.size + 1, 1, none⟩ (.int .i64 y0)).setCell ⟨w.heap.size + 1, 2, none⟩ (.int .i64 z0)).setCell ⟨w.heap.size + 1, 3, none⟩ (.slice A1 L.length cap1) = W2 at Y0 Y1 YB YO YS ⊢
  go_at_call 10
  refine (bound_is _ _ _ _ _ _ _ W2.heap.size _ (Lib.hid (Reads.o (Reads.own YO.out))) (Nat.le_refl _) HLm.out HM HLL).mono ?_
  rintro e w3 ⟨A3, cap3, rfl, hown3, hb3⟩
  have r0 := (hb3.block w.heap.size (by have := YS.out; omega)).trans Y0.out
  have r1 := (hb3.block (w.heap.size + 1) YS.out).trans Y1.out
  have hz3 : w.heap.size + 1 < w3.heap.size := by have := hb3.size; have := YS.out; omega
  have ra := (one_box (w := w3) (.cells #[.int .i64 x0, .int .i64 y0, .int .i64 z0, .slice A3 L.length cap3] 26))
  have Z0 := Lib.hid ((ra.block w.heap.size (by omega)).trans r0)
  have Z1 := Lib.hid ((ra.block (w.heap.size + 1) hz3).trans r1)
  have Z2 := Lib.hid (heap_alloc_new w3 (.cells #[.int .i64 x0, .int .i64 y0, .int .i64 z0, .slice A3 L.length cap3] 26))
  have ZB := Lib.hid (acc_alloc (acc YB.out hb3) (.cells #[.int .i64 x0, .int .i64 y0, .int .i64 z0, .slice A3 L.length cap3] 26))
  have ZA := Lib.hid (((Reads.own YO.out).below (hb3.trans (ra.mono hb3.size))))
  have ZC := Lib.hid ((Reads.own hown3).below ra)
  have hzz := hb3.size
  obtain ⟨c0', c1, c2, c3⟩ := cell4 r0
  have hz0 : w.heap.size < w3.heap.size := by omega
  clear r0 r1 ra hb3 hown3 Y0 Y1 YB YO YS
  go_wp2_with fail
  clear c0' c1 c2 c3
  generalize w3.alloc (.cells #[.int .i64 x0, .int .i64 y0, .int .i64 z0, .slice A3 L.length cap3] 26) = W3 at Z0 Z1 Z2 ZB ZA ZC ⊢
  generalize w3.heap.size = H2 at Z2 ZC hzz hz3 hz0 ⊢
  have h2w : H2 < W3.heap.size := (Array.getElem?_eq_some_iff.1 Z2.out).1
  have RA : Hid (Reads W3 W3.heap.size A1 L) := Lib.hid (ZA.out.mono (by omega))
  have RC : Hid (Reads W3 W3.heap.size A3 L) := Lib.hid (ZC.out.mono (by omega))
  have KC : Hid (∀ wa, Below W3.heap.size W3 wa → ((wa.cell? ⟨w.heap.size, 0, none⟩ = some (.bool hk) ∧ wa.cell? ⟨w.heap.size, 1, none⟩ = some (.string k') ∧ wa.cell? ⟨w.heap.size, 2, none⟩ = some (.bool tb) ∧ wa.cell? ⟨w.heap.size, 3, none⟩ = some (.string u')) ∧ (wa.cell? ⟨w.heap.size + 1, 0, none⟩ = some (.int .i64 x0) ∧ wa.cell? ⟨w.heap.size + 1, 1, none⟩ = some (.int .i64 y0) ∧ wa.cell? ⟨w.heap.size + 1, 2, none⟩ = some (.int .i64 z0) ∧ wa.cell? ⟨w.heap.size + 1, 3, none⟩ = some (.slice A1 L.length cap1)) ∧ (wa.cell? ⟨H2, 0, none⟩ = some (.int .i64 x0) ∧ wa.cell? ⟨H2, 1, none⟩ = some (.int .i64 y0) ∧ wa.cell? ⟨H2, 2, none⟩ = some (.int .i64 z0) ∧ wa.cell? ⟨H2, 3, none⟩ = some (.slice A3 L.length cap3)) ∧ Below W3.heap.size W3 wa)) := Lib.hid (fun wa hb => ⟨cell4 ((hb.block _ (by omega)).trans Z0.out), cell4 ((hb.block _ (by omega)).trans Z1.out), cell4 ((hb.block _ h2w).trans Z2.out), hb⟩)
  have KT : Hid (∀ wa wb, ((wa.cell? ⟨w.heap.size, 0, none⟩ = some (.bool hk) ∧ wa.cell? ⟨w.heap.size, 1, none⟩ = some (.string k') ∧ wa.cell? ⟨w.heap.size, 2, none⟩ = some (.bool tb) ∧ wa.cell? ⟨w.heap.size, 3, none⟩ = some (.string u')) ∧ (wa.cell? ⟨w.heap.size + 1, 0, none⟩ = some (.int .i64 x0) ∧ wa.cell? ⟨w.heap.size + 1, 1, none⟩ = some (.int .i64 y0) ∧ wa.cell? ⟨w.heap.size + 1, 2, none⟩ = some (.int .i64 z0) ∧ wa.cell? ⟨w.heap.size + 1, 3, none⟩ = some (.slice A1 L.length cap1)) ∧ (wa.cell? ⟨H2, 0, none⟩ = some (.int .i64 x0) ∧ wa.cell? ⟨H2, 1, none⟩ = some (.int .i64 y0) ∧ wa.cell? ⟨H2, 2, none⟩ = some (.int .i64 z0) ∧ wa.cell? ⟨H2, 3, none⟩ = some (.slice A3 L.length cap3)) ∧ Below W3.heap.size W3 wa) → Below wa.heap.size wa wb → ((wb.cell? ⟨w.heap.size, 0, none⟩ = some (.bool hk) ∧ wb.cell? ⟨w.heap.size, 1, none⟩ = some (.string k') ∧ wb.cell? ⟨w.heap.size, 2, none⟩ = some (.bool tb) ∧ wb.cell? ⟨w.heap.size, 3, none⟩ = some (.string u')) ∧ (wb.cell? ⟨w.heap.size + 1, 0, none⟩ = some (.int .i64 x0) ∧ wb.cell? ⟨w.heap.size + 1, 1, none⟩ = some (.int .i64 y0) ∧ wb.cell? ⟨w.heap.size + 1, 2, none⟩ = some (.int .i64 z0) ∧ wb.cell? ⟨w.heap.size + 1, 3, none⟩ = some (.slice A1 L.length cap1)) ∧ (wb.cell? ⟨H2, 0, none⟩ = some (.int .i64 x0) ∧ wb.cell? ⟨H2, 1, none⟩ = some (.int .i64 y0) ∧ wb.cell? ⟨H2, 2, none⟩ = some (.int .i64 z0) ∧ wb.cell? ⟨H2, 3, none⟩ = some (.slice A3 L.length cap3)) ∧ Below W3.heap.size W3 wb)) := Lib.hid (fun wa wb h hb => KC.out _ (h.2.2.2.trans (hb.mono h.2.2.2.size)))
  have KR : Hid (∀ wa, ((wa.cell? ⟨w.heap.size, 0, none⟩ = some (.bool hk) ∧ wa.cell? ⟨w.heap.size, 1, none⟩ = some (.string k') ∧ wa.cell? ⟨w.heap.size, 2, none⟩ = some (.bool tb) ∧ wa.cell? ⟨w.heap.size, 3, none⟩ = some (.string u')) ∧ (wa.cell? ⟨w.heap.size + 1, 0, none⟩ = some (.int .i64 x0) ∧ wa.cell? ⟨w.heap.size + 1, 1, none⟩ = some (.int .i64 y0) ∧ wa.cell? ⟨w.heap.size + 1, 2, none⟩ = some (.int .i64 z0) ∧ wa.cell? ⟨w.heap.size + 1, 3, none⟩ = some (.slice A1 L.length cap1)) ∧ (wa.cell? ⟨H2, 0, none⟩ = some (.int .i64 x0) ∧ wa.cell? ⟨H2, 1, none⟩ = some (.int .i64 y0) ∧ wa.cell? ⟨H2, 2, none⟩ = some (.int .i64 z0) ∧ wa.cell? ⟨H2, 3, none⟩ = some (.slice A3 L.length cap3)) ∧ Below W3.heap.size W3 wa) → Hid (Reads wa W3.heap.size A1 L) ∧ Hid (Reads wa W3.heap.size A3 L) ∧ W3.heap.size ≤ wa.heap.size) := Lib.hid (fun wa h => ⟨Lib.hid (RA.out.below h.2.2.2), Lib.hid (RC.out.below h.2.2.2), h.2.2.2.size⟩)
  have B3 := Lib.hid (Below.refl W3.heap.size W3)
  obtain ⟨⟨a0, a1, a2, a3⟩, ⟨b0, b1, b2, b3⟩, _⟩ := KC.out _ B3.out
  clear Z0 Z1 Z2 ZA ZC hzz hz3 hz0 h2w
  go_wp2_with (first
    | (go_at_call 14; refine (rbatch_is x0 y0 z0 A1 L cap1 W3.heap.size X T _ (Lib.hid (RA.out.below B6.out)) B6.out.size L20 HM HX HT).mono ?_; rintro e w7 ⟨rfl, hb⟩; have B7 := Lib.hid (acc B6.out hb); clear hb a0 a1 a2 a3 b0 b1 b2 b3; obtain ⟨⟨a0, a1, a2, a3⟩, ⟨b0, b1, b2, b3⟩, _⟩ := KC.out _ B7.out)
    | (go_at_call 13; refine (batch_is x0 y0 z0 A1 L cap1 W3.heap.size X T _ (Lib.hid (RA.out.below B5.out)) B5.out.size L20 HM HX HT).mono ?_; rintro e w6 ⟨rfl, hb⟩; have B6 := Lib.hid (acc B5.out hb); clear hb a0 a1 a2 a3 b0 b1 b2 b3; obtain ⟨⟨a0, a1, a2, a3⟩, ⟨b0, b1, b2, b3⟩, _⟩ := KC.out _ B6.out)
    | (go_at_call 12; refine (refrput_is _ _ _ _ _ _ _ K1.out U1.out HCK HPT).mono ?_; rintro e w5 ⟨rfl, hb⟩; have B5 := Lib.hid (acc B4.out hb); clear hb a0 a1 a2 a3 b0 b1 b2 b3; obtain ⟨⟨a0, a1, a2, a3⟩, ⟨b0, b1, b2, b3⟩, _⟩ := KC.out _ B5.out)
    | (go_at_call 11; refine (put_is _ _ _ _ _ _ _ K1.out U1.out HCK HPT).mono ?_; rintro e w4 ⟨rfl, hb⟩; have B4 := Lib.hid (acc B3.out hb); clear hb a0 a1 a2 a3 b0 b1 b2 b3; obtain ⟨⟨a0, a1, a2, a3⟩, ⟨b0, b1, b2, b3⟩, _⟩ := KC.out _ B4.out))
  clear a0 a1 a2 a3 b0 b1 b2 b3
  go_region_held3 (fun w' => ((w'.cell? ⟨w.heap.size, 0, none⟩ = some (.bool hk) ∧ w'.cell? ⟨w.heap.size, 1, none⟩ = some (.string k') ∧ w'.cell? ⟨w.heap.size, 2, none⟩ = some (.bool tb) ∧ w'.cell? ⟨w.heap.size, 3, none⟩ = some (.string u')) ∧ (w'.cell? ⟨w.heap.size + 1, 0, none⟩ = some (.int .i64 x0) ∧ w'.cell? ⟨w.heap.size + 1, 1, none⟩ = some (.int .i64 y0) ∧ w'.cell? ⟨w.heap.size + 1, 2, none⟩ = some (.int .i64 z0) ∧ w'.cell? ⟨w.heap.size + 1, 3, none⟩ = some (.slice A1 L.length cap1)) ∧ (w'.cell? ⟨H2, 0, none⟩ = some (.int .i64 x0) ∧ w'.cell? ⟨H2, 1, none⟩ = some (.int .i64 y0) ∧ w'.cell? ⟨H2, 2, none⟩ = some (.int .i64 z0) ∧ w'.cell? ⟨H2, 3, none⟩ = some (.slice A3 L.length cap3)) ∧ Below W3.heap.size W3 w'))
    (first | with_reducible assumption | exact KC.out _ B7.out.drew | exact KT.out _ _ (by assumption) (by assumption))
    (first
      | (go_at_call 15; refine (check_is _ _ _ _ _ _ K1.out U1.out HCK).mono ?_; rintro e wc ⟨rfl, hbc⟩)
      | (go_at_call 16; refine (refcheck_is _ _ _ _ _ _ K1.out U1.out HCK).mono ?_; rintro e wd ⟨rfl, hbd⟩)
      | (go_at_call 17; refine (all_is x0 y0 z0 A1 L cap1 W3.heap.size X _ (KR.out _ (by assumption)).1 (KR.out _ (by assumption)).2.2 L20 HM HX).mono ?_; rintro e wf ⟨rfl, hbf⟩)
      | (go_at_call 18; refine (rall_is x0 y0 z0 A1 L cap1 W3.heap.size X _ (KR.out _ (by assumption)).1 (KR.out _ (by assumption)).2.2 L20 HM HX).mono ?_; rintro e wg ⟨rfl, hbg⟩)
      | (go_at_call 19; refine (size_is _ _ _ _ _ _ K1.out U1.out HPT).mono ?_; rintro e ws ⟨rfl, hbs⟩)
      | (go_at_call 20; refine (same_yes x0 y0 z0 A1 A3 L cap1 cap3 W3.heap.size _ (KR.out _ (by assumption)).1 (KR.out _ (by assumption)).2.1 (KR.out _ (by assumption)).2.2 HLm.out).mono ?_; rintro e wq ⟨rfl, hbq⟩)
      | (go_at_call 21; refine (fixed3_any _).mono ?_; rintro e wx ⟨rfl, hbx⟩))
  rename_i hh
  go_wp2_with fail
  go_ret
  exact ⟨rfl, ZB.out.trans (hh.2.2.2.mono ZB.out.size)⟩

set_option maxRecDepth 100000 in
theorem lifted (os : Os) (started : os.Started) (H : Type) (enc : TypeId × Value → H) :
    ReturnsInHanded {} Try.checked os 3 .any (Rows.recordPutsSpec.pre6 enc Try.prog Try.f3 Rows.recordPutsRow.domain false) (Rows.recordPutsSpec.post enc Try.prog Try.f3 false true false false) := by
  refine returnsInHanded_of_change (C := Try.checked) own started (by kernel_rfl) Try.func3
    (ChangeSpec.witness6 (enc := enc) (C := Try.checked) false ⟨#[], #[.agg #[.bool false, .string ByteArray.empty, .bool false, .string ByteArray.empty], .agg #[.int .i64 0, .int .i64 0, .int .i64 0, .slice none 0 0]], []⟩ 8 (by kernel_rfl) (by kernel_rfl) (by kernel_rfl) (by kernel_rfl)) ?_
  intro W base args ds gs before hval0 hW _ _
  have hval : ∀ (j : Nat) t v, Try.f3.params[j]? = some t → args[j]? = some v → Value.okWide Try.prog W .any base t v := hval0
  have hW' := hW
  obtain ⟨p, q, hA0, hV, rfl, hfz, hnd⟩ := hW
  have hA : DataW.TrodAll enc Try.prog W 0 (fun _ => true) true Try.f3.params.toList args.toList ds p := hA0
  rw [Try.params3] at hA hval
  obtain ⟨v0, vs0, d0, ds0, p0, q0, hargs, rfl, rfl, h0, r0⟩ := trodAll_cons hA
  obtain ⟨v1, vs1, d1, ds1, p1, q1, rfl, rfl, rfl, h1, r1⟩ := trodAll_cons r0
  obtain ⟨rfl, rfl, rfl⟩ := trodAll_nil r1
  obtain rfl : args = #[v0, v1] := by cases args; simp_all
  obtain ⟨rfl, rfl⟩ := trodVars_none hV
  have k0 := h0
  have lt0 : ∀ x ∈ p0, x.block < W.heap.size := by obtain ⟨m, hm⟩ := k0; exact DataW.trod_lt m _ _ _ hm
  have k1 := h1
  have lt1 : ∀ x ∈ p1, x.block < W.heap.size := by obtain ⟨m, hm⟩ := k1; exact DataW.trod_lt m _ _ _ hm
  obtain ⟨b0, k0_, t0, u0, e0, s0, z0⟩ := L3.open_rec (hval 0 23 v0 rfl rfl) h0
  subst e0
  obtain ⟨x1, y1, z1, A1, l1, c1, e1, R1⟩ := L3.open_batch (hval 1 26 v1 rfl rfl) h1
  subst e1
  clear hA0 hval0
  refine (walk b0 k0_ t0 u0 s0 z0 x1 y1 z1 A1 l1 c1 W R1).mono fun e W' ⟨he, bel⟩ => ?_
  subst he
  exact ⟨_, rfl, _, _, _, [], _, [], hW', trodAll_mk1 (shut_bool Try.underlying4 _), (trodAll_cons_mk (Below.trod laidOut (by kernel_rfl) (of_decide_eq_true (by kernel_rfl)) k0 bel lt0) (trodAll_cons_mk (Below.trod laidOut (by kernel_rfl) (of_decide_eq_true (by kernel_rfl)) k1 bel lt1) trodAll_mk0)), rfl, bel.frame _, fun h => by cases h⟩

theorem over : Rows.recordPutsRow.holds Try.pinned (OpenSpec.ofChange Rows.recordPutsSpec) :=
  OpenClaim.holds_of_wide 3 Try.f3 rfl rfl rfl rfl rfl rfl rfl ⟨rfl, rfl, rfl, rfl, rfl⟩ rfl rfl rfl rfl rfl (by kernel_rfl) Try.func3 (by kernel_rfl)
    (of_decide_eq_true (by kernel_rfl)) (by unfold Func.isWrapper; first | (rw [if_pos (by decide +kernel)]; kernel_rfl) | (rw [if_neg (by decide +kernel)]; exact ⟨rfl, rfl⟩))
    (fun os started H enc _ => lifted os started H enc)

/-- the statement -/
theorem proved : Rows.RecordPutsSaid :=
  over
#print axioms proved
end Go.Proofs.Ytinhinghakkfoaa.recordPuts
