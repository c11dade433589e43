/-
  The document's joiner.
-/
import Derived.Test.YtlemcijgjebekaaMRcDig
import Derived.Test.YtlemcijgjebekaaMRcSmall
import Derived.Test.YtlemcijgjebekaaRcJMath
import Derived.Test.YtlemcijgjebekaaChMiss
import Derived.Test.YtlemcijgjebekaaSegPut
import Derived.Deep.Cut
import Derived.Deep.RegionHeld3
namespace Go.Proofs.Ytlemcijgjebekaa.L7
open Go.RowKit
open L3 L4 L5

/-- where it lies: its own row, and its chunks -/
structure JD (w : World) (g dg : Nat) (A : Option Addr) (n c : Nat) (l : List Ck) : Prop where
  row : w.heap[g]? = some (.cells #[.int .u64 dg, .slice A n c] 85 (0, 0))
  own : ∃ base, w.ownsRow base 71 4 (.slice A n c) n (rowC l)
  len : l.length = n
  ne : blk A ≠ some g
section
variable {w W W' : World} {g dg : Nat} {A : Option Addr} {n c : Nat} {l : List Ck}
theorem JD.lt (h : JD w g dg A n c l) : g < w.heap.size := (Array.getElem?_eq_some_iff.1 h.row).1
theorem JD.c0 (h : JD w g dg A n c l) : w.cell? ⟨g, 0, none⟩ = some (.int .u64 dg) := (cell_of_row _ _ 0 _ _ _ h.row).trans rfl
theorem JD.c1 (h : JD w g dg A n c l) : w.cell? ⟨g, 1, none⟩ = some (.slice A n c) := (cell_of_row _ _ 1 _ _ _ h.row).trans rfl
theorem JD.froz (h : JD w g dg A n c l) (i : Nat) : w.frozen? ⟨g, i, none⟩ = false := frozen_of_row _ _ _ _ _ h.row
theorem JD.below (h : JD w g dg A n c l) (b : Below w.heap.size w W') : JD W' g dg A n c l := by
  obtain ⟨base, ho⟩ := h.own
  exact ⟨(b.block _ h.lt).trans h.row, ⟨base, own_below ho b⟩, h.len, h.ne⟩
theorem JD.cells (h : JD w g dg A n c l) {k : Nat} {x : Ck} (hx : l[k]? = some x) : ∃ a, A = some ⟨a, 0, none⟩ ∧ a < w.heap.size ∧ w.cell? ⟨a, k * 4, none⟩ = some (.int .i64 x.i) ∧ w.cell? ⟨a, k * 4 + 1, none⟩ = some (.int .i64 x.n) ∧ w.cell? ⟨a, k * 4 + 2, none⟩ = some (.int .u64 x.d) ∧ w.cell? ⟨a, k * 4 + 3, none⟩ = some (.string x.b) := by
  obtain ⟨base, ho⟩ := h.own
  have hk : k < n := by rw [← h.len]; exact (List.getElem?_eq_some_iff.1 hx).1
  obtain ⟨a, c1, hv, _, _⟩ := ho.form (by omega)
  injection hv with q1 q2 q3
  subst q1
  obtain ⟨e0, e1, e2, e3⟩ := rowC_cells l k x hx
  have a0 := ho.cells (g := a) rfl _ _ e0
  have a1 := ho.cells (g := a) rfl _ _ e1
  have a2 := ho.cells (g := a) rfl _ _ e2
  have a3 := ho.cells (g := a) rfl _ _ e3
  rw [addr_add] at a0 a1 a2 a3
  exact ⟨a, rfl, (ho.lt a rfl).2, a0, a1, a2, a3⟩
end
set_option maxRecDepth 100000 in
set_option maxHeartbeats 4000000 in
theorem rbody_is (w : World) (g dg : Nat) (A : Option Addr) (n c : Nat) (l : List Ck) (i : Int) (r : Option ByteArray) (H : Hid (JD w g dg A n c l)) (hl : n ≤ 1000) (hr : Hid (findB l i = r)) :
    Calls Try.prog 108 #[.pointer (some ⟨g, 0, none⟩), .int .i64 i] w fun e w' => e = .returned (.tuple #[.string (r.getD ⟨#[]⟩), .bool r.isSome]) ∧ w = w' := by
  have c1 := H.out.c1
  go_enter Try.func108, Try.ntmps108
  go_wp2_with fail
  go_loop [6] (fun kv => ∃ k : Nat, k ≤ n ∧ kv = .int .i64 k ∧ Hid (∀ x ∈ l.take k, x.i ≠ i)) (fun kv => n - (intOf kv).toNat)
  case atStart => exact ⟨0, by omega, rfl, Lib.hid (by simp)⟩
  case round =>
    obtain ⟨k, hk, rfl, HN⟩ := hrel
    have k0 : (0 : Int) ≤ (k : Int) := by omega
    by_cases hlt : k < n
    · have k1 : (k : Int) < (n : Int) := by omega
      obtain ⟨x, hx⟩ : ∃ x, l[k]? = some x := ⟨_, List.getElem?_eq_getElem (by rw [H.out.len]; exact hlt)⟩
      obtain ⟨a, rfl, _, d0, d1, d2, d3⟩ := H.out.cells hx
      obtain ⟨xi, xn, xd, xb⟩ := x
      dsimp only at d0 d1 d2 d3
      have HX := Lib.hid hx
      clear hx
      by_cases he : xi = i
      · have he' : (xi == i) = true := by simpa using he
        have HE := Lib.hid he
        clear he
        go_wp2_with fail
        go_ret2
        have := findB_some HN.out HX.out HE.out
        rw [hr.out] at this
        rw [this]
        exact ⟨rfl, rfl⟩
      · have he' : (xi == i) = false := by simpa using he
        have HE := Lib.hid he
        clear he
        go_wp2_with fail
        go_round
        case rel =>
          refine ⟨k + 1, by omega, by go_num, Lib.hid (fun y hy => ?_)⟩
          rw [List.take_add_one, HX.out] at hy
          rcases List.mem_append.1 hy with hy | hy
          · exact HN.out y hy
          · have : y = ⟨xi, xn, xd, xb⟩ := by simpa using hy
            rw [this]; exact HE.out
        case measure => simp [intOf]; omega
    · have k1 : ¬ (k : Int) < (n : Int) := by omega
      go_wp2_with fail
      go_ret2
      have hn := HN.out
      rw [List.take_of_length_le (by rw [H.out.len]; omega)] at hn
      have := findB_none hn
      rw [hr.out] at this
      rw [this]
      exact ⟨rfl, rfl⟩
set_option maxRecDepth 100000 in
set_option maxHeartbeats 4000000 in
theorem rmissing_is (w : World) (g dg : Nat) (A : Option Addr) (n c : Nat) (l : List Ck) (m : Js) (H : Hid (JD w g dg A n c l)) (R : Hid (Rel m l)) (hl : n ≤ 1000) (hm : m.length ≤ 1000) :
    Calls Try.prog 57 #[.pointer (some ⟨g, 0, none⟩)] w fun e w' => ∃ A' c', e = .returned (.slice A' (missing m).length c') ∧ w'.ownsRow w.heap.size 3 1 (.slice A' (missing m).length c') (missing m).length (rowI (missing m)) ∧ Below w.heap.size w w' := by
  obtain ⟨i0, hi0, hz0, hz1, hz2⟩ := info_parts intInfo7
  go_enter Try.func57, Try.ntmps57
  go_wp2_with fail
  go_loopw [3, 4] (fun ov kv wr => ∃ (k q c' : Nat) (A' : Option Addr), k ≤ m.length ∧ q ≤ k ∧ kv = .int .i64 k ∧ ov = .slice A' q c' ∧ Hid ((missFrom 0 (m.take k)).length = q) ∧ Hid (wr.ownsRow w.heap.size 3 1 (.slice A' q c') q (rowI (missFrom 0 (m.take k)))) ∧ Hid (Below w.heap.size w wr)) (fun _ kv _ => m.length - (intOf kv).toNat)
  case atStart => exact ⟨0, 0, 0, _, by omega, by omega, rfl, rfl, Lib.hid rfl, Lib.hid (by simpa [rowI, missFrom] using World.ownsRow_made (size := 1) w #[] 0 (Nat.le_refl _) (by unfold maxLen; omega) rfl), Lib.hid (one_box _)⟩
  case round =>
    obtain ⟨k, q, c', A', hk, hq, rfl, rfl, HQ, HROW, HB⟩ := hrel
    have HJ := Lib.hid (H.out.below HB.out)
    have c1 := HJ.out.c1
    have k0 : (0 : Int) ≤ (k : Int) := by omega
    by_cases hm0 : m = []
    · have hl0 := R.out.nil.1 hm0
      have hn0 : n = 0 := by rw [← H.out.len, hl0]; rfl
      subst hn0
      have HM0 := Lib.hid hm0
      clear hm0 hl0
      go_wp2_with fail
      go_ret
      have e : m.take k = m := by rw [HM0.out]; simp
      have h1 := HROW.out
      have h2 := HQ.out
      rw [e] at h1 h2
      have h3 : (missing m).length = q := h2
      rw [h3]
      exact ⟨A', c', rfl, h1, HB.out⟩
    · obtain ⟨x, hx⟩ := R.out.pos hm0
      obtain ⟨a, rfl, _, d0, d1, d2, d3⟩ := HJ.out.cells hx
      have hxn := R.out.head hx
      rw [hxn] at d1
      have hn1 : 0 < n := by rw [← H.out.len]; exact (List.getElem?_eq_some_iff.1 hx).1
      have hn2 : (0 : Int) < (n : Int) := by omega
      have hn3 : decide ((0 : Int) < (n : Int)) = true := decide_eq_true hn2
      simp only [Nat.zero_mul, Nat.zero_add] at d0 d1 d2 d3
      obtain ⟨ml, hml⟩ : ∃ ml, m.length = ml := ⟨_, rfl⟩
      rw [hml] at d1 hk hm
      have HML := Lib.hid hml
      clear hm0 hx hxn d0 d2 d3 hml
      by_cases hlt : k < ml
      · have k1 : (k : Int) < (ml : Int) := by omega
        obtain ⟨v, hv, hv2⟩ := val_at m k (by rw [HML.out]; exact hlt)
        have hsn := miss_take hv
        have HVV : Hid (findB l (k : Int) = v) := Lib.hid ((R.out.val k).symm.trans hv2)
        cases v with
        | some b =>
          rw [if_neg (by simp), List.append_nil] at hsn
          have HSN := Lib.hid hsn
          clear hsn hv hv2
          go_wp2_with (go_at_call 108; refine (rbody_is wr g dg _ n c l k (some b) HJ hl HVV).mono ?_; rintro e w2 ⟨rfl, rfl⟩)
          go_roundw
          case rel => exact ⟨k + 1, q, c', A', by rw [HML.out]; omega, by omega, by go_num, rfl, Lib.hid (by rw [HSN.out]; exact HQ.out), Lib.hid (by rw [HSN.out]; exact HROW.out), HB⟩
          case measure => simp [intOf]; have := HML.out; omega
        | none =>
          rw [if_pos rfl] at hsn
          have HSN := Lib.hid hsn
          clear hsn hv hv2
          go_wp2_with (first
            | (go_at_call 108; refine (rbody_is wr g dg _ n c l k none HJ hl HVV).mono ?_; rintro e w2 ⟨rfl, rfl⟩)
            | (at_builtin; refine wpList_append_own _ rfl _ _ 90 rfl w.heap.size 3 i0 _ 1 8 Try.underlying90 hi0 hz0 hz1 hz2 rfl (by decide) _ _ _ rfl (HROW.out.alloc _) ⟨wr.heap.size, 0, none⟩ 1 1 [.int .i64 k] rfl rfl (cell_one_new _ _ _) (by simp [Value.oneCell']) ?zc ?zd ?ze ?_; (case zc => (unfold maxLen; omega)); (case zd => omega); (case ze => (have := HB.out.size; simp; omega)); intro v' w3 hown' hgrow _; obtain ⟨g', cap', rfl⟩ := ownsRow_succ hown'))
          go_roundw
          case rel => exact ⟨k + 1, q + 1, cap', some ⟨g', 0, none⟩, by rw [HML.out]; omega, by omega, by go_num, rfl, Lib.hid (by rw [HSN.out, List.length_append, HQ.out]; rfl), Lib.hid (by rw [HSN.out]; have : rowI (missFrom 0 (m.take k) ++ [(k : Int)]) = rowI (missFrom 0 (m.take k)) ++ [.int .i64 k] := (by simp [rowI]); rw [this]; exact hown'), Lib.hid ((HB.out.alloc HB.out.size _).grown hgrow (by have := HB.out.size; simp; omega) (fun j e => (HROW.out.lt j e).1))⟩
          case measure => simp [intOf]; have := HML.out; omega
      · have k1 : ¬ (k : Int) < (ml : Int) := by omega
        go_wp2_with fail
        go_ret
        have e : m.take k = m := List.take_of_length_le (by rw [HML.out]; omega)
        have h1 := HROW.out
        have h2 := HQ.out
        rw [e] at h1 h2
        have h3 : (missing m).length = q := h2
        rw [h3]
        exact ⟨A', c', rfl, h1, HB.out⟩
end Go.Proofs.Ytlemcijgjebekaa.L7
