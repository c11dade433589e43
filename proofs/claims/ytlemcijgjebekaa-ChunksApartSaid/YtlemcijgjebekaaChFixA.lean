/-
  The calls on chunks whose answers the document fixes.
-/
import Derived.Test.YtlemcijgjebekaaChFix
import Derived.Deep.DeepCutAuto
namespace Go.Proofs.Ytlemcijgjebekaa.L7
open Go.RowKit
open L3 L4 L5

def m1 : Js := [none, none, some ⟨#[101]⟩]
def m2 : Js := [some ⟨#[97, 98]⟩, none, some ⟨#[101]⟩]
def m3 : Js := [some ⟨#[97, 98]⟩, some ⟨#[99, 100]⟩, some ⟨#[101]⟩]
section
variable {w W : World} {gl g bm D : Nat} {cur : Array Value} {A : Option Addr} {c : Nat} {xs : List Int} {m : Js}
theorem fx_take (i n : Int) (b : ByteArray) (m' : Js) (h : Hid (FX w W gl g bm D cur A c xs m)) (hr : right ⟨i, n, D, b⟩ = true) (hv : valM m i = none) (hz : m = [] ∨ n = m.length) (hm : (baseM m n).set i.toNat (some b) = m') :
    Calls Try.prog 51 #[.pointer (some ⟨g, 0, none⟩), .agg #[.int .i64 i, .int .i64 n, .int .u64 D, .string b]] W fun e w' => e = .returned (.int .i64 0) ∧ FX w w' gl g bm D cur A c xs m' := by
  refine (take_new i n D b (Lib.hid h.out.j) (Lib.hid hr) hv hz).mono ?_
  rintro e w' ⟨rfl, hj, hl⟩
  rw [hm] at hj
  exact ⟨rfl, h.out.lets hj hl⟩
theorem fx_other (e1 : Int) (i n : Int) (b : ByteArray) (h : Hid (FX w W gl g bm D cur A c xs m)) (hr : right ⟨i, n, D + 1, b⟩ = true) (he : (D : Int) + 1 = e1) :
    Calls Try.prog 51 #[.pointer (some ⟨g, 0, none⟩), .agg #[.int .i64 i, .int .i64 n, .int .u64 e1, .string b]] W fun e w' => e = .returned (.int .i64 71) ∧ FX w w' gl g bm D cur A c xs m := by
  have e2 : e1 = ((D + 1 : Nat) : Int) := by omega
  subst e2
  refine (take_other i n (D + 1) b (Lib.hid h.out.j) (Lib.hid hr) (by simp; omega)).mono ?_
  rintro e w' ⟨rfl, hb⟩
  exact ⟨rfl, h.out.below hb⟩
theorem fx_form (h : Hid (FX w W gl g bm D cur A c xs m)) :
    Calls Try.prog 51 #[.pointer (some ⟨g, 0, none⟩), .agg #[.int .i64 0, .int .i64 2, .int .u64 0, .string ⟨#[]⟩]] W fun e w' => e = .returned (.int .i64 70) ∧ FX w w' gl g bm D cur A c xs m := by
  refine (take_form g 0 2 0 ⟨#[]⟩ (Lib.hid (by decide))).mono ?_
  rintro e w' ⟨rfl, hb⟩
  exact ⟨rfl, h.out.below hb⟩
theorem fx_miss (h : Hid (FX w W gl g bm D cur A c xs m2)) :
    Calls Try.prog 55 #[.pointer (some ⟨g, 0, none⟩)] W fun e w' => ∃ A' c', e = .returned (.slice A' 1 c') ∧ FX w w' gl g bm D cur A' c' [1] m2 := by
  refine (missing_any 3 (Lib.hid h.out.j) rfl (by decide)).mono ?_
  rintro e w' ⟨A, c, rfl, ho, hb⟩
  exact ⟨A, c, rfl, (h.out.below hb).told ⟨_, ho⟩⟩
theorem fx_no (h : Hid (FX w W gl g bm D cur A c xs m2)) :
    Calls Try.prog 54 #[.pointer (some ⟨g, 0, none⟩)] W fun e w' => e = .returned (.tuple #[.string ⟨#[]⟩, .bool false]) ∧ FX w w' gl g bm D cur A c xs m2 := by
  refine (whole_no (Lib.hid h.out.j) (.inr (by decide))).mono ?_
  rintro e w' ⟨rfl, hb⟩
  exact ⟨rfl, h.out.below hb⟩
theorem fx_yes (h : Hid (FX w W gl g bm D cur A c xs m3)) (hD : Hid (digest s5 = D)) :
    Calls Try.prog 54 #[.pointer (some ⟨g, 0, none⟩)] W fun e w' => e = .returned (.tuple #[.string ⟨#[97, 98, 99, 100, 101]⟩, .bool true]) ∧ FX w w' gl g bm D cur A c xs m3 := by
  refine (whole_all 3 D s5 (Lib.hid h.out.j) (by simp [m3]) rfl (by decide) (by decide) (Lib.hid rfl) (by decide) hD).mono ?_
  rintro e w' (⟨_, rfl, hb⟩ | ⟨h2, _⟩)
  · exact ⟨rfl, h.out.below hb⟩
  · exact absurd rfl h2
end
theorem split_f (D : Nat) (w : World) (hD : Hid (digest s5 = D)) :
    Calls Try.prog 43 #[.string ⟨#[97, 98, 99, 100, 101]⟩, .int .i64 2] w fun e w' => ∃ c cur, e = .returned (.tuple #[.slice (some ⟨w.heap.size, 0, none⟩) 3 c, .int .i64 0]) ∧ w'.heap[w.heap.size]? = some (.cells cur 71 (0, 0)) ∧ cur.toList.take 12 = rowC [c0 D, c1 D, c2 D] ∧ 3 ≤ c ∧ Below w.heap.size w w' := by
  refine (split_ok s5 2 3 w (by decide) (by decide) (by decide) (by decide) (by decide)).mono ?_
  rintro e w' ⟨c, rfl, ho, hb⟩
  rcases ho.2 with ⟨q, _⟩ | ⟨k, cap, cur, q, _, hh, h1, _, _, h2⟩
  · cases q
  · injection q with q1 _ q3; injection q1 with q1; injection q1 with q1; subst q1; subst q3
    refine ⟨c, cur, rfl, hh, ?_, h1, hb⟩
    rw [split_s5 D hD.out] at h2
    exact h2
theorem split_z (w : World) : Calls Try.prog 43 #[.string ⟨#[97]⟩, .int .i64 0] w fun e w' => e = .returned (.tuple #[.slice none 0 0, .int .i64 1]) ∧ w = w' := split_arg ⟨#[97]⟩ 0 w (.inl (by decide))
theorem digest_f (D : Nat) (w : World) (hD : Hid (digest s5 = D)) : Calls Try.prog 40 #[.string ⟨#[97, 98, 99, 100, 101]⟩] w fun e w' => e = .returned (.int .u64 D) ∧ Below w.heap.size w w' := digest_is s5 D w (by decide) hD
theorem put_f (D : Nat) (t : ByteArray) (w : World) (hD : D < 18446744073709551616) (ht : Hid (putC (c0 D) = t)) : Calls Try.prog 45 #[.agg #[.int .i64 0, .int .i64 3, .int .u64 D, .string ⟨#[97, 98]⟩]] w fun e w' => e = .returned (.tuple #[.string t, .int .i64 0]) ∧ Below w.heap.size w w' :=
  cput_ok 0 3 D ⟨#[97, 98]⟩ t w (Lib.hid rfl) hD ht
theorem get_f (D : Nat) (t : ByteArray) (w : World) (hD : D < 18446744073709551616) (ht : Hid (putC (c0 D) = t)) : Calls Try.prog 47 #[.string t] w fun e w' => e = .returned (.tuple #[.agg #[.int .i64 0, .int .i64 3, .int .u64 D, .string ⟨#[97, 98]⟩], .int .i64 0]) ∧ Below w.heap.size w w' := by
  have hr : right (c0 D) = true := rfl
  have hz := putC_size hr hD
  rw [ht.out] at hz
  exact cget_is t w (by omega) (c0 D) 0 (Lib.hid (ht.out ▸ GetU.put hr hD))
theorem text_f (w : World) (k : Nat) (hk : k = w.heap.size) : Calls Try.prog 36 #[.agg #[.int .i64 5, .int .i64 9, .slice (some ⟨k, 0, none⟩) 1 1]] (w.alloc (.cells #[.int .i64 7, .bool false, .string ⟨#[]⟩, .bool false, .string ⟨#[]⟩] 43)) fun e w' => e = .returned (.tuple #[.string ⟨#[5, 9, 1, 2, 0, 0]⟩, .int .i64 0]) ∧ Below w.heap.size w w' := by
  subst hk
  have hr := row5_facts (heap_alloc_new w (.cells #[.int .i64 7, .bool false, .string ⟨#[]⟩, .bool false, .string ⟨#[]⟩] 43))
  refine (text_ok 5 9 (some ⟨w.heap.size, 0, none⟩) fS 1 1 (w.heap.size + 1) uS _ (Lib.hid (fun _ => ⟨w.heap.size, rfl, by omega, fun i f hi => ?_⟩)) (by simp) rfl (Lib.hid load_uS) (Lib.hid text_uS)).mono ?_
  · have hi0 : i = 0 := by
      have := (List.getElem?_eq_some_iff.1 hi).1
      simp [fS] at this; omega
    subst hi0
    have : f = ⟨7, R.zero⟩ := by simpa [fS] using hi.symm
    subst this
    exact ⟨hr.1, hr.2.1, hr.2.2.1, hr.2.2.2.1, hr.2.2.2.2.1⟩
  · rintro e w' ⟨rfl, hb⟩
    exact ⟨rfl, (one_box _).trans (hb.mono (by simp))⟩
theorem nums_f (w W : World) (gl g bm D : Nat) (cur : Array Value) (A : Option Addr) (c : Nat) (m : Js) (k : Nat) (h : Hid (FX w W gl g bm D cur A c [1] m)) (hk : k = W.heap.size) :
    Calls Try.prog 56 #[.slice A 1 c, .slice (some ⟨k, 0, none⟩) 1 1] (W.alloc (.cells #[.int .i64 1] 3)) fun e w' => e = .returned (.bool true) ∧ Below W.heap.size W w' := by
  subst hk
  obtain ⟨base, ho⟩ := h.out.o
  have hb := one_box (w := W) (.cells #[.int .i64 1] 3)
  have hr1 : ReadsI W W.heap.size A [1] := ReadsI.own ho
  have hr2 : ReadsI (W.alloc (.cells #[.int .i64 1] 3)) (W.heap.size + 1) (some ⟨W.heap.size, 0, none⟩) [1] := fun _ => ⟨W.heap.size, 0, rfl, by omega, fun i x hi => by
    have hi0 : i = 0 := by
      have := (List.getElem?_eq_some_iff.1 hi).1
      simp at this; omega
    subst hi0
    have : x = 1 := by simpa using hi.symm
    subst this
    exact (cell_of_row _ _ 0 _ _ _ (heap_alloc_new W _)).trans rfl⟩
  refine (L5.nums_is A (some ⟨W.heap.size, 0, none⟩) [1] [1] c 1 (W.heap.size + 1) true _ (Lib.hid ((hr1.below hb).mono (by omega))) (Lib.hid hr2) (by simp) (by decide) (Lib.hid (by simp))).mono ?_
  · rintro e w' ⟨rfl, hb2⟩
    exact ⟨rfl, hb.trans (hb2.mono (by simp))⟩
end Go.Proofs.Ytlemcijgjebekaa.L7
