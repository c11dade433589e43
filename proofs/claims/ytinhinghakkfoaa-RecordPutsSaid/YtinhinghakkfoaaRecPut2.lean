/-
  Contracts: a record's bytes, in one; how many they are; the document's own.
-/
import Derived.Test.YtinhinghakkfoaaRecPut
import Derived.Deep.RegionHeld3
namespace Go.Proofs.Ytinhinghakkfoaa.L3
open Go.RowKit

theorem put_is (hk : Bool) (k : ByteArray) (tb : Bool) (v : ByteArray) (x : Int) (p : ByteArray) (w : World) (h1 : k.size ≤ maxLen) (h2 : v.size ≤ maxLen) (HC : Hid (chk hk k tb v = x)) (HP : Hid (putT hk k tb v = p)) :
    Calls Try.prog 11 #[.agg #[.bool hk, .string k, .bool tb, .string v]] w fun e w' => e = .returned (.tuple #[.string p, .int .i64 x]) ∧ Below w.heap.size w w' := by
  have hp := HP.out
  unfold putT at hp
  by_cases h : x = 0
  · subst h
    obtain ⟨q1, q2, q3, q4⟩ := chk_parts HC.out
    have e1 := txt_size k (by omega)
    have e2 := txt_size v (by omega)
    rw [if_pos HC.out] at hp
    subst hp
    cases hk
    · obtain ⟨_, rfl⟩ := q3 rfl
      exact put_zero k v _ w q1 q2 (by omega) (Lib.hid rfl) HC
    · cases tb
      · exact put_one k v _ _ w q1 q2 (by omega) (by omega) (Lib.hid rfl) (Lib.hid rfl) HC
      · exact put_three k v _ w q1 q2 (by omega) (Lib.hid rfl) HC
  · rw [if_neg (by rw [HC.out]; exact h)] at hp
    subst hp
    exact put_err hk k tb v x w h1 h2 (by simpa using h) HC

set_option maxHeartbeats 1000000 in
theorem size_is (hk : Bool) (k : ByteArray) (tb : Bool) (v : ByteArray) (p : ByteArray) (w : World) (h1 : k.size ≤ maxLen) (h2 : v.size ≤ maxLen) (HP : Hid (putT hk k tb v = p)) :
    Calls Try.prog 19 #[.agg #[.bool hk, .string k, .bool tb, .string v]] w fun e w' => e = .returned (.int .i64 p.size) ∧ Below w.heap.size w w' := by
  have H1 := Lib.hid h1
  have H2 := Lib.hid h2
  obtain ⟨x, hx⟩ : ∃ x, chk hk k tb v = x := ⟨_, rfl⟩
  have HX := Lib.hid hx
  clear h1 h2 hx
  go_enter Try.func19, Try.ntmps19
  go_wp2_with (go_at_call 11; refine (put_is _ _ _ _ _ _ _ H1.out H2.out HX HP).mono ?_; rintro e w1 ⟨rfl, hb1⟩)
  go_ret
  exact ⟨rfl, (one_box _).trans (hb1.mono (by simp))⟩

/-- the two texts of a record in its box, all that was ahead of it as it was -/
theorem keep_call {w w1 w2 : World} {g : Nat} {k v : Value} (h : (w1.cell? ⟨g, 1, none⟩ = some k ∧ w1.cell? ⟨g, 3, none⟩ = some v) ∧ Below g w w1 ∧ g < w1.heap.size) (hb : Below w1.heap.size w1 w2) :
    (w2.cell? ⟨g, 1, none⟩ = some k ∧ w2.cell? ⟨g, 3, none⟩ = some v) ∧ Below g w w2 ∧ g < w2.heap.size :=
  ⟨⟨(hb.cell (p := ⟨g, 1, none⟩) h.2.2).trans h.1.1, (hb.cell (p := ⟨g, 3, none⟩) h.2.2).trans h.1.2⟩, h.2.1.trans (hb.mono (by have := h.2.2; omega)), Nat.lt_of_lt_of_le h.2.2 hb.size⟩

set_option maxRecDepth 100000 in
set_option maxHeartbeats 1000000 in
theorem reftext_one (k v tk tv : ByteArray) (w : World) (hk1 : k.size ≤ 64) (hv1 : v.size ≤ 512) (htk : tk.size ≤ 100) (htv : tv.size ≤ 600) (TK : Hid (txt k = tk)) (TV : Hid (txt v = tv)) :
    Calls Try.prog 28 #[.agg #[.bool true, .string k, .bool false, .string v]] w fun e w' => e = .returned (.string (⟨#[1]⟩ ++ tk ++ tv)) ∧ Below w.heap.size w w' := by
  go_enter Try.func28, Try.ntmps28
  go_wp2_with fail
  have hS : ((w.alloc (.cells #[.bool true, .string k, .bool false, .string v] 23)).cell? ⟨w.heap.size, 1, none⟩ = some (.string k) ∧ (w.alloc (.cells #[.bool true, .string k, .bool false, .string v] 23)).cell? ⟨w.heap.size, 3, none⟩ = some (.string v)) ∧ Below w.heap.size w (w.alloc (.cells #[.bool true, .string k, .bool false, .string v] 23)) ∧ w.heap.size < (w.alloc (.cells #[.bool true, .string k, .bool false, .string v] 23)).heap.size :=
    ⟨⟨by simp [go_sem], by simp [go_sem]⟩, one_box _, by simp⟩
  have hno1 : (9223372036854775807 < 1 + tk.size) = False := by simp; omega
  have hno2 : (9223372036854775807 < 1 + tk.size + tv.size) = False := by simp; omega
  go_region_held3 (fun w' => (w'.cell? ⟨w.heap.size, 1, none⟩ = some (.string k) ∧ w'.cell? ⟨w.heap.size, 3, none⟩ = some (.string v)) ∧ Below w.heap.size w w' ∧ w.heap.size < w'.heap.size)
    (first | assumption | exact keep_call (by assumption) (by assumption) | exact keep_call (keep_call (by assumption) ((Below.refl _ _).drew)) (by assumption) | exact keep_call (by assumption) ((Below.refl _ _).drew))
    (first
      | (go_at_call 40; (first | (with_reducible refine (reftxt_is _ _ _ (by omega) TK).mono ?_) | (with_reducible refine (reftxt_is _ _ _ (by omega) TV).mono ?_)); rintro e w1 ⟨rfl, hb1⟩))
  go_wp2_with fail
  all_goals
    go_ret
    refine ⟨rfl, ?_⟩
    rename_i hh
    exact hh.2.1

set_option maxHeartbeats 1000000 in
theorem reftext_three (k v tk : ByteArray) (w : World) (hk1 : k.size ≤ 64) (htk : tk.size ≤ 100) (TK : Hid (txt k = tk)) :
    Calls Try.prog 28 #[.agg #[.bool true, .string k, .bool true, .string v]] w fun e w' => e = .returned (.string (⟨#[3]⟩ ++ tk)) ∧ Below w.heap.size w w' := by
  have hno1 : (9223372036854775807 < 1 + tk.size) = False := by simp; omega
  go_enter Try.func28, Try.ntmps28
  go_wp2_with (go_at_call 40; refine (reftxt_is _ _ _ (by omega) TK).mono ?_; rintro e w1 ⟨rfl, hb1⟩)
  go_ret
  exact ⟨rfl, (one_box _).trans (hb1.mono (by simp))⟩
set_option maxHeartbeats 1000000 in
theorem reftext_zero (k v tv : ByteArray) (w : World) (hv1 : v.size ≤ 512) (htv : tv.size ≤ 600) (TV : Hid (txt v = tv)) :
    Calls Try.prog 28 #[.agg #[.bool false, .string k, .bool false, .string v]] w fun e w' => e = .returned (.string (⟨#[0]⟩ ++ tv)) ∧ Below w.heap.size w w' := by
  have hno1 : (9223372036854775807 < 1 + tv.size) = False := by simp; omega
  go_enter Try.func28, Try.ntmps28
  go_wp2_with (go_at_call 40; refine (reftxt_is _ _ _ (by omega) TV).mono ?_; rintro e w1 ⟨rfl, hb1⟩)
  go_ret
  exact ⟨rfl, (one_box _).trans (hb1.mono (by simp))⟩

theorem refrec_is (hk : Bool) (k : ByteArray) (tb : Bool) (v : ByteArray) (p : ByteArray) (w : World) (HC : Hid (chk hk k tb v = 0)) (HP : Hid (putT hk k tb v = p)) :
    Calls Try.prog 28 #[.agg #[.bool hk, .string k, .bool tb, .string v]] w fun e w' => e = .returned (.string p) ∧ Below w.heap.size w w' := by
  have hp := HP.out
  unfold putT at hp
  obtain ⟨q1, q2, q3, q4⟩ := chk_parts HC.out
  have e1 := txt_size k (by omega)
  have e2 := txt_size v (by omega)
  rw [if_pos HC.out] at hp
  subst hp
  cases hk
  · obtain ⟨_, rfl⟩ := q3 rfl
    exact reftext_zero k v _ w q2 (by omega) (Lib.hid rfl)
  · cases tb
    · exact reftext_one k v _ _ w q1 q2 (by omega) (by omega) (Lib.hid rfl) (Lib.hid rfl)
    · exact reftext_three k v _ w q1 (by omega) (Lib.hid rfl)

set_option maxHeartbeats 1000000 in
theorem refput_ok (hk : Bool) (k : ByteArray) (tb : Bool) (v : ByteArray) (p : ByteArray) (w : World) (h1 : k.size ≤ maxLen) (h2 : v.size ≤ maxLen) (HC : Hid (chk hk k tb v = 0)) (HP : Hid (putT hk k tb v = p)) :
    Calls Try.prog 12 #[.agg #[.bool hk, .string k, .bool tb, .string v]] w fun e w' => e = .returned (.tuple #[.string p, .int .i64 0]) ∧ Below w.heap.size w w' := by
  have H1 := Lib.hid h1
  have H2 := Lib.hid h2
  clear h1 h2
  go_enter Try.func12, Try.ntmps12
  go_wp2_with (first
    | (go_at_call 16; refine (refcheck_any _ _ _ _ _ H1.out H2.out).mono ?_; rw [HC.out]; rintro e w1 ⟨rfl, hb1⟩; obtain ⟨hc1, hf1⟩ := box_cells hb1; have hz1 : w.heap.size < w1.heap.size := (by have := hb1.size; simp at this; omega))
    | (go_at_call 28; refine (refrec_is _ _ _ _ _ _ HC HP).mono ?_; rintro e w2 ⟨rfl, hb2⟩))
  go_ret2
  exact ⟨rfl, ((one_box _).trans (hb1.mono (by simp))).trans (hb2.mono (by omega))⟩
set_option maxHeartbeats 1000000 in
theorem refput_err (hk : Bool) (k : ByteArray) (tb : Bool) (v : ByteArray) (x : Int) (w : World) (h1 : k.size ≤ maxLen) (h2 : v.size ≤ maxLen) (HX : (x != 0) = true) (HC : Hid (chk hk k tb v = x)) :
    Calls Try.prog 12 #[.agg #[.bool hk, .string k, .bool tb, .string v]] w fun e w' => e = .returned (.tuple #[.string ⟨#[]⟩, .int .i64 x]) ∧ Below w.heap.size w w' := by
  have H1 := Lib.hid h1
  have H2 := Lib.hid h2
  clear h1 h2
  go_enter Try.func12, Try.ntmps12
  go_wp2_with (go_at_call 16; refine (refcheck_any _ _ _ _ _ H1.out H2.out).mono ?_; rw [HC.out]; rintro e w1 ⟨rfl, hb1⟩)
  go_ret2
  exact ⟨rfl, (one_box _).trans (hb1.mono (by simp))⟩
theorem refrput_is (hk : Bool) (k : ByteArray) (tb : Bool) (v : ByteArray) (x : Int) (p : ByteArray) (w : World) (h1 : k.size ≤ maxLen) (h2 : v.size ≤ maxLen) (HC : Hid (chk hk k tb v = x)) (HP : Hid (putT hk k tb v = p)) :
    Calls Try.prog 12 #[.agg #[.bool hk, .string k, .bool tb, .string v]] w fun e w' => e = .returned (.tuple #[.string p, .int .i64 x]) ∧ Below w.heap.size w w' := by
  by_cases h : x = 0
  · subst h
    exact refput_ok hk k tb v p w h1 h2 HC HP
  · have hp := HP.out
    unfold putT at hp
    rw [if_neg (by rw [HC.out]; exact h)] at hp
    subst hp
    exact refput_err hk k tb v x w h1 h2 (by simpa using h) HC
end Go.Proofs.Ytinhinghakkfoaa.L3
