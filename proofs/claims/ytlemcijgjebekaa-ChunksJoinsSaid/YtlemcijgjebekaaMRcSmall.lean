/-
  The document's small functions on chunks: a number, whether a chunk may be, its bytes, the chunk of bytes.
-/
import Derived.Test.YtlemcijgjebekaaChGet
import Derived.Test.YtlemcijgjebekaaCrcRef
namespace Go.Proofs.Ytlemcijgjebekaa.L7
open Go.RowKit
open L3

theorem vrget_is (s : ByteArray) (at_ : Int) (w : World) (hs : s.size ≤ 1000000) (g : Nat) (t e : Int) (h : Hid (V.get s at_ = (g, t, e))) :
    Calls Try.prog 105 #[.string s, .int .i64 at_] w fun r w' => r = .returned (.tuple #[.int .u64 g, .int .i64 t, .int .i64 e]) ∧ w = w' := by
  have k := refget_any s at_ w (by unfold maxLen; omega)
  rw [h.out] at k
  exact k
theorem vrput_is (n : Nat) (s : ByteArray) (w : World) (hn : n < 18446744073709551616) (h : Hid (V.put n = s)) :
    Calls Try.prog 90 #[.int .u64 n] w fun e w' => e = .returned (.string s) ∧ Below w.heap.size w w' := by
  have k := refput_any n n w (Int.le_refl _) (by omega) (by omega)
  rw [Int.toNat_natCast, h.out] at k
  exact k
set_option maxHeartbeats 1000000 in
theorem rnum_ok (s : ByteArray) (a : Int) (w : World) (hs : s.size ≤ 1000000) (g : Nat) (t : Int) (HG : Hid (V.get s a = (g, t, 0))) (hg : g ≤ 1099511627776) :
    Calls Try.prog 94 #[.string s, .int .i64 a] w fun e w' => e = .returned (.tuple #[.int .i64 g, .int .i64 t]) ∧ w = w' := by
  have g0 : ¬ (1099511627776 : Int) < (g : Int) := by omega
  have g1 : (g : Int) ≤ 1099511627776 := by omega
  go_enter Try.func94, Try.ntmps94
  go_wp2_with (go_at_call 105; refine (vrget_is s a _ hs g t 0 HG).mono ?_; rintro e w1 ⟨rfl, rfl⟩)
  go_ret2
  exact ⟨rfl, rfl⟩
set_option maxHeartbeats 1000000 in
theorem rnum_no (s : ByteArray) (a : Int) (w : World) (hs : s.size ≤ 1000000) (g : Nat) (t e : Int) (HG : Hid (V.get s a = (g, t, e))) (h : e ≠ 0 ∨ 1099511627776 < g) :
    Calls Try.prog 94 #[.string s, .int .i64 a] w fun e w' => e = .returned (.tuple #[.int .i64 (-1), .int .i64 0]) ∧ w = w' := by
  by_cases he : e = 0
  · subst he
    have g0 : (1099511627776 : Int) < (g : Int) := by rcases h with h | h <;> omega
    clear h
    go_enter Try.func94, Try.ntmps94
    go_wp2_with (go_at_call 105; refine (vrget_is s a _ hs g t 0 HG).mono ?_; rintro e w1 ⟨rfl, rfl⟩)
    go_ret2
    exact ⟨rfl, rfl⟩
  · have he' : (e != 0) = true := by simpa using he
    clear h he
    go_enter Try.func94, Try.ntmps94
    go_wp2_with (go_at_call 105; refine (vrget_is s a _ hs g t e HG).mono ?_; rintro e w1 ⟨rfl, rfl⟩)
    go_ret2
    exact ⟨rfl, rfl⟩
set_option maxRecDepth 100000 in
set_option maxHeartbeats 4000000 in
theorem rright_in (i n : Int) (d : Nat) (b : ByteArray) (w : World) (r : Bool) (hr : Hid (right ⟨i, n, d, b⟩ = r)) :
    Calls Try.prog 102 #[.agg #[.int .i64 i, .int .i64 n, .int .u64 d, .string b]] w fun e w' => e = .returned (.bool r) ∧ Below w.heap.size w w' := by
  rcases Classical.em (b.size = 0) with hb0 | hb0 <;> rcases Classical.em (n = 1) with hn1 | hn1
  · have hb1 : decide ((0 : Int) < (b.size : Int)) = false := decide_eq_false (by omega)
    have hb2 : decide (0 < b.size) = false := decide_eq_false (by omega)
    have hn2 : (n == 1) = true := by simpa using hn1
    have HB0 := Lib.hid hb0
    have HN1 := Lib.hid hn1
    clear hb0 hn1
    go_enter Try.func102, Try.ntmps102
    go_wp2_with fail
    all_goals
      go_ret
      refine ⟨congrArg (fun x => Ending.returned (.bool x)) ?_, one_box _⟩
      rw [← hr.out]
      have hb0 := HB0.out
      have hn1 := HN1.out
      clear hr HB0 HN1
      rw [Bool.eq_iff_iff]
      unfold right
      simp only [decide_eq_true_eq, Bool.false_eq_true, false_iff, true_iff, ne_eq]
      omega
  · have hb1 : decide ((0 : Int) < (b.size : Int)) = false := decide_eq_false (by omega)
    have hb2 : decide (0 < b.size) = false := decide_eq_false (by omega)
    have hn2 : (n == 1) = false := by simpa using hn1
    have HB0 := Lib.hid hb0
    have HN1 := Lib.hid hn1
    clear hb0 hn1
    go_enter Try.func102, Try.ntmps102
    go_wp2_with fail
    all_goals
      go_ret
      refine ⟨congrArg (fun x => Ending.returned (.bool x)) ?_, one_box _⟩
      rw [← hr.out]
      have hb0 := HB0.out
      have hn1 := HN1.out
      clear hr HB0 HN1
      rw [Bool.eq_iff_iff]
      unfold right
      simp only [decide_eq_true_eq, Bool.false_eq_true, false_iff, ne_eq]
      omega
  · have hb1 : decide ((0 : Int) < (b.size : Int)) = true := decide_eq_true (by omega)
    have hb2 : decide (0 < b.size) = true := decide_eq_true (by omega)
    have hn2 : (n == 1) = true := by simpa using hn1
    have HB0 := Lib.hid hb0
    have HN1 := Lib.hid hn1
    clear hb0 hn1
    go_enter Try.func102, Try.ntmps102
    go_wp2_with fail
    all_goals
      go_ret
      refine ⟨congrArg (fun x => Ending.returned (.bool x)) ?_, one_box _⟩
      rw [← hr.out]
      have hb0 := HB0.out
      have hn1 := HN1.out
      clear hr HB0 HN1
      rw [Bool.eq_iff_iff]
      unfold right
      simp only [decide_eq_true_eq, Bool.false_eq_true, false_iff, true_iff, ne_eq]
      omega
  · have hb1 : decide ((0 : Int) < (b.size : Int)) = true := decide_eq_true (by omega)
    have hb2 : decide (0 < b.size) = true := decide_eq_true (by omega)
    have hn2 : (n == 1) = false := by simpa using hn1
    have HB0 := Lib.hid hb0
    have HN1 := Lib.hid hn1
    clear hb0 hn1
    go_enter Try.func102, Try.ntmps102
    go_wp2_with fail
    all_goals
      go_ret
      refine ⟨congrArg (fun x => Ending.returned (.bool x)) ?_, one_box _⟩
      rw [← hr.out]
      have hb0 := HB0.out
      have hn1 := HN1.out
      clear hr HB0 HN1
      rw [Bool.eq_iff_iff]
      unfold right
      simp only [decide_eq_true_eq, Bool.false_eq_true, false_iff, true_iff, ne_eq]
      omega
/-- a chunk's bytes, or none -/
def putU (c : Ck) : ByteArray × Int := if right c = true then (putC c, 0) else (⟨#[]⟩, 70)
set_option maxRecDepth 100000 in
set_option maxHeartbeats 2000000 in
theorem rcput_no (i n : Int) (d : Nat) (b : ByteArray) (w : World) (hr : Hid (right ⟨i, n, d, b⟩ = false)) :
    Calls Try.prog 46 #[.agg #[.int .i64 i, .int .i64 n, .int .u64 d, .string b]] w fun e w' => e = .returned (.tuple #[.string ⟨#[]⟩, .int .i64 70]) ∧ Below w.heap.size w w' := by
  go_enter Try.func46, Try.ntmps46
  go_wp2_with (go_at_call 102; refine (rright_in i n d b _ false hr).mono ?_; rintro e w1 ⟨rfl, hb1⟩)
  go_ret2
  exact ⟨rfl, (one_box _).trans (hb1.mono (by simp))⟩
set_option maxRecDepth 100000 in
set_option maxHeartbeats 4000000 in
theorem rcput_ok (i n : Nat) (d : Nat) (b s : ByteArray) (w : World) (hr : Hid (right ⟨i, n, d, b⟩ = true)) (hd : d < 18446744073709551616) (hs : Hid (putC ⟨i, n, d, b⟩ = s)) :
    Calls Try.prog 46 #[.agg #[.int .i64 i, .int .i64 n, .int .u64 d, .string b]] w fun e w' => e = .returned (.tuple #[.string s, .int .i64 0]) ∧ Below w.heap.size w w' := by
  obtain ⟨h0, h1, h2, h3, _⟩ := right_parts hr.out
  dsimp only at h0 h1 h2 h3
  have hi : i < 4096 := by omega
  have hn : n ≤ 4096 := by omega
  obtain ⟨p0, hp0⟩ : ∃ x, V.put i = x := ⟨_, rfl⟩
  obtain ⟨p1, hp1⟩ : ∃ x, V.put n = x := ⟨_, rfl⟩
  obtain ⟨p2, hp2⟩ : ∃ x, V.put d = x := ⟨_, rfl⟩
  obtain ⟨f, hf⟩ : ∃ f, frame b = f := ⟨_, rfl⟩
  have s0 : p0.size ≤ 10 := by rw [← hp0, V.put_size]; exact V.puts_len _ (by omega)
  have s1 : p1.size ≤ 10 := by rw [← hp1, V.put_size]; exact V.puts_len _ (by omega)
  have s2 : p2.size ≤ 10 := by rw [← hp2, V.put_size]; exact V.puts_len _ hd
  have f1 : f.size ≤ 5000 := by rw [← hf, frame_size]; have := V.puts_len b.size (by omega); omega
  have e : s = p0 ++ p1 ++ p2 ++ f := by rw [← hs.out, ← hp0, ← hp1, ← hp2, ← hf]; rfl
  subst e
  have HP0 := Lib.hid hp0
  have HP1 := Lib.hid hp1
  have HP2 := Lib.hid hp2
  have HF := Lib.hid hf
  have v0 : IntKind.u64.wrap (i : Int) = i := IntWalk.u64_in _ (by omega)
  have v1 : IntKind.u64.wrap (n : Int) = n := IntWalk.u64_in _ (by omega)
  clear hp0 hp1 hp2 hf hs h0 h1 h2
  go_enter Try.func46, Try.ntmps46
  go_wp2_with (go_at_call 102; refine (rright_in i n d b _ true hr).mono ?_; rintro e w1 ⟨rfl, hb1⟩)
  obtain ⟨c0, c1, c2, c3⟩ := four_cells (heap_alloc_new w (.cells #[.int .i64 i, .int .i64 n, .int .u64 d, .string b] 71)) hb1 (by simp)
  have HB1 := Lib.hid ((one_box (w := w) (.cells #[.int .i64 i, .int .i64 n, .int .u64 d, .string b] 71)).trans (hb1.mono (by simp)))
  clear hb1
  have hB1 := HB1.out
  have hcat0 := fun W => run_string_add_sum (P := Try.prog) W p0 p1 (by omega)
  have hcat1 := fun W => run_string_add_sum (P := Try.prog) W (p0 ++ p1) p2 (by rw [ByteArray.size_append]; omega)
  have hcat2 := fun W => run_string_add_sum (P := Try.prog) W (p0 ++ p1 ++ p2) f (by rw [ByteArray.size_append, ByteArray.size_append]; omega)
  go_region_held3 (fun w' => (w'.cell? ⟨w.heap.size, 0, none⟩ = some (.int .i64 i) ∧ w'.cell? ⟨w.heap.size, 1, none⟩ = some (.int .i64 n) ∧ w'.cell? ⟨w.heap.size, 2, none⟩ = some (.int .u64 d) ∧ w'.cell? ⟨w.heap.size, 3, none⟩ = some (.string b)) ∧ Below w.heap.size w w')
    (first | assumption | exact ⟨⟨c0, c1, c2, c3⟩, hB1.drew⟩ | exact hB1.drew | exact s4_next (by assumption) (by assumption) | exact s4_next (by assumption) ((Below.refl _ _).drew) | exact s4_next (s4_next (by assumption) ((Below.refl _ _).drew)) (by assumption))
    (first
      | (go_at_call 90; (with_reducible refine (vrput_is i p0 _ (by omega) HP0).mono ?_); rintro e w2 ⟨rfl, hb2⟩)
      | (go_at_call 90; (with_reducible refine (vrput_is n p1 _ (by omega) HP1).mono ?_); rintro e w2 ⟨rfl, hb2⟩)
      | (go_at_call 90; (with_reducible refine (vrput_is d p2 _ hd HP2).mono ?_); rintro e w2 ⟨rfl, hb2⟩)
      | (go_at_call 103; refine (refframe_is b f _ (by omega) HF).mono ?_; rintro e w3 ⟨rfl, hb3⟩))
  all_goals
    rename_i hh
    have hb2 := hh.2
    clear hh
    go_wp2_with fail
    go_ret2
    exact ⟨rfl, hb2⟩
theorem rcput_is (i n : Nat) (d : Nat) (b s : ByteArray) (x : Int) (w : World) (hd : d < 18446744073709551616) (hs : Hid (putU ⟨i, n, d, b⟩ = (s, x))) :
    Calls Try.prog 46 #[.agg #[.int .i64 i, .int .i64 n, .int .u64 d, .string b]] w fun e w' => e = .returned (.tuple #[.string s, .int .i64 x]) ∧ Below w.heap.size w w' := by
  have h := hs.out
  unfold putU at h
  split at h
  · rename_i q
    simp only [Prod.mk.injEq] at h
    obtain ⟨h1, rfl⟩ := h
    exact rcput_ok i n d b s w (Lib.hid q) hd (Lib.hid h1)
  · rename_i q
    simp only [Prod.mk.injEq] at h
    obtain ⟨rfl, rfl⟩ := h
    exact rcput_no i n d b w (Lib.hid (by simpa using q))

/-! ### the chunk of bytes -/
theorem rc_facts {s : ByteArray} {x : Ck} (h : right x = true) (hd : x.d < 18446744073709551616) (hp : putC x = s) :
    ∃ t0 t1 to : Int, V.get s 0 = (x.i.toNat, t0, 0) ∧ V.get s t0 = (x.n.toNat, t1, 0) ∧ V.get s t1 = (x.d, to, 0) ∧ cut s to 4096 = (x.b, (s.size : Int), 0) := by
  obtain ⟨h3, hc⟩ := read_put h hd
  rw [hp] at h3 hc
  obtain ⟨n0, t0, e0, g0⟩ : ∃ n t e, V.get s 0 = (n, t, e) := ⟨_, _, _, rfl⟩
  obtain ⟨n1, t1, e1, g1⟩ : ∃ n t e, V.get s t0 = (n, t, e) := ⟨_, _, _, rfl⟩
  obtain ⟨n2, t2, e2, g2⟩ : ∃ n t e, V.get s t1 = (n, t, e) := ⟨_, _, _, rfl⟩
  by_cases q0 : e0 = 0
  · subst q0
    by_cases q1 : e1 = 0
    · subst q1
      by_cases q2 : e2 = 0
      · subst q2
        rw [get3_yes g0 g1 g2] at h3
        simp only [Prod.mk.injEq] at h3
        obtain ⟨⟨rfl, rfl, rfl⟩, rfl, _⟩ := h3
        exact ⟨t0, t1, _, g0, g1, g2, hc⟩
      · rw [get3_no2 g0 g1 g2 q2] at h3; simp at h3
    · rw [get3_no1 g0 g1 q1] at h3; simp at h3
  · rw [get3_no0 g0 q0] at h3; simp at h3
theorem getU_none {s : ByteArray} {X : Ck} {E : Int} (HU : GetU s X E) (hn : ∀ x : Ck, right x = true → x.d < 18446744073709551616 → putC x = s → False) : X = Ck.zero ∧ E = 70 := by
  rcases HU with ⟨h1, h2, h3, _⟩ | ⟨_, h1, h2⟩
  · exact absurd (hn X h1 h2 h3) id
  · exact ⟨h1, h2⟩
theorem getU_is {s : ByteArray} {X x : Ck} {E : Int} (HU : GetU s X E) (h : right x = true) (hd : x.d < 18446744073709551616) (hp : putC x = s) : X = x ∧ E = 0 := by
  rcases HU with ⟨h1, h2, h3, h4⟩ | ⟨h1, _, _⟩
  · exact ⟨putC_inj h1 h h2 hd (h3.trans hp.symm), h4⟩
  · exact absurd hp (h1 x h hd)
end Go.Proofs.Ytlemcijgjebekaa.L7
/-
  The document's chunk of bytes.
-/
namespace Go.Proofs.Ytlemcijgjebekaa.L7
open Go.RowKit
open L3

set_option maxRecDepth 100000 in
set_option maxHeartbeats 2000000 in
theorem rcget_w0 (s : ByteArray) (w : World) (hs : s.size ≤ 1000000) (a : Nat) (t0 e0 : Int) (H0 : Hid (V.get s 0 = (a, t0, e0))) (n0 : e0 ≠ 0 ∨ 1099511627776 < a) :
    Calls Try.prog 48 #[.string s] w fun r w' => r = .returned (.tuple #[.agg #[.int .i64 0, .int .i64 0, .int .u64 0, .string ⟨#[]⟩], .int .i64 70]) ∧ Below w.heap.size w w' := by
  obtain ⟨gg, tt, ee, hG⟩ : ∃ g t e, V.get s 0 = (g, t, e) := ⟨_, _, _, rfl⟩
  have HG := Lib.hid hG
  clear hG
  go_enter Try.func48, Try.ntmps48
  go_wp2_with (first
    | (go_at_call 94; (with_reducible refine (rnum_no s 0 _ hs a t0 e0 H0 n0).mono ?_); rintro e w1 ⟨rfl, rfl⟩)
    | (go_at_call 105; (with_reducible refine (vrget_is s 0 _ hs gg tt ee HG).mono ?_); rintro e w1 ⟨rfl, rfl⟩))
  refine bodyPost_ret (v := .tuple #[.agg #[.int .i64 0, .int .i64 0, .int .u64 0, .string ⟨#[]⟩], .int .i64 70]) (results_row2 (p := 2) (t1 := 3) (ty := 71) Try.results48 _ _ w.heap.size 71 #[.int .i64 0, .int .i64 0, .int .u64 0, .string ⟨#[]⟩] (0, 0) _ rfl ?row Try.underlying71 rfl (by kernel_rfl)) rfl ⟨rfl, ?_⟩
  case row =>
    first
    | with_reducible exact heap_alloc_new _ _
    | exact (heap_setCell_same _ w.heap.size 3 _ _ (.string ⟨#[]⟩) (heap_setCell_same _ w.heap.size 2 _ _ (.int .u64 0) (heap_setCell_same _ w.heap.size 1 _ _ (.int .i64 0) (heap_setCell_same _ w.heap.size 0 _ _ (.int .i64 0) (heap_alloc_new _ _)))))
    | exact (Below.heap_alloc _ _ _ (by simp <;> omega)).trans (heap_setCell_same _ w.heap.size 3 _ _ (.string ⟨#[]⟩) (heap_setCell_same _ w.heap.size 2 _ _ (.int .u64 0) (heap_setCell_same _ w.heap.size 1 _ _ (.int .i64 0) (heap_setCell_same _ w.heap.size 0 _ _ (.int .i64 0) (heap_alloc_new _ _)))))
    | (refine (Below.heap_alloc _ _ _ (by simp <;> omega)).trans ?_; exact (heap_setCell_same _ w.heap.size 3 _ _ (.string ⟨#[]⟩) (heap_setCell_same _ w.heap.size 2 _ _ (.int .u64 0) (heap_setCell_same _ w.heap.size 1 _ _ (.int .i64 0) (heap_setCell_same _ w.heap.size 0 _ _ (.int .i64 0) (heap_alloc_new _ _))))))
  repeat (first | with_reducible exact Below.refl _ _ | exact Below.refl _ _ | refine Below.setCell ?_ (by simp <;> omega) _ | refine Below.alloc ?_ (by simp <;> omega) _)
set_option maxRecDepth 100000 in
set_option maxHeartbeats 2000000 in
theorem rcget_w1 (s : ByteArray) (w : World) (hs : s.size ≤ 1000000) (a b : Nat) (t0 t1 e1 : Int) (H0 : Hid (V.get s 0 = (a, t0, 0))) (n0 : a ≤ 1099511627776) (H1 : Hid (V.get s t0 = (b, t1, e1))) (n1 : e1 ≠ 0 ∨ 1099511627776 < b) :
    Calls Try.prog 48 #[.string s] w fun r w' => r = .returned (.tuple #[.agg #[.int .i64 0, .int .i64 0, .int .u64 0, .string ⟨#[]⟩], .int .i64 70]) ∧ Below w.heap.size w w' := by
  obtain ⟨gg, tt, ee, hG⟩ : ∃ g t e, V.get s 0 = (g, t, e) := ⟨_, _, _, rfl⟩
  have HG := Lib.hid hG
  clear hG
  go_enter Try.func48, Try.ntmps48
  go_wp2_with (first
    | (go_at_call 94; (with_reducible refine (rnum_no s t0 _ hs b t1 e1 H1 n1).mono ?_); rintro e w1 ⟨rfl, rfl⟩)
    | (go_at_call 94; (with_reducible refine (rnum_ok s 0 _ hs a t0 H0 n0).mono ?_); rintro e w1 ⟨rfl, rfl⟩)
    | (go_at_call 105; (with_reducible refine (vrget_is s 0 _ hs gg tt ee HG).mono ?_); rintro e w1 ⟨rfl, rfl⟩))
  refine bodyPost_ret (v := .tuple #[.agg #[.int .i64 0, .int .i64 0, .int .u64 0, .string ⟨#[]⟩], .int .i64 70]) (results_row2 (p := 2) (t1 := 3) (ty := 71) Try.results48 _ _ w.heap.size 71 #[.int .i64 0, .int .i64 0, .int .u64 0, .string ⟨#[]⟩] (0, 0) _ rfl ?row Try.underlying71 rfl (by kernel_rfl)) rfl ⟨rfl, ?_⟩
  case row =>
    first
    | with_reducible exact heap_alloc_new _ _
    | exact (heap_setCell_same _ w.heap.size 3 _ _ (.string ⟨#[]⟩) (heap_setCell_same _ w.heap.size 2 _ _ (.int .u64 0) (heap_setCell_same _ w.heap.size 1 _ _ (.int .i64 0) (heap_setCell_same _ w.heap.size 0 _ _ (.int .i64 0) (heap_alloc_new _ _)))))
    | exact (Below.heap_alloc _ _ _ (by simp <;> omega)).trans (heap_setCell_same _ w.heap.size 3 _ _ (.string ⟨#[]⟩) (heap_setCell_same _ w.heap.size 2 _ _ (.int .u64 0) (heap_setCell_same _ w.heap.size 1 _ _ (.int .i64 0) (heap_setCell_same _ w.heap.size 0 _ _ (.int .i64 0) (heap_alloc_new _ _)))))
    | (refine (Below.heap_alloc _ _ _ (by simp <;> omega)).trans ?_; exact (heap_setCell_same _ w.heap.size 3 _ _ (.string ⟨#[]⟩) (heap_setCell_same _ w.heap.size 2 _ _ (.int .u64 0) (heap_setCell_same _ w.heap.size 1 _ _ (.int .i64 0) (heap_setCell_same _ w.heap.size 0 _ _ (.int .i64 0) (heap_alloc_new _ _))))))
  repeat (first | with_reducible exact Below.refl _ _ | exact Below.refl _ _ | refine Below.setCell ?_ (by simp <;> omega) _ | refine Below.alloc ?_ (by simp <;> omega) _)
set_option maxRecDepth 100000 in
set_option maxHeartbeats 2000000 in
theorem rcget_w2 (s : ByteArray) (w : World) (hs : s.size ≤ 1000000) (a b d : Nat) (t0 t1 to e2 : Int) (H0 : Hid (V.get s 0 = (a, t0, 0))) (n0 : a ≤ 1099511627776) (H1 : Hid (V.get s t0 = (b, t1, 0))) (n1 : b ≤ 1099511627776) (H2 : Hid (V.get s t1 = (d, to, e2))) (he : e2 ≠ 0) :
    Calls Try.prog 48 #[.string s] w fun r w' => r = .returned (.tuple #[.agg #[.int .i64 0, .int .i64 0, .int .u64 0, .string ⟨#[]⟩], .int .i64 70]) ∧ Below w.heap.size w w' := by
  have he' : (e2 != 0) = true := by simpa using he
  clear he
  go_enter Try.func48, Try.ntmps48
  go_wp2_with (first
    | (go_at_call 94; (with_reducible refine (rnum_ok s t0 _ hs b t1 H1 n1).mono ?_); rintro e w1 ⟨rfl, rfl⟩)
    | (go_at_call 94; (with_reducible refine (rnum_ok s 0 _ hs a t0 H0 n0).mono ?_); rintro e w1 ⟨rfl, rfl⟩)
    | (go_at_call 105; (with_reducible refine (vrget_is s t1 _ hs d to e2 H2).mono ?_); rintro e w1 ⟨rfl, rfl⟩))
  refine bodyPost_ret (v := .tuple #[.agg #[.int .i64 0, .int .i64 0, .int .u64 0, .string ⟨#[]⟩], .int .i64 70]) (results_row2 (p := 2) (t1 := 3) (ty := 71) Try.results48 _ _ w.heap.size 71 #[.int .i64 0, .int .i64 0, .int .u64 0, .string ⟨#[]⟩] (0, 0) _ rfl ?row Try.underlying71 rfl (by kernel_rfl)) rfl ⟨rfl, ?_⟩
  case row =>
    first
    | with_reducible exact heap_alloc_new _ _
    | exact (heap_setCell_same _ w.heap.size 3 _ _ (.string ⟨#[]⟩) (heap_setCell_same _ w.heap.size 2 _ _ (.int .u64 0) (heap_setCell_same _ w.heap.size 1 _ _ (.int .i64 0) (heap_setCell_same _ w.heap.size 0 _ _ (.int .i64 0) (heap_alloc_new _ _)))))
    | exact (Below.heap_alloc _ _ _ (by simp <;> omega)).trans (heap_setCell_same _ w.heap.size 3 _ _ (.string ⟨#[]⟩) (heap_setCell_same _ w.heap.size 2 _ _ (.int .u64 0) (heap_setCell_same _ w.heap.size 1 _ _ (.int .i64 0) (heap_setCell_same _ w.heap.size 0 _ _ (.int .i64 0) (heap_alloc_new _ _)))))
    | (refine (Below.heap_alloc _ _ _ (by simp <;> omega)).trans ?_; exact (heap_setCell_same _ w.heap.size 3 _ _ (.string ⟨#[]⟩) (heap_setCell_same _ w.heap.size 2 _ _ (.int .u64 0) (heap_setCell_same _ w.heap.size 1 _ _ (.int .i64 0) (heap_setCell_same _ w.heap.size 0 _ _ (.int .i64 0) (heap_alloc_new _ _))))))
  repeat (first | with_reducible exact Below.refl _ _ | exact Below.refl _ _ | refine Below.setCell ?_ (by simp <;> omega) _ | refine Below.alloc ?_ (by simp <;> omega) _)
set_option maxRecDepth 100000 in
set_option maxHeartbeats 2000000 in
theorem rcget_w3 (s : ByteArray) (w : World) (hs : s.size ≤ 1000000) (a b d : Nat) (t0 t1 to c1 : Int) (t u : ByteArray) (H0 : Hid (V.get s 0 = (a, t0, 0))) (n0 : a ≤ 1099511627776) (H1 : Hid (V.get s t0 = (b, t1, 0))) (n1 : b ≤ 1099511627776) (H2 : Hid (V.get s t1 = (d, to, 0))) (hd : d < 18446744073709551616) (f g : Int) (HC : Hid (cut s to 4096 = (t, c1, f))) (HP : Hid (putU ⟨a, b, d, t⟩ = (u, g))) (hf : f ≠ 0) :
    Calls Try.prog 48 #[.string s] w fun r w' => r = .returned (.tuple #[.agg #[.int .i64 0, .int .i64 0, .int .u64 0, .string ⟨#[]⟩], .int .i64 70]) ∧ Below w.heap.size w w' := by
  have hf' : (f != 0) = true := by simpa using hf
  clear hf
  go_enter Try.func48, Try.ntmps48
  go_wp2_with (first
    | (go_at_call 46; refine (rcput_is a b d t u g _ hd HP).mono ?_; rintro e w3 ⟨rfl, hb3⟩; have hz3 : w2.heap.size < w3.heap.size := (by have := hb3.size; simp at this; omega); have hz3' : w.heap.size < w3.heap.size := (by omega); have HB3 : Hid (Below w.heap.size w w3) := Lib.hid ((HB2.out.alloc HB2.out.size _).trans (hb3.mono (by simp; omega))); have HR3 := Lib.hid ((hb3.block w.heap.size (by simp; omega)).trans ((Below.heap_alloc _ _ _ hz2).trans HR2.out)); have HT3 : Hid (w3.heap[w2.heap.size]? = some (.cells #[.int .i64 a, .int .i64 b, .int .u64 d, .string t] 71 (0, 0))) := Lib.hid ((hb3.block w2.heap.size (by simp)).trans (heap_alloc_new _ _)); obtain ⟨c30, c31, c32, c33, f30, f31, f32, f33⟩ := row_facts HR3.out; obtain ⟨d30, d31, d32, d33, _, _, _, _⟩ := row_facts HT3.out)
    | (go_at_call 106; refine (refcut_is s to 4096 _ (by omega) (by decide) t c1 f HC).mono ?_; rintro e w2 ⟨rfl, hb2⟩; have hz2 : w.heap.size < w2.heap.size := (by have := hb2.size; simp at this; omega); have HB2 : Hid (Below w.heap.size w w2) := Lib.hid ((one_box _).trans (hb2.mono (by simp))); have HR2 : Hid (w2.heap[w.heap.size]? = some (.cells #[.int .i64 0, .int .i64 0, .int .u64 0, .string ⟨#[]⟩] 71 (0, 0))) := Lib.hid ((hb2.block _ (by simp)).trans (heap_alloc_new _ _)); obtain ⟨c20, c21, c22, c23, f20, f21, f22, f23⟩ := row_facts HR2.out)
    | (go_at_call 94; (with_reducible refine (rnum_ok s t0 _ hs b t1 H1 n1).mono ?_); rintro e w1 ⟨rfl, rfl⟩)
    | (go_at_call 94; (with_reducible refine (rnum_ok s 0 _ hs a t0 H0 n0).mono ?_); rintro e w1 ⟨rfl, rfl⟩)
    | (go_at_call 105; (with_reducible refine (vrget_is s t1 _ hs d to 0 H2).mono ?_); rintro e w1 ⟨rfl, rfl⟩))
  refine bodyPost_ret (v := .tuple #[.agg #[.int .i64 0, .int .i64 0, .int .u64 0, .string ⟨#[]⟩], .int .i64 70]) (results_row2 (p := 2) (t1 := 3) (ty := 71) Try.results48 _ _ w.heap.size 71 #[.int .i64 0, .int .i64 0, .int .u64 0, .string ⟨#[]⟩] (0, 0) _ rfl ?row Try.underlying71 rfl (by kernel_rfl)) rfl ⟨rfl, ?_⟩
  case row =>
    first
    | with_reducible exact heap_alloc_new _ _
    | exact (heap_setCell_same _ w.heap.size 3 _ _ (.string ⟨#[]⟩) (heap_setCell_same _ w.heap.size 2 _ _ (.int .u64 0) (heap_setCell_same _ w.heap.size 1 _ _ (.int .i64 0) (heap_setCell_same _ w.heap.size 0 _ _ (.int .i64 0) HR3.out))))
    | exact (Below.heap_alloc _ _ _ (by simp <;> omega)).trans (heap_setCell_same _ w.heap.size 3 _ _ (.string ⟨#[]⟩) (heap_setCell_same _ w.heap.size 2 _ _ (.int .u64 0) (heap_setCell_same _ w.heap.size 1 _ _ (.int .i64 0) (heap_setCell_same _ w.heap.size 0 _ _ (.int .i64 0) HR3.out))))
    | (refine (Below.heap_alloc _ _ _ (by simp <;> omega)).trans ?_; exact (heap_setCell_same _ w.heap.size 3 _ _ (.string ⟨#[]⟩) (heap_setCell_same _ w.heap.size 2 _ _ (.int .u64 0) (heap_setCell_same _ w.heap.size 1 _ _ (.int .i64 0) (heap_setCell_same _ w.heap.size 0 _ _ (.int .i64 0) HR3.out)))))
  repeat (first | with_reducible exact HB3.out | exact Below.refl _ _ | refine Below.setCell ?_ (by simp <;> omega) _ | refine Below.alloc ?_ (by simp <;> omega) _)
set_option maxRecDepth 100000 in
set_option maxHeartbeats 2000000 in
theorem rcget_w4 (s : ByteArray) (w : World) (hs : s.size ≤ 1000000) (a b d : Nat) (t0 t1 to c1 : Int) (t u : ByteArray) (H0 : Hid (V.get s 0 = (a, t0, 0))) (n0 : a ≤ 1099511627776) (H1 : Hid (V.get s t0 = (b, t1, 0))) (n1 : b ≤ 1099511627776) (H2 : Hid (V.get s t1 = (d, to, 0))) (hd : d < 18446744073709551616) (g : Int) (HC : Hid (cut s to 4096 = (t, c1, 0))) (HP : Hid (putU ⟨a, b, d, t⟩ = (u, g))) (hg : g ≠ 0) :
    Calls Try.prog 48 #[.string s] w fun r w' => r = .returned (.tuple #[.agg #[.int .i64 0, .int .i64 0, .int .u64 0, .string ⟨#[]⟩], .int .i64 70]) ∧ Below w.heap.size w w' := by
  have hg' : (g != 0) = true := by simpa using hg
  clear hg
  go_enter Try.func48, Try.ntmps48
  go_wp2_with (first
    | (go_at_call 46; refine (rcput_is a b d t u g _ hd HP).mono ?_; rintro e w3 ⟨rfl, hb3⟩; have hz3 : w2.heap.size < w3.heap.size := (by have := hb3.size; simp at this; omega); have hz3' : w.heap.size < w3.heap.size := (by omega); have HB3 : Hid (Below w.heap.size w w3) := Lib.hid ((HB2.out.alloc HB2.out.size _).trans (hb3.mono (by simp; omega))); have HR3 := Lib.hid ((hb3.block w.heap.size (by simp; omega)).trans ((Below.heap_alloc _ _ _ hz2).trans HR2.out)); have HT3 : Hid (w3.heap[w2.heap.size]? = some (.cells #[.int .i64 a, .int .i64 b, .int .u64 d, .string t] 71 (0, 0))) := Lib.hid ((hb3.block w2.heap.size (by simp)).trans (heap_alloc_new _ _)); obtain ⟨c30, c31, c32, c33, f30, f31, f32, f33⟩ := row_facts HR3.out; obtain ⟨d30, d31, d32, d33, _, _, _, _⟩ := row_facts HT3.out)
    | (go_at_call 106; refine (refcut_is s to 4096 _ (by omega) (by decide) t c1 0 HC).mono ?_; rintro e w2 ⟨rfl, hb2⟩; have hz2 : w.heap.size < w2.heap.size := (by have := hb2.size; simp at this; omega); have HB2 : Hid (Below w.heap.size w w2) := Lib.hid ((one_box _).trans (hb2.mono (by simp))); have HR2 : Hid (w2.heap[w.heap.size]? = some (.cells #[.int .i64 0, .int .i64 0, .int .u64 0, .string ⟨#[]⟩] 71 (0, 0))) := Lib.hid ((hb2.block _ (by simp)).trans (heap_alloc_new _ _)); obtain ⟨c20, c21, c22, c23, f20, f21, f22, f23⟩ := row_facts HR2.out)
    | (go_at_call 94; (with_reducible refine (rnum_ok s t0 _ hs b t1 H1 n1).mono ?_); rintro e w1 ⟨rfl, rfl⟩)
    | (go_at_call 94; (with_reducible refine (rnum_ok s 0 _ hs a t0 H0 n0).mono ?_); rintro e w1 ⟨rfl, rfl⟩)
    | (go_at_call 105; (with_reducible refine (vrget_is s t1 _ hs d to 0 H2).mono ?_); rintro e w1 ⟨rfl, rfl⟩))
  refine bodyPost_ret (v := .tuple #[.agg #[.int .i64 0, .int .i64 0, .int .u64 0, .string ⟨#[]⟩], .int .i64 70]) (results_row2 (p := 2) (t1 := 3) (ty := 71) Try.results48 _ _ w.heap.size 71 #[.int .i64 0, .int .i64 0, .int .u64 0, .string ⟨#[]⟩] (0, 0) _ rfl ?row Try.underlying71 rfl (by kernel_rfl)) rfl ⟨rfl, ?_⟩
  case row =>
    first
    | with_reducible exact heap_alloc_new _ _
    | exact (heap_setCell_same _ w.heap.size 3 _ _ (.string ⟨#[]⟩) (heap_setCell_same _ w.heap.size 2 _ _ (.int .u64 0) (heap_setCell_same _ w.heap.size 1 _ _ (.int .i64 0) (heap_setCell_same _ w.heap.size 0 _ _ (.int .i64 0) HR3.out))))
    | exact (Below.heap_alloc _ _ _ (by simp <;> omega)).trans (heap_setCell_same _ w.heap.size 3 _ _ (.string ⟨#[]⟩) (heap_setCell_same _ w.heap.size 2 _ _ (.int .u64 0) (heap_setCell_same _ w.heap.size 1 _ _ (.int .i64 0) (heap_setCell_same _ w.heap.size 0 _ _ (.int .i64 0) HR3.out))))
    | (refine (Below.heap_alloc _ _ _ (by simp <;> omega)).trans ?_; exact (heap_setCell_same _ w.heap.size 3 _ _ (.string ⟨#[]⟩) (heap_setCell_same _ w.heap.size 2 _ _ (.int .u64 0) (heap_setCell_same _ w.heap.size 1 _ _ (.int .i64 0) (heap_setCell_same _ w.heap.size 0 _ _ (.int .i64 0) HR3.out)))))
  repeat (first | with_reducible exact HB3.out | exact Below.refl _ _ | refine Below.setCell ?_ (by simp <;> omega) _ | refine Below.alloc ?_ (by simp <;> omega) _)
set_option maxRecDepth 100000 in
set_option maxHeartbeats 2000000 in
theorem rcget_w5 (s : ByteArray) (w : World) (hs : s.size ≤ 1000000) (a b d : Nat) (t0 t1 to c1 : Int) (t u : ByteArray) (H0 : Hid (V.get s 0 = (a, t0, 0))) (n0 : a ≤ 1099511627776) (H1 : Hid (V.get s t0 = (b, t1, 0))) (n1 : b ≤ 1099511627776) (H2 : Hid (V.get s t1 = (d, to, 0))) (hd : d < 18446744073709551616) (HC : Hid (cut s to 4096 = (t, c1, 0))) (HP : Hid (putU ⟨a, b, d, t⟩ = (u, 0))) (hu : u ≠ s) :
    Calls Try.prog 48 #[.string s] w fun r w' => r = .returned (.tuple #[.agg #[.int .i64 0, .int .i64 0, .int .u64 0, .string ⟨#[]⟩], .int .i64 70]) ∧ Below w.heap.size w w' := by
  have hu' : (u.toList == s.toList) = false := bytes_ne hu
  clear hu
  go_enter Try.func48, Try.ntmps48
  go_wp2_with (first
    | (go_at_call 46; refine (rcput_is a b d t u 0 _ hd HP).mono ?_; rintro e w3 ⟨rfl, hb3⟩; have hz3 : w2.heap.size < w3.heap.size := (by have := hb3.size; simp at this; omega); have hz3' : w.heap.size < w3.heap.size := (by omega); have HB3 : Hid (Below w.heap.size w w3) := Lib.hid ((HB2.out.alloc HB2.out.size _).trans (hb3.mono (by simp; omega))); have HR3 := Lib.hid ((hb3.block w.heap.size (by simp; omega)).trans ((Below.heap_alloc _ _ _ hz2).trans HR2.out)); have HT3 : Hid (w3.heap[w2.heap.size]? = some (.cells #[.int .i64 a, .int .i64 b, .int .u64 d, .string t] 71 (0, 0))) := Lib.hid ((hb3.block w2.heap.size (by simp)).trans (heap_alloc_new _ _)); obtain ⟨c30, c31, c32, c33, f30, f31, f32, f33⟩ := row_facts HR3.out; obtain ⟨d30, d31, d32, d33, _, _, _, _⟩ := row_facts HT3.out)
    | (go_at_call 106; refine (refcut_is s to 4096 _ (by omega) (by decide) t c1 0 HC).mono ?_; rintro e w2 ⟨rfl, hb2⟩; have hz2 : w.heap.size < w2.heap.size := (by have := hb2.size; simp at this; omega); have HB2 : Hid (Below w.heap.size w w2) := Lib.hid ((one_box _).trans (hb2.mono (by simp))); have HR2 : Hid (w2.heap[w.heap.size]? = some (.cells #[.int .i64 0, .int .i64 0, .int .u64 0, .string ⟨#[]⟩] 71 (0, 0))) := Lib.hid ((hb2.block _ (by simp)).trans (heap_alloc_new _ _)); obtain ⟨c20, c21, c22, c23, f20, f21, f22, f23⟩ := row_facts HR2.out)
    | (go_at_call 94; (with_reducible refine (rnum_ok s t0 _ hs b t1 H1 n1).mono ?_); rintro e w1 ⟨rfl, rfl⟩)
    | (go_at_call 94; (with_reducible refine (rnum_ok s 0 _ hs a t0 H0 n0).mono ?_); rintro e w1 ⟨rfl, rfl⟩)
    | (go_at_call 105; (with_reducible refine (vrget_is s t1 _ hs d to 0 H2).mono ?_); rintro e w1 ⟨rfl, rfl⟩))
  refine bodyPost_ret (v := .tuple #[.agg #[.int .i64 0, .int .i64 0, .int .u64 0, .string ⟨#[]⟩], .int .i64 70]) (results_row2 (p := 2) (t1 := 3) (ty := 71) Try.results48 _ _ w.heap.size 71 #[.int .i64 0, .int .i64 0, .int .u64 0, .string ⟨#[]⟩] (0, 0) _ rfl ?row Try.underlying71 rfl (by kernel_rfl)) rfl ⟨rfl, ?_⟩
  case row =>
    first
    | with_reducible exact heap_alloc_new _ _
    | exact (heap_setCell_same _ w.heap.size 3 _ _ (.string ⟨#[]⟩) (heap_setCell_same _ w.heap.size 2 _ _ (.int .u64 0) (heap_setCell_same _ w.heap.size 1 _ _ (.int .i64 0) (heap_setCell_same _ w.heap.size 0 _ _ (.int .i64 0) HR3.out))))
    | exact (Below.heap_alloc _ _ _ (by simp <;> omega)).trans (heap_setCell_same _ w.heap.size 3 _ _ (.string ⟨#[]⟩) (heap_setCell_same _ w.heap.size 2 _ _ (.int .u64 0) (heap_setCell_same _ w.heap.size 1 _ _ (.int .i64 0) (heap_setCell_same _ w.heap.size 0 _ _ (.int .i64 0) HR3.out))))
    | (refine (Below.heap_alloc _ _ _ (by simp <;> omega)).trans ?_; exact (heap_setCell_same _ w.heap.size 3 _ _ (.string ⟨#[]⟩) (heap_setCell_same _ w.heap.size 2 _ _ (.int .u64 0) (heap_setCell_same _ w.heap.size 1 _ _ (.int .i64 0) (heap_setCell_same _ w.heap.size 0 _ _ (.int .i64 0) HR3.out)))))
  repeat (first | with_reducible exact HB3.out | exact Below.refl _ _ | refine Below.setCell ?_ (by simp <;> omega) _ | refine Below.alloc ?_ (by simp <;> omega) _)
set_option maxRecDepth 100000 in
set_option maxHeartbeats 2000000 in
theorem rcget_w6 (s : ByteArray) (w : World) (hs : s.size ≤ 1000000) (a b d : Nat) (t0 t1 to c1 : Int) (t : ByteArray) (H0 : Hid (V.get s 0 = (a, t0, 0))) (n0 : a ≤ 1099511627776) (H1 : Hid (V.get s t0 = (b, t1, 0))) (n1 : b ≤ 1099511627776) (H2 : Hid (V.get s t1 = (d, to, 0))) (hd : d < 18446744073709551616) (HC : Hid (cut s to 4096 = (t, c1, 0))) (HP : Hid (putU ⟨a, b, d, t⟩ = (s, 0))) :
    Calls Try.prog 48 #[.string s] w fun r w' => r = .returned (.tuple #[.agg #[.int .i64 a, .int .i64 b, .int .u64 d, .string t], .int .i64 0]) ∧ Below w.heap.size w w' := by
  go_enter Try.func48, Try.ntmps48
  go_wp2_with (first
    | (go_at_call 46; refine (rcput_is a b d t s 0 _ hd HP).mono ?_; rintro e w3 ⟨rfl, hb3⟩; have hz3 : w2.heap.size < w3.heap.size := (by have := hb3.size; simp at this; omega); have hz3' : w.heap.size < w3.heap.size := (by omega); have HB3 : Hid (Below w.heap.size w w3) := Lib.hid ((HB2.out.alloc HB2.out.size _).trans (hb3.mono (by simp; omega))); have HR3 := Lib.hid ((hb3.block w.heap.size (by simp; omega)).trans ((Below.heap_alloc _ _ _ hz2).trans HR2.out)); have HT3 : Hid (w3.heap[w2.heap.size]? = some (.cells #[.int .i64 a, .int .i64 b, .int .u64 d, .string t] 71 (0, 0))) := Lib.hid ((hb3.block w2.heap.size (by simp)).trans (heap_alloc_new _ _)); obtain ⟨c30, c31, c32, c33, f30, f31, f32, f33⟩ := row_facts HR3.out; obtain ⟨d30, d31, d32, d33, _, _, _, _⟩ := row_facts HT3.out)
    | (go_at_call 106; refine (refcut_is s to 4096 _ (by omega) (by decide) t c1 0 HC).mono ?_; rintro e w2 ⟨rfl, hb2⟩; have hz2 : w.heap.size < w2.heap.size := (by have := hb2.size; simp at this; omega); have HB2 : Hid (Below w.heap.size w w2) := Lib.hid ((one_box _).trans (hb2.mono (by simp))); have HR2 : Hid (w2.heap[w.heap.size]? = some (.cells #[.int .i64 0, .int .i64 0, .int .u64 0, .string ⟨#[]⟩] 71 (0, 0))) := Lib.hid ((hb2.block _ (by simp)).trans (heap_alloc_new _ _)); obtain ⟨c20, c21, c22, c23, f20, f21, f22, f23⟩ := row_facts HR2.out)
    | (go_at_call 94; (with_reducible refine (rnum_ok s t0 _ hs b t1 H1 n1).mono ?_); rintro e w1 ⟨rfl, rfl⟩)
    | (go_at_call 94; (with_reducible refine (rnum_ok s 0 _ hs a t0 H0 n0).mono ?_); rintro e w1 ⟨rfl, rfl⟩)
    | (go_at_call 105; (with_reducible refine (vrget_is s t1 _ hs d to 0 H2).mono ?_); rintro e w1 ⟨rfl, rfl⟩))
  refine bodyPost_ret (v := .tuple #[.agg #[.int .i64 a, .int .i64 b, .int .u64 d, .string t], .int .i64 0]) (results_row2 (p := 2) (t1 := 3) (ty := 71) Try.results48 _ _ w.heap.size 71 #[.int .i64 a, .int .i64 b, .int .u64 d, .string t] (0, 0) _ rfl ?row Try.underlying71 rfl (by kernel_rfl)) rfl ⟨rfl, ?_⟩
  case row =>
    first
    | with_reducible exact heap_alloc_new _ _
    | exact (heap_setCell_same _ w.heap.size 3 _ _ (.string t) (heap_setCell_same _ w.heap.size 2 _ _ (.int .u64 d) (heap_setCell_same _ w.heap.size 1 _ _ (.int .i64 b) (heap_setCell_same _ w.heap.size 0 _ _ (.int .i64 a) HR3.out))))
    | exact (Below.heap_alloc _ _ _ (by simp <;> omega)).trans (heap_setCell_same _ w.heap.size 3 _ _ (.string t) (heap_setCell_same _ w.heap.size 2 _ _ (.int .u64 d) (heap_setCell_same _ w.heap.size 1 _ _ (.int .i64 b) (heap_setCell_same _ w.heap.size 0 _ _ (.int .i64 a) HR3.out))))
    | (refine (Below.heap_alloc _ _ _ (by simp <;> omega)).trans ?_; exact (heap_setCell_same _ w.heap.size 3 _ _ (.string t) (heap_setCell_same _ w.heap.size 2 _ _ (.int .u64 d) (heap_setCell_same _ w.heap.size 1 _ _ (.int .i64 b) (heap_setCell_same _ w.heap.size 0 _ _ (.int .i64 a) HR3.out)))))
  repeat (first | with_reducible exact HB3.out | exact Below.refl _ _ | refine Below.setCell ?_ (by simp <;> omega) _ | refine Below.alloc ?_ (by simp <;> omega) _)
theorem rcget_is (s : ByteArray) (w : World) (hs : s.size ≤ 1000000) (X : Ck) (E : Int) (HU : Hid (GetU s X E)) :
    Calls Try.prog 48 #[.string s] w (gotC X E w) := by
  obtain ⟨a, t0, e0, h0⟩ : ∃ n t e, V.get s 0 = (n, t, e) := ⟨_, _, _, rfl⟩
  have none := getU_none HU.out
  have small : ∀ x : Ck, right x = true → x.i.toNat ≤ 4096 ∧ x.n.toNat ≤ 4096 := fun x h => by have := right_parts h; omega
  by_cases q0 : e0 ≠ 0 ∨ 1099511627776 < a
  · obtain ⟨rfl, rfl⟩ := none (fun x h1 h2 h3 => by
      obtain ⟨_, _, _, g, _⟩ := rc_facts h1 h2 h3
      have := small x h1
      rw [h0] at g; simp only [Prod.mk.injEq] at g; omega)
    exact rcget_w0 s w hs a t0 e0 (Lib.hid h0) q0
  obtain ⟨rfl, n0⟩ : e0 = 0 ∧ a ≤ 1099511627776 := by omega
  obtain ⟨b, t1, e1, h1⟩ : ∃ n t e, V.get s t0 = (n, t, e) := ⟨_, _, _, rfl⟩
  by_cases q1 : e1 ≠ 0 ∨ 1099511627776 < b
  · obtain ⟨rfl, rfl⟩ := none (fun x k1 k2 k3 => by
      obtain ⟨t0', _, _, g, g', _⟩ := rc_facts k1 k2 k3
      have := small x k1
      rw [h0] at g; simp only [Prod.mk.injEq] at g
      obtain ⟨_, rfl, _⟩ := g
      rw [h1] at g'; simp only [Prod.mk.injEq] at g'; omega)
    exact rcget_w1 s w hs a b t0 t1 e1 (Lib.hid h0) n0 (Lib.hid h1) q1
  obtain ⟨rfl, n1⟩ : e1 = 0 ∧ b ≤ 1099511627776 := by omega
  obtain ⟨d, to, e2, h2⟩ : ∃ n t e, V.get s t1 = (n, t, e) := ⟨_, _, _, rfl⟩
  have key : ∀ x : Ck, right x = true → x.d < 18446744073709551616 → putC x = s → x.i = a ∧ x.n = b ∧ x.d = d ∧ e2 = 0 ∧ cut s to 4096 = (x.b, (s.size : Int), 0) := fun x k1 k2 k3 => by
    obtain ⟨t0', t1', to', g, g', g'', hc⟩ := rc_facts k1 k2 k3
    have := right_parts k1
    rw [h0] at g; simp only [Prod.mk.injEq] at g
    obtain ⟨ga, rfl, _⟩ := g
    rw [h1] at g'; simp only [Prod.mk.injEq] at g'
    obtain ⟨gb, rfl, _⟩ := g'
    rw [h2] at g''; simp only [Prod.mk.injEq] at g''
    obtain ⟨gd, rfl, ge⟩ := g''
    exact ⟨by omega, by omega, gd.symm, ge, hc⟩
  by_cases q2 : e2 = 0
  · subst q2
    have hd : d < 18446744073709551616 := (get_ok h2).2.2.2.1
    obtain ⟨t, c1, f, hc⟩ : ∃ t e x, cut s to 4096 = (t, e, x) := ⟨_, _, _, rfl⟩
    obtain ⟨u, g, hp⟩ : ∃ u g, putU ⟨a, b, d, t⟩ = (u, g) := ⟨_, _, rfl⟩
    by_cases qf : f = 0
    · subst qf
      by_cases qr : right ⟨a, b, d, t⟩ = true
      · have hp' := hp
        unfold putU at hp'
        rw [if_pos qr] at hp'
        simp only [Prod.mk.injEq] at hp'
        obtain ⟨hp1, rfl⟩ := hp'
        by_cases qu : u = s
        · subst qu
          obtain ⟨rfl, rfl⟩ := getU_is HU.out qr hd hp1
          exact rcget_w6 _ w hs a b d t0 t1 to c1 t (Lib.hid h0) n0 (Lib.hid h1) n1 (Lib.hid h2) hd (Lib.hid hc) (Lib.hid hp)
        · obtain ⟨rfl, rfl⟩ := none (fun x k1 k2 k3 => by
            obtain ⟨g1, g2, g3, _, g5⟩ := key x k1 k2 k3
            rw [hc] at g5; simp only [Prod.mk.injEq] at g5
            obtain ⟨xi, xn, xd, xb⟩ := x
            dsimp only at g1 g2 g3 g5
            obtain ⟨rfl, _⟩ := g5
            subst g1 g2 g3
            exact qu (hp1.symm.trans k3))
          exact rcget_w5 s w hs a b d t0 t1 to c1 t u (Lib.hid h0) n0 (Lib.hid h1) n1 (Lib.hid h2) hd (Lib.hid hc) (Lib.hid hp) qu
      · have hp' := hp
        unfold putU at hp'
        rw [if_neg qr] at hp'
        simp only [Prod.mk.injEq] at hp'
        obtain ⟨_, rfl⟩ := hp'
        obtain ⟨rfl, rfl⟩ := none (fun x k1 k2 k3 => by
          obtain ⟨g1, g2, g3, _, g5⟩ := key x k1 k2 k3
          rw [hc] at g5; simp only [Prod.mk.injEq] at g5
          obtain ⟨xi, xn, xd, xb⟩ := x
          dsimp only at g1 g2 g3 g5
          obtain ⟨rfl, _⟩ := g5
          subst g1 g2 g3
          exact qr k1)
        exact rcget_w4 s w hs a b d t0 t1 to c1 t u (Lib.hid h0) n0 (Lib.hid h1) n1 (Lib.hid h2) hd 70 (Lib.hid hc) (Lib.hid hp) (by decide)
    · obtain ⟨rfl, rfl⟩ := none (fun x k1 k2 k3 => by
        obtain ⟨_, _, _, _, g5⟩ := key x k1 k2 k3
        rw [hc] at g5; simp only [Prod.mk.injEq] at g5
        exact qf g5.2.2)
      exact rcget_w3 s w hs a b d t0 t1 to c1 t u (Lib.hid h0) n0 (Lib.hid h1) n1 (Lib.hid h2) hd f g (Lib.hid hc) (Lib.hid hp) qf
  · obtain ⟨rfl, rfl⟩ := none (fun x k1 k2 k3 => q2 (key x k1 k2 k3).2.2.2.1)
    exact rcget_w2 s w hs a b d t0 t1 to e2 (Lib.hid h0) n0 (Lib.hid h1) n1 (Lib.hid h2) q2
end Go.Proofs.Ytlemcijgjebekaa.L7
