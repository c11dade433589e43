/-
  Contracts: three numbers put and got; whether a chunk is right; its bytes, and the chunk of bytes.
-/
import Derived.Test.YtlemcijgjebekaaCrcImp
import Derived.Test.YtlemcijgjebekaaChMath
import Derived.Deep.RegionHeld3
import Derived.LoopN
namespace Go.Proofs.Ytlemcijgjebekaa.L7
open Go.RowKit
open L3

theorem vput_is (n : Nat) (s : ByteArray) (w : World) (hn : n < 18446744073709551616) (h : Hid (V.put n = s)) :
    Calls Try.prog 88 #[.int .u64 n] w fun e w' => e = .returned (.string s) ∧ Below w.heap.size w w' := by
  rw [← h.out]
  exact put_any (n : Int) w (by omega) (by omega)

set_option maxRecDepth 100000 in
set_option maxHeartbeats 1000000 in
theorem put3_is (a b c : Nat) (s : ByteArray) (w : World) (ha : a < 9223372036854775808) (hb : b < 9223372036854775808) (hc : c < 18446744073709551616) (hs : Hid (three a b c = s)) :
    Calls Try.prog 86 #[.int .i64 a, .int .i64 b, .int .u64 c] w fun e w' => e = .returned (.string s) ∧ Below w.heap.size w w' := by
  obtain ⟨x, hx⟩ : ∃ x, V.put a = x := ⟨_, rfl⟩
  obtain ⟨y, hy⟩ : ∃ y, V.put b = y := ⟨_, rfl⟩
  obtain ⟨z, hz⟩ : ∃ z, V.put c = z := ⟨_, rfl⟩
  have x1 : x.size ≤ 10 := by rw [← hx, V.put_size]; exact V.puts_len _ (by omega)
  have y1 : y.size ≤ 10 := by rw [← hy, V.put_size]; exact V.puts_len _ (by omega)
  have z1 : z.size ≤ 10 := by rw [← hz, V.put_size]; exact V.puts_len _ (by omega)
  have e : s = x ++ y ++ z := by rw [← hs.out, ← hx, ← hy, ← hz]; rfl
  have hxy : (x ++ y).size ≤ 20 := by rw [ByteArray.size_append]; omega
  subst e
  have HX := Lib.hid hx
  have HY := Lib.hid hy
  have HZ := Lib.hid hz
  clear hx hy hz hs
  go_enter Try.func86, Try.ntmps86
  go_wp2_with (first
    | (go_at_call 88; have _q := hb2; refine (vput_is c _ _ (by omega) HZ).mono ?_; rintro e w3 ⟨rfl, hb3⟩)
    | (go_at_call 88; have _q := hb1; refine (vput_is b _ _ (by omega) HY).mono ?_; rintro e w2 ⟨rfl, hb2⟩)
    | (go_at_call 88; refine (vput_is a _ _ (by omega) HX).mono ?_; rintro e w1 ⟨rfl, hb1⟩))
  go_ret
  exact ⟨rfl, acc (acc hb1 hb2) hb3⟩

set_option maxRecDepth 100000 in
set_option maxHeartbeats 2000000 in
theorem get3_w0 (s : ByteArray) (w : World) (hs : s.size ≤ 1000000) (a : Nat) (t0 e : Int) (H0 : Hid (V.get s 0 = (a, t0, e))) (he : (e == 0) = false) :
    Calls Try.prog 92 #[.string s] w fun r w' => r = .returned (.tuple #[.agg #[.int .u64 0, .int .u64 0, .int .u64 0], .int .i64 0, .bool false]) ∧ Below w.heap.size w w' := by
  go_enter Try.func92, Try.ntmps92
  go_wp2_with fail
  refine wp_loop_rounds 4 ?_
  rw [rounds_succ]
  go_wp2_with (go_at_call 128; refine (get_is s 0 _ (by unfold maxLen; omega) a t0 e H0).mono ?_; rintro _ w1 ⟨rfl, rfl⟩)
  exact bodyPost_ret (v := .tuple #[.agg #[.int .u64 0, .int .u64 0, .int .u64 0], .int .i64 0, .bool false]) (by simp [results, Try.results92, go_sem]) rfl ⟨rfl, two_box _ _⟩
set_option maxRecDepth 100000 in
set_option maxHeartbeats 2000000 in
theorem get3_w1 (s : ByteArray) (w : World) (hs : s.size ≤ 1000000) (a b : Nat) (t0 t1 e : Int) (H0 : Hid (V.get s 0 = (a, t0, 0))) (H1 : Hid (V.get s t0 = (b, t1, e))) (he : (e == 0) = false) :
    Calls Try.prog 92 #[.string s] w fun r w' => r = .returned (.tuple #[.agg #[.int .u64 0, .int .u64 0, .int .u64 0], .int .i64 0, .bool false]) ∧ Below w.heap.size w w' := by
  go_enter Try.func92, Try.ntmps92
  go_wp2_with fail
  refine wp_loop_rounds 4 ?_
  rw [rounds_succ]
  go_wp2_with (go_at_call 128; refine (get_is s 0 _ (by unfold maxLen; omega) a t0 0 H0).mono ?_; rintro _ w1 ⟨rfl, rfl⟩)
  rw [rounds_succ]
  go_wp2_with (go_at_call 128; refine (get_is s t0 _ (by unfold maxLen; omega) b t1 e H1).mono ?_; rintro _ w2 ⟨rfl, rfl⟩)
  exact bodyPost_ret (v := .tuple #[.agg #[.int .u64 0, .int .u64 0, .int .u64 0], .int .i64 0, .bool false]) (by simp [results, Try.results92, go_sem]) rfl ⟨rfl, two_box _ _⟩
set_option maxRecDepth 100000 in
set_option maxHeartbeats 2000000 in
theorem get3_w2 (s : ByteArray) (w : World) (hs : s.size ≤ 1000000) (a b c : Nat) (t0 t1 t2 e : Int) (H0 : Hid (V.get s 0 = (a, t0, 0))) (H1 : Hid (V.get s t0 = (b, t1, 0))) (H2 : Hid (V.get s t1 = (c, t2, e))) (he : (e == 0) = false) :
    Calls Try.prog 92 #[.string s] w fun r w' => r = .returned (.tuple #[.agg #[.int .u64 0, .int .u64 0, .int .u64 0], .int .i64 0, .bool false]) ∧ Below w.heap.size w w' := by
  go_enter Try.func92, Try.ntmps92
  go_wp2_with fail
  refine wp_loop_rounds 4 ?_
  rw [rounds_succ]
  go_wp2_with (go_at_call 128; refine (get_is s 0 _ (by unfold maxLen; omega) a t0 0 H0).mono ?_; rintro _ w1 ⟨rfl, rfl⟩)
  rw [rounds_succ]
  go_wp2_with (go_at_call 128; refine (get_is s t0 _ (by unfold maxLen; omega) b t1 0 H1).mono ?_; rintro _ w2 ⟨rfl, rfl⟩)
  rw [rounds_succ]
  go_wp2_with (go_at_call 128; refine (get_is s t1 _ (by unfold maxLen; omega) c t2 e H2).mono ?_; rintro _ w3 ⟨rfl, rfl⟩)
  exact bodyPost_ret (v := .tuple #[.agg #[.int .u64 0, .int .u64 0, .int .u64 0], .int .i64 0, .bool false]) (by simp [results, Try.results92, go_sem]) rfl ⟨rfl, two_box _ _⟩
set_option maxRecDepth 100000 in
set_option maxHeartbeats 2000000 in
theorem get3_w3 (s : ByteArray) (w : World) (hs : s.size ≤ 1000000) (a b c : Nat) (t0 t1 t2 : Int) (H0 : Hid (V.get s 0 = (a, t0, 0))) (H1 : Hid (V.get s t0 = (b, t1, 0))) (H2 : Hid (V.get s t1 = (c, t2, 0))) :
    Calls Try.prog 92 #[.string s] w fun r w' => r = .returned (.tuple #[.agg #[.int .u64 a, .int .u64 b, .int .u64 c], .int .i64 t2, .bool true]) ∧ Below w.heap.size w w' := by
  go_enter Try.func92, Try.ntmps92
  go_wp2_with fail
  refine wp_loop_rounds 4 ?_
  rw [rounds_succ]
  go_wp2_with (go_at_call 128; refine (get_is s 0 _ (by unfold maxLen; omega) a t0 0 H0).mono ?_; rintro _ w1 ⟨rfl, rfl⟩)
  rw [rounds_succ]
  go_wp2_with (go_at_call 128; refine (get_is s t0 _ (by unfold maxLen; omega) b t1 0 H1).mono ?_; rintro _ w2 ⟨rfl, rfl⟩)
  rw [rounds_succ]
  go_wp2_with (go_at_call 128; refine (get_is s t1 _ (by unfold maxLen; omega) c t2 0 H2).mono ?_; rintro _ w3 ⟨rfl, rfl⟩)
  rw [rounds_succ]
  go_wp2_with fail
  exact bodyPost_ret (v := .tuple #[.agg #[.int .u64 a, .int .u64 b, .int .u64 c], .int .i64 t2, .bool true]) (by simp [results, Try.results92, go_sem]) rfl ⟨rfl, two_box _ _⟩
theorem get3_is (s : ByteArray) (w : World) (hs : s.size ≤ 1000000) (a b c : Nat) (to : Int) (ok : Bool) (H : Hid (get3 s = ((a, b, c), to, ok))) :
    Calls Try.prog 92 #[.string s] w fun r w' => r = .returned (.tuple #[.agg #[.int .u64 a, .int .u64 b, .int .u64 c], .int .i64 to, .bool ok]) ∧ Below w.heap.size w w' := by
  have h := H.out
  obtain ⟨n0, t0, e0, h0⟩ : ∃ n t e, V.get s 0 = (n, t, e) := ⟨_, _, _, rfl⟩
  obtain ⟨n1, t1, e1, h1⟩ : ∃ n t e, V.get s t0 = (n, t, e) := ⟨_, _, _, rfl⟩
  obtain ⟨n2, t2, e2, h2⟩ : ∃ n t e, V.get s t1 = (n, t, e) := ⟨_, _, _, rfl⟩
  by_cases q0 : e0 = 0
  · subst q0
    by_cases q1 : e1 = 0
    · subst q1
      by_cases q2 : e2 = 0
      · subst q2
        rw [get3_yes h0 h1 h2] at h
        simp only [Prod.mk.injEq] at h
        obtain ⟨⟨rfl, rfl, rfl⟩, rfl, rfl⟩ := h
        exact get3_w3 s w hs _ _ _ _ _ _ (Lib.hid h0) (Lib.hid h1) (Lib.hid h2)
      · rw [get3_no2 h0 h1 h2 q2] at h
        simp only [Prod.mk.injEq] at h
        obtain ⟨⟨rfl, rfl, rfl⟩, rfl, rfl⟩ := h
        exact get3_w2 s w hs _ _ _ _ _ _ e2 (Lib.hid h0) (Lib.hid h1) (Lib.hid h2) (by simpa using q2)
    · rw [get3_no1 h0 h1 q1] at h
      simp only [Prod.mk.injEq] at h
      obtain ⟨⟨rfl, rfl, rfl⟩, rfl, rfl⟩ := h
      exact get3_w1 s w hs _ _ _ _ e1 (Lib.hid h0) (Lib.hid h1) (by simpa using q1)
  · rw [get3_no0 h0 q0] at h
    simp only [Prod.mk.injEq] at h
    obtain ⟨⟨rfl, rfl, rfl⟩, rfl, rfl⟩ := h
    exact get3_w0 s w hs _ _ e0 (Lib.hid h0) (by simpa using q0)

abbrev ckV (c : Ck) : Value := .agg #[.int .i64 c.i, .int .i64 c.n, .int .u64 c.d, .string c.b]
set_option maxRecDepth 100000 in
set_option maxHeartbeats 2000000 in
theorem right_in (i n : Int) (d : Nat) (b : ByteArray) (w : World) (r : Bool) (hr : Hid (right ⟨i, n, d, b⟩ = r)) :
    Calls Try.prog 100 #[.agg #[.int .i64 i, .int .i64 n, .int .u64 d, .string b]] w fun e w' => e = .returned (.bool r) ∧ Below w.heap.size w w' := by
  have htl : b.toList = [] ↔ b.size = 0 := by
    rw [ByteArray.toList_eq]
    exact List.length_eq_zero_iff.symm.trans (by rw [Array.length_toList]; rfl)
  have HTL := Lib.hid htl
  clear htl
  go_enter Try.func100, Try.ntmps100
  go_wp2_with fail
  all_goals
    go_ret
    refine ⟨congrArg (fun x => Ending.returned (.bool x)) ?_, one_box _⟩
    rw [← hr.out]
    have htl := HTL.out
    clear HTL hr
    rw [Bool.eq_iff_iff]
    unfold right
    simp only [decide_eq_true_eq, beq_iff_eq, Bool.false_eq_true, false_iff, true_iff, ne_eq]
    try simp only [htl] at *
    omega

theorem keeps_cell {w w' : World} {k o : Nat} {v : Value} (h : w.cell? ⟨k, o, none⟩ = some v) (b : Below w.heap.size w w') (hk : k < w.heap.size) : w'.cell? ⟨k, o, none⟩ = some v := (b.cell (p := ⟨k, o, none⟩) hk).trans h
theorem four_cells {w w' : World} {k : Nat} {T : TypeId} {x y z u : Value} (h : w.heap[k]? = some (.cells #[x, y, z, u] T (0, 0))) (b : Below w.heap.size w w') (hk : k < w.heap.size) :
    w'.cell? ⟨k, 0, none⟩ = some x ∧ w'.cell? ⟨k, 1, none⟩ = some y ∧ w'.cell? ⟨k, 2, none⟩ = some z ∧ w'.cell? ⟨k, 3, none⟩ = some u := by
  have h' := (b.block k hk).trans h
  simp [World.cell?, h']
theorem four_frozen {w w' : World} {k : Nat} {T : TypeId} {cs : Array Value} (h : w.heap[k]? = some (.cells cs T (0, 0))) (b : Below w.heap.size w w') (hk : k < w.heap.size) : ∀ i, w'.frozen? ⟨k, i, none⟩ = false := fun i => by
  have h' := (b.block k hk).trans h
  simp [World.frozen?, h']
theorem s4_next {w w1 w2 : World} {k : Nat} {x y z u : Value} (h : (w1.cell? ⟨k, 0, none⟩ = some x ∧ w1.cell? ⟨k, 1, none⟩ = some y ∧ w1.cell? ⟨k, 2, none⟩ = some z ∧ w1.cell? ⟨k, 3, none⟩ = some u) ∧ Below w.heap.size w w1) (b : Below w1.heap.size w1 w2) :
    (w2.cell? ⟨k, 0, none⟩ = some x ∧ w2.cell? ⟨k, 1, none⟩ = some y ∧ w2.cell? ⟨k, 2, none⟩ = some z ∧ w2.cell? ⟨k, 3, none⟩ = some u) ∧ Below w.heap.size w w2 :=
  have hk := World.block_lt_of_cell? _ _ h.1.1
  ⟨⟨keeps_cell h.1.1 b hk, keeps_cell h.1.2.1 b hk, keeps_cell h.1.2.2.1 b hk, keeps_cell h.1.2.2.2 b hk⟩, acc h.2 b⟩
theorem cframe_is (s f : ByteArray) (w : World) (hs : s.size ≤ 140737488355328) (h : Hid (frame s = f)) :
    Calls Try.prog 101 #[.string s] w fun e w' => e = .returned (.string f) ∧ Below w.heap.size w w' := by
  rw [← h.out]
  exact frame_any s w hs
theorem ccut_is (s : ByteArray) (at_ most : Int) (w : World) (hs : s.size ≤ 140737488355328) (hmost : most ≤ 9223372036854775807) (t : ByteArray) (to e : Int) (h : Hid (cut s at_ most = (t, to, e))) :
    Calls Try.prog 104 #[.string s, .int .i64 at_, .int .i64 most] w fun r w' => r = .returned (.tuple #[.string t, .int .i64 to, .int .i64 e]) ∧ Below w.heap.size w w' := by
  have k := cut_any s at_ most w hs hmost
  rw [h.out] at k
  exact k
set_option maxRecDepth 100000 in
set_option maxHeartbeats 2000000 in
theorem cput_no (i n : Int) (d : Nat) (b : ByteArray) (w : World) (hr : Hid (right ⟨i, n, d, b⟩ = false)) :
    Calls Try.prog 45 #[.agg #[.int .i64 i, .int .i64 n, .int .u64 d, .string b]] w fun e w' => e = .returned (.tuple #[.string ⟨#[]⟩, .int .i64 70]) ∧ Below w.heap.size w w' := by
  go_enter Try.func45, Try.ntmps45
  go_wp2_with (go_at_call 100; refine (right_in i n d b _ false hr).mono ?_; rintro e w1 ⟨rfl, hb1⟩)
  go_ret2
  exact ⟨rfl, (one_box _).trans (hb1.mono (by simp))⟩
set_option maxRecDepth 100000 in
set_option maxHeartbeats 2000000 in
theorem cput_ok (i n : Nat) (d : Nat) (b s : ByteArray) (w : World) (hr : Hid (right ⟨i, n, d, b⟩ = true)) (hd : d < 18446744073709551616) (hs : Hid (putC ⟨i, n, d, b⟩ = s)) :
    Calls Try.prog 45 #[.agg #[.int .i64 i, .int .i64 n, .int .u64 d, .string b]] w fun e w' => e = .returned (.tuple #[.string s, .int .i64 0]) ∧ Below w.heap.size w w' := by
  obtain ⟨h0, h1, h2, h3, _⟩ := right_parts hr.out
  dsimp only at h0 h1 h2 h3
  have hi : i < 4096 := by omega
  have hn : n ≤ 4096 := by omega
  obtain ⟨x, hx⟩ : ∃ x, three i n d = x := ⟨_, rfl⟩
  obtain ⟨f, hf⟩ : ∃ f, frame b = f := ⟨_, rfl⟩
  have x1 : x.size ≤ 30 := by rw [← hx]; exact three_size _ _ _ (by omega) (by omega) hd
  have f1 : f.size ≤ 5000 := by rw [← hf, frame_size]; have := V.puts_len b.size (by omega); omega
  have e : s = x ++ f := by rw [← hs.out, ← hx, ← hf]; rfl
  subst e
  have HX := Lib.hid hx
  have HF := Lib.hid hf
  clear hx hf hs h0 h1 h2
  go_enter Try.func45, Try.ntmps45
  go_wp2_with (go_at_call 100; refine (right_in i n d b _ true hr).mono ?_; rintro e w1 ⟨rfl, hb1⟩)
  obtain ⟨c0, c1, c2, c3⟩ := four_cells (heap_alloc_new w (.cells #[.int .i64 i, .int .i64 n, .int .u64 d, .string b] 71)) hb1 (by simp)
  have HB1 := Lib.hid ((one_box (w := w) (.cells #[.int .i64 i, .int .i64 n, .int .u64 d, .string b] 71)).trans (hb1.mono (by simp)))
  have HLT : Hid (w.heap.size < w1.heap.size) := Lib.hid (by have := hb1.size; simp at this; omega)
  clear hb1
  have hB1 := HB1.out
  have hcat := fun W => run_string_add_sum (P := Try.prog) W x f (by omega)
  go_region_held3 (fun w' => (w'.cell? ⟨w.heap.size, 0, none⟩ = some (.int .i64 i) ∧ w'.cell? ⟨w.heap.size, 1, none⟩ = some (.int .i64 n) ∧ w'.cell? ⟨w.heap.size, 2, none⟩ = some (.int .u64 d) ∧ w'.cell? ⟨w.heap.size, 3, none⟩ = some (.string b)) ∧ Below w.heap.size w w')
    (first | assumption | exact ⟨⟨c0, c1, c2, c3⟩, hB1.drew⟩ | exact hB1.drew | exact s4_next (by assumption) (by assumption) | exact s4_next (by assumption) ((Below.refl _ _).drew) | exact s4_next (s4_next (by assumption) ((Below.refl _ _).drew)) (by assumption))
    (first
      | (go_at_call 86; refine (put3_is i n d x _ (by omega) (by omega) hd HX).mono ?_; rintro e w2 ⟨rfl, hb2⟩)
      | (go_at_call 101; refine (cframe_is b f _ (by omega) HF).mono ?_; rintro e w3 ⟨rfl, hb3⟩))
  all_goals
    rename_i hh
    have hb2 := hh.2
    clear hh
    go_wp2_with fail
    go_ret2
    exact ⟨rfl, hb2⟩

/-! ### the chunk of bytes -/
theorem wrap_small {a : Nat} (ha : a < 18446744073709551616) (h : 0 ≤ IntKind.i64.wrap (a : Int)) : IntKind.i64.wrap (a : Int) = a := by
  rw [IntKind.wrap_i64] at *
  omega
theorem getU_ok {s t : ByteArray} {X : Ck} {E : Int} {a b c : Nat} {to : Int} (HU : GetU s X E) (h3 : get3 s = ((a, b, c), to, true)) (hc : cut s to 4096 = (t, (s.size : Int), 0))
    (hr : right ⟨IntKind.i64.wrap (a : Int), IntKind.i64.wrap (b : Int), c, t⟩ = true) : X = ⟨IntKind.i64.wrap (a : Int), IntKind.i64.wrap (b : Int), c, t⟩ ∧ E = 0 := by
  obtain ⟨ga, gb, gc, _⟩ := get3_got h3
  have hp := read_got h3 hc
  obtain ⟨q0, q1, _⟩ := right_parts hr
  dsimp only at q0 q1
  have ea := wrap_small ga q0
  have eb := wrap_small gb (by omega)
  have hput : putC ⟨IntKind.i64.wrap (a : Int), IntKind.i64.wrap (b : Int), c, t⟩ = s := by
    unfold putC
    dsimp only
    rw [ea, eb, Int.toNat_natCast, Int.toNat_natCast]
    exact hp
  rcases HU with ⟨h1, h2, h4, h5⟩ | ⟨h1, _, _⟩
  · exact ⟨putC_inj h1 hr h2 gc (h4.trans hput.symm), h5⟩
  · exact absurd hput (h1 _ hr gc)
theorem getU_no {s : ByteArray} {X : Ck} {E : Int} (HU : GetU s X E) (hn : ∀ a b c to t, get3 s = ((a, b, c), to, true) → cut s to 4096 = (t, (s.size : Int), 0) → right ⟨IntKind.i64.wrap (a : Int), IntKind.i64.wrap (b : Int), c, t⟩ = true → False) : X = Ck.zero ∧ E = 70 := by
  rcases HU with ⟨h1, h2, h4, h5⟩ | ⟨_, h2, h3⟩
  · exfalso
    obtain ⟨g1, g2⟩ := read_put h1 h2
    obtain ⟨q0, q1, q2, _⟩ := right_parts h1
    rw [h4] at g1 g2
    refine hn _ _ _ _ _ g1 g2 ?_
    have ea : IntKind.i64.wrap ((X.i.toNat : Nat) : Int) = X.i := by rw [IntWalk.i64_in _ (by omega)]; omega
    have eb : IntKind.i64.wrap ((X.n.toNat : Nat) : Int) = X.n := by rw [IntWalk.i64_in _ (by omega)]; omega
    rw [ea, eb]
    exact h1
  · exact ⟨h2, h3⟩
abbrev gotC (X : Ck) (E : Int) (w : World) : Ending → World → Prop := fun e w' => e = .returned (.tuple #[.agg #[.int .i64 X.i, .int .i64 X.n, .int .u64 X.d, .string X.b], .int .i64 E]) ∧ Below w.heap.size w w'
end Go.Proofs.Ytlemcijgjebekaa.L7
