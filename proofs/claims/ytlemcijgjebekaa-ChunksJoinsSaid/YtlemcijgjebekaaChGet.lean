/-
  Contract: the chunk of bytes.
-/
import Derived.Test.YtlemcijgjebekaaChPut
import Derived.Test.YtlemcijgjebekaaMText
namespace Go.Proofs.Ytlemcijgjebekaa.L7
open Go.RowKit
open L3

theorem row_facts {w : World} {k : Nat} {T : TypeId} {x y z u : Value} (h : w.heap[k]? = some (.cells #[x, y, z, u] T (0, 0))) :
    w.cell? ⟨k, 0, none⟩ = some x ∧ w.cell? ⟨k, 1, none⟩ = some y ∧ w.cell? ⟨k, 2, none⟩ = some z ∧ w.cell? ⟨k, 3, none⟩ = some u ∧ w.frozen? ⟨k, 0, none⟩ = false ∧ w.frozen? ⟨k, 1, none⟩ = false ∧ w.frozen? ⟨k, 2, none⟩ = false ∧ w.frozen? ⟨k, 3, none⟩ = false := by
  simp [World.cell?, World.frozen?, h]
theorem row_facts3 {w : World} {k : Nat} {T : TypeId} {x y z : Value} (h : w.heap[k]? = some (.cells #[x, y, z] T (0, 0))) :
    w.cell? ⟨k, 0, none⟩ = some x ∧ w.cell? ⟨k, 1, none⟩ = some y ∧ w.cell? ⟨k, 2, none⟩ = some z := by
  simp [World.cell?, h]
theorem w64 (n : Int) : IntKind.i64.wrap n = wrap64 n := by rw [IntKind.wrap_i64]; simp only [wrap64]
theorem results_row2 {P : Program} {fn : Func} {p t1 : Tmp} {ty : TypeId} (h : fn.results = #[.cell p ty, .tmp t1]) (tmps : Array Value) (w : World) (g : Nat) (t : TypeId) (cs : Array Value) (fr : Nat × Nat) (d : TypeDesc)
    (hp : tmps.getD p undef = .pointer (some ⟨g, 0, none⟩)) (hg : w.heap[g]? = some (.cells cs t fr))
    (hu : P.underlying ty = some d) (hd : (match d with | .struct _ | .array _ _ => true | _ => false) = true) (hi : (P.info? ty).map (·.size) = some cs.size) :
    (results fn tmps).run P w = .ok (.tuple #[.agg cs, tmps.getD t1 undef]) w := by
  have hp' : tmps[p]?.getD undef = .pointer (some ⟨g, 0, none⟩) := by simpa using hp
  simp [results, h, hp', asAddr, run_loadVar_row w g t ty cs fr d hg hu hd hi]
set_option maxRecDepth 100000 in
set_option maxHeartbeats 2000000 in
theorem cget_w0 (s : ByteArray) (w : World) (hs : s.size ≤ 1000000) (a b c : Nat) (to : Int) (H3 : Hid (get3 s = ((a, b, c), to, false))) :
    Calls Try.prog 47 #[.string s] w fun r w' => r = .returned (.tuple #[.agg #[.int .i64 0, .int .i64 0, .int .u64 0, .string ⟨#[]⟩], .int .i64 70]) ∧ Below w.heap.size w w' := by
  go_enter Try.func47, Try.ntmps47
  go_wp2_with (first
    | (go_at_call 92; refine (get3_is s _ hs a b c to false H3).mono ?_; rintro e w1 ⟨rfl, hb1⟩; have hz1 : w.heap.size < w1.heap.size := (by have := hb1.size; simp at this; omega); have HB1 : Hid (Below w.heap.size w w1) := Lib.hid ((one_box _).trans (hb1.mono (by simp))); have HR1 : Hid (w1.heap[w.heap.size]? = some (.cells #[.int .i64 0, .int .i64 0, .int .u64 0, .string ⟨#[]⟩] 71 (0, 0))) := Lib.hid ((hb1.block _ (by simp)).trans (heap_alloc_new _ _)); obtain ⟨c10, c11, c12, c13, f10, f11, f12, f13⟩ := row_facts HR1.out))
  refine bodyPost_ret (v := .tuple #[.agg #[.int .i64 0, .int .i64 0, .int .u64 0, .string ⟨#[]⟩], .int .i64 70]) (results_row2 (p := 2) (t1 := 3) (ty := 71) Try.results47 _ _ w.heap.size 71 #[(.int .i64 0), (.int .i64 0), (.int .u64 0), (.string ⟨#[]⟩)] (0, 0) _ rfl ?row Try.underlying71 rfl (by kernel_rfl)) rfl ⟨rfl, ?_⟩
  case row =>
    refine (Below.heap_alloc _ _ _ (by simp <;> omega)).trans ?_
    exact heap_setCell_same _ w.heap.size 3 _ _ (.string ⟨#[]⟩) (heap_setCell_same _ w.heap.size 2 _ _ (.int .u64 0) (heap_setCell_same _ w.heap.size 1 _ _ (.int .i64 0) (heap_setCell_same _ w.heap.size 0 _ _ (.int .i64 0) HR1.out)))
  repeat (first | with_reducible exact HB1.out | refine Below.setCell ?_ (by simp <;> omega) _ | refine Below.alloc ?_ (by simp <;> omega) _)
set_option maxRecDepth 100000 in
set_option maxHeartbeats 2000000 in
theorem cget_w1 (s : ByteArray) (w : World) (hs : s.size ≤ 1000000) (a b c : Nat) (to e1 x : Int) (t : ByteArray) (H3 : Hid (get3 s = ((a, b, c), to, true))) (HC : Hid (cut s to 4096 = (t, e1, x))) (hx : x ≠ 0) :
    Calls Try.prog 47 #[.string s] w fun r w' => r = .returned (.tuple #[.agg #[.int .i64 0, .int .i64 0, .int .u64 0, .string ⟨#[]⟩], .int .i64 70]) ∧ Below w.heap.size w w' := by
  have hx' : (x != 0) = true := by simpa using hx
  clear hx
  go_enter Try.func47, Try.ntmps47
  go_wp2_with (first
    | (go_at_call 104; refine (ccut_is s to 4096 _ (by omega) (by decide) t e1 x HC).mono ?_; rintro e w2 ⟨rfl, hb2⟩; have hz2 : w1.heap.size < w2.heap.size := (by have := hb2.size; simp at this; omega); have hz2' : w.heap.size < w2.heap.size := (by omega); have HB2 : Hid (Below w.heap.size w w2) := Lib.hid ((HB1.out.alloc HB1.out.size _).trans (hb2.mono (by simp; omega))); have HR2 := Lib.hid ((hb2.block w.heap.size (by simp; omega)).trans ((Below.heap_alloc _ _ _ hz1).trans HR1.out)); have HT2 : Hid (w2.heap[w1.heap.size]? = some (.cells #[.int .u64 a, .int .u64 b, .int .u64 c] 139 (0, 0))) := Lib.hid ((hb2.block w1.heap.size (by simp)).trans (heap_alloc_new _ _)); obtain ⟨c20, c21, c22, c23, f20, f21, f22, f23⟩ := row_facts HR2.out; obtain ⟨d20, d21, d22⟩ := row_facts3 HT2.out)
    | (go_at_call 92; refine (get3_is s _ hs a b c to true H3).mono ?_; rintro e w1 ⟨rfl, hb1⟩; have hz1 : w.heap.size < w1.heap.size := (by have := hb1.size; simp at this; omega); have HB1 : Hid (Below w.heap.size w w1) := Lib.hid ((one_box _).trans (hb1.mono (by simp))); have HR1 : Hid (w1.heap[w.heap.size]? = some (.cells #[.int .i64 0, .int .i64 0, .int .u64 0, .string ⟨#[]⟩] 71 (0, 0))) := Lib.hid ((hb1.block _ (by simp)).trans (heap_alloc_new _ _)); obtain ⟨c10, c11, c12, c13, f10, f11, f12, f13⟩ := row_facts HR1.out))
  refine bodyPost_ret (v := .tuple #[.agg #[.int .i64 0, .int .i64 0, .int .u64 0, .string ⟨#[]⟩], .int .i64 70]) (results_row2 (p := 2) (t1 := 3) (ty := 71) Try.results47 _ _ w.heap.size 71 #[(.int .i64 0), (.int .i64 0), (.int .u64 0), (.string ⟨#[]⟩)] (0, 0) _ rfl ?row Try.underlying71 rfl (by kernel_rfl)) rfl ⟨rfl, ?_⟩
  case row =>
    refine (Below.heap_alloc _ _ _ (by simp <;> omega)).trans ?_
    exact heap_setCell_same _ w.heap.size 3 _ _ (.string ⟨#[]⟩) (heap_setCell_same _ w.heap.size 2 _ _ (.int .u64 0) (heap_setCell_same _ w.heap.size 1 _ _ (.int .i64 0) (heap_setCell_same _ w.heap.size 0 _ _ (.int .i64 0) HR2.out)))
  repeat (first | with_reducible exact HB2.out | refine Below.setCell ?_ (by simp <;> omega) _ | refine Below.alloc ?_ (by simp <;> omega) _)
set_option maxRecDepth 100000 in
set_option maxHeartbeats 2000000 in
theorem cget_w2 (s : ByteArray) (w : World) (hs : s.size ≤ 1000000) (a b c : Nat) (to e1 : Int) (t : ByteArray) (H3 : Hid (get3 s = ((a, b, c), to, true))) (HC : Hid (cut s to 4096 = (t, e1, 0))) (hx : e1 ≠ s.size) :
    Calls Try.prog 47 #[.string s] w fun r w' => r = .returned (.tuple #[.agg #[.int .i64 0, .int .i64 0, .int .u64 0, .string ⟨#[]⟩], .int .i64 70]) ∧ Below w.heap.size w w' := by
  have hx' : (e1 != (s.size : Int)) = true := by simpa using hx
  clear hx
  go_enter Try.func47, Try.ntmps47
  go_wp2_with (first
    | (go_at_call 104; refine (ccut_is s to 4096 _ (by omega) (by decide) t e1 0 HC).mono ?_; rintro e w2 ⟨rfl, hb2⟩; have hz2 : w1.heap.size < w2.heap.size := (by have := hb2.size; simp at this; omega); have hz2' : w.heap.size < w2.heap.size := (by omega); have HB2 : Hid (Below w.heap.size w w2) := Lib.hid ((HB1.out.alloc HB1.out.size _).trans (hb2.mono (by simp; omega))); have HR2 := Lib.hid ((hb2.block w.heap.size (by simp; omega)).trans ((Below.heap_alloc _ _ _ hz1).trans HR1.out)); have HT2 : Hid (w2.heap[w1.heap.size]? = some (.cells #[.int .u64 a, .int .u64 b, .int .u64 c] 139 (0, 0))) := Lib.hid ((hb2.block w1.heap.size (by simp)).trans (heap_alloc_new _ _)); obtain ⟨c20, c21, c22, c23, f20, f21, f22, f23⟩ := row_facts HR2.out; obtain ⟨d20, d21, d22⟩ := row_facts3 HT2.out)
    | (go_at_call 92; refine (get3_is s _ hs a b c to true H3).mono ?_; rintro e w1 ⟨rfl, hb1⟩; have hz1 : w.heap.size < w1.heap.size := (by have := hb1.size; simp at this; omega); have HB1 : Hid (Below w.heap.size w w1) := Lib.hid ((one_box _).trans (hb1.mono (by simp))); have HR1 : Hid (w1.heap[w.heap.size]? = some (.cells #[.int .i64 0, .int .i64 0, .int .u64 0, .string ⟨#[]⟩] 71 (0, 0))) := Lib.hid ((hb1.block _ (by simp)).trans (heap_alloc_new _ _)); obtain ⟨c10, c11, c12, c13, f10, f11, f12, f13⟩ := row_facts HR1.out))
  refine bodyPost_ret (v := .tuple #[.agg #[.int .i64 0, .int .i64 0, .int .u64 0, .string ⟨#[]⟩], .int .i64 70]) (results_row2 (p := 2) (t1 := 3) (ty := 71) Try.results47 _ _ w.heap.size 71 #[(.int .i64 0), (.int .i64 0), (.int .u64 0), (.string ⟨#[]⟩)] (0, 0) _ rfl ?row Try.underlying71 rfl (by kernel_rfl)) rfl ⟨rfl, ?_⟩
  case row =>
    refine (Below.heap_alloc _ _ _ (by simp <;> omega)).trans ?_
    exact heap_setCell_same _ w.heap.size 3 _ _ (.string ⟨#[]⟩) (heap_setCell_same _ w.heap.size 2 _ _ (.int .u64 0) (heap_setCell_same _ w.heap.size 1 _ _ (.int .i64 0) (heap_setCell_same _ w.heap.size 0 _ _ (.int .i64 0) HR2.out)))
  repeat (first | with_reducible exact HB2.out | refine Below.setCell ?_ (by simp <;> omega) _ | refine Below.alloc ?_ (by simp <;> omega) _)
set_option maxRecDepth 100000 in
set_option maxHeartbeats 2000000 in
theorem cget_w3 (s : ByteArray) (w : World) (hs : s.size ≤ 1000000) (a b c : Nat) (to e1 : Int) (t : ByteArray) (H3 : Hid (get3 s = ((a, b, c), to, true))) (HC : Hid (cut s to 4096 = (t, e1, 0))) (hx : e1 = s.size) (HRR : Hid (right ⟨wrap64 (a : Int), wrap64 (b : Int), c, t⟩ = false)) :
    Calls Try.prog 47 #[.string s] w fun r w' => r = .returned (.tuple #[.agg #[.int .i64 0, .int .i64 0, .int .u64 0, .string ⟨#[]⟩], .int .i64 70]) ∧ Below w.heap.size w w' := by
  have hx' : (e1 != (s.size : Int)) = false := by simpa using hx
  clear hx
  go_enter Try.func47, Try.ntmps47
  go_wp2_with (first
    | (go_at_call 100; refine (right_in (wrap64 (a : Int)) (wrap64 (b : Int)) c t _ false HRR).mono ?_; rintro e w3 ⟨rfl, hb3⟩; have hz3 : w2.heap.size < w3.heap.size := (by have := hb3.size; simp at this; omega); have hz3' : w.heap.size < w3.heap.size := (by omega); have hz3'' : w1.heap.size < w3.heap.size := (by omega); have HB3 : Hid (Below w.heap.size w w3) := Lib.hid ((HB2.out.alloc HB2.out.size _).trans (hb3.mono (by simp; omega))); have HR3 := Lib.hid ((hb3.block w.heap.size (by simp; omega)).trans ((Below.heap_alloc _ _ _ hz2').trans HR2.out)); have HT3 : Hid (w3.heap[w2.heap.size]? = some (.cells #[.int .i64 (wrap64 (a : Int)), .int .i64 (wrap64 (b : Int)), .int .u64 c, .string t] 71 (0, 0))) := Lib.hid ((hb3.block w2.heap.size (by simp)).trans (heap_alloc_new _ _)); obtain ⟨c30, c31, c32, c33, f30, f31, f32, f33⟩ := row_facts HR3.out; obtain ⟨d30, d31, d32, d33, _, _, _, _⟩ := row_facts HT3.out)
    | (go_at_call 104; refine (ccut_is s to 4096 _ (by omega) (by decide) t e1 0 HC).mono ?_; rintro e w2 ⟨rfl, hb2⟩; have hz2 : w1.heap.size < w2.heap.size := (by have := hb2.size; simp at this; omega); have hz2' : w.heap.size < w2.heap.size := (by omega); have HB2 : Hid (Below w.heap.size w w2) := Lib.hid ((HB1.out.alloc HB1.out.size _).trans (hb2.mono (by simp; omega))); have HR2 := Lib.hid ((hb2.block w.heap.size (by simp; omega)).trans ((Below.heap_alloc _ _ _ hz1).trans HR1.out)); have HT2 : Hid (w2.heap[w1.heap.size]? = some (.cells #[.int .u64 a, .int .u64 b, .int .u64 c] 139 (0, 0))) := Lib.hid ((hb2.block w1.heap.size (by simp)).trans (heap_alloc_new _ _)); obtain ⟨c20, c21, c22, c23, f20, f21, f22, f23⟩ := row_facts HR2.out; obtain ⟨d20, d21, d22⟩ := row_facts3 HT2.out)
    | (go_at_call 92; refine (get3_is s _ hs a b c to true H3).mono ?_; rintro e w1 ⟨rfl, hb1⟩; have hz1 : w.heap.size < w1.heap.size := (by have := hb1.size; simp at this; omega); have HB1 : Hid (Below w.heap.size w w1) := Lib.hid ((one_box _).trans (hb1.mono (by simp))); have HR1 : Hid (w1.heap[w.heap.size]? = some (.cells #[.int .i64 0, .int .i64 0, .int .u64 0, .string ⟨#[]⟩] 71 (0, 0))) := Lib.hid ((hb1.block _ (by simp)).trans (heap_alloc_new _ _)); obtain ⟨c10, c11, c12, c13, f10, f11, f12, f13⟩ := row_facts HR1.out))
  refine bodyPost_ret (v := .tuple #[.agg #[.int .i64 0, .int .i64 0, .int .u64 0, .string ⟨#[]⟩], .int .i64 70]) (results_row2 (p := 2) (t1 := 3) (ty := 71) Try.results47 _ _ w.heap.size 71 #[(.int .i64 0), (.int .i64 0), (.int .u64 0), (.string ⟨#[]⟩)] (0, 0) _ rfl ?row Try.underlying71 rfl (by kernel_rfl)) rfl ⟨rfl, ?_⟩
  case row =>
    exact heap_setCell_same _ w.heap.size 3 _ _ (.string ⟨#[]⟩) (heap_setCell_same _ w.heap.size 2 _ _ (.int .u64 0) (heap_setCell_same _ w.heap.size 1 _ _ (.int .i64 0) (heap_setCell_same _ w.heap.size 0 _ _ (.int .i64 0) HR3.out)))
  repeat (first | with_reducible exact HB3.out | refine Below.setCell ?_ (by simp <;> omega) _ | refine Below.alloc ?_ (by simp <;> omega) _)
set_option maxRecDepth 100000 in
set_option maxHeartbeats 2000000 in
theorem cget_w4 (s : ByteArray) (w : World) (hs : s.size ≤ 1000000) (a b c : Nat) (to e1 : Int) (t : ByteArray) (H3 : Hid (get3 s = ((a, b, c), to, true))) (HC : Hid (cut s to 4096 = (t, e1, 0))) (hx : e1 = s.size) (HRR : Hid (right ⟨wrap64 (a : Int), wrap64 (b : Int), c, t⟩ = true)) :
    Calls Try.prog 47 #[.string s] w fun r w' => r = .returned (.tuple #[.agg #[.int .i64 (wrap64 (a : Int)), .int .i64 (wrap64 (b : Int)), .int .u64 c, .string t], .int .i64 0]) ∧ Below w.heap.size w w' := by
  have hx' : (e1 != (s.size : Int)) = false := by simpa using hx
  clear hx
  go_enter Try.func47, Try.ntmps47
  go_wp2_with (first
    | (go_at_call 100; refine (right_in (wrap64 (a : Int)) (wrap64 (b : Int)) c t _ true HRR).mono ?_; rintro e w3 ⟨rfl, hb3⟩; have hz3 : w2.heap.size < w3.heap.size := (by have := hb3.size; simp at this; omega); have hz3' : w.heap.size < w3.heap.size := (by omega); have hz3'' : w1.heap.size < w3.heap.size := (by omega); have HB3 : Hid (Below w.heap.size w w3) := Lib.hid ((HB2.out.alloc HB2.out.size _).trans (hb3.mono (by simp; omega))); have HR3 := Lib.hid ((hb3.block w.heap.size (by simp; omega)).trans ((Below.heap_alloc _ _ _ hz2').trans HR2.out)); have HT3 : Hid (w3.heap[w2.heap.size]? = some (.cells #[.int .i64 (wrap64 (a : Int)), .int .i64 (wrap64 (b : Int)), .int .u64 c, .string t] 71 (0, 0))) := Lib.hid ((hb3.block w2.heap.size (by simp)).trans (heap_alloc_new _ _)); obtain ⟨c30, c31, c32, c33, f30, f31, f32, f33⟩ := row_facts HR3.out; obtain ⟨d30, d31, d32, d33, _, _, _, _⟩ := row_facts HT3.out)
    | (go_at_call 104; refine (ccut_is s to 4096 _ (by omega) (by decide) t e1 0 HC).mono ?_; rintro e w2 ⟨rfl, hb2⟩; have hz2 : w1.heap.size < w2.heap.size := (by have := hb2.size; simp at this; omega); have hz2' : w.heap.size < w2.heap.size := (by omega); have HB2 : Hid (Below w.heap.size w w2) := Lib.hid ((HB1.out.alloc HB1.out.size _).trans (hb2.mono (by simp; omega))); have HR2 := Lib.hid ((hb2.block w.heap.size (by simp; omega)).trans ((Below.heap_alloc _ _ _ hz1).trans HR1.out)); have HT2 : Hid (w2.heap[w1.heap.size]? = some (.cells #[.int .u64 a, .int .u64 b, .int .u64 c] 139 (0, 0))) := Lib.hid ((hb2.block w1.heap.size (by simp)).trans (heap_alloc_new _ _)); obtain ⟨c20, c21, c22, c23, f20, f21, f22, f23⟩ := row_facts HR2.out; obtain ⟨d20, d21, d22⟩ := row_facts3 HT2.out)
    | (go_at_call 92; refine (get3_is s _ hs a b c to true H3).mono ?_; rintro e w1 ⟨rfl, hb1⟩; have hz1 : w.heap.size < w1.heap.size := (by have := hb1.size; simp at this; omega); have HB1 : Hid (Below w.heap.size w w1) := Lib.hid ((one_box _).trans (hb1.mono (by simp))); have HR1 : Hid (w1.heap[w.heap.size]? = some (.cells #[.int .i64 0, .int .i64 0, .int .u64 0, .string ⟨#[]⟩] 71 (0, 0))) := Lib.hid ((hb1.block _ (by simp)).trans (heap_alloc_new _ _)); obtain ⟨c10, c11, c12, c13, f10, f11, f12, f13⟩ := row_facts HR1.out))
  refine bodyPost_ret (v := .tuple #[.agg #[.int .i64 (wrap64 (a : Int)), .int .i64 (wrap64 (b : Int)), .int .u64 c, .string t], .int .i64 0]) (results_row2 (p := 2) (t1 := 3) (ty := 71) Try.results47 _ _ w.heap.size 71 #[(.int .i64 (wrap64 (a : Int))), (.int .i64 (wrap64 (b : Int))), (.int .u64 c), (.string t)] (0, 0) _ rfl ?row Try.underlying71 rfl (by kernel_rfl)) rfl ⟨rfl, ?_⟩
  case row =>
    exact heap_setCell_same _ w.heap.size 3 _ _ (.string t) (heap_setCell_same _ w.heap.size 2 _ _ (.int .u64 c) (heap_setCell_same _ w.heap.size 1 _ _ (.int .i64 (wrap64 (b : Int))) (heap_setCell_same _ w.heap.size 0 _ _ (.int .i64 (wrap64 (a : Int))) HR3.out)))
  repeat (first | with_reducible exact HB3.out | refine Below.setCell ?_ (by simp <;> omega) _ | refine Below.alloc ?_ (by simp <;> omega) _)
theorem cget_is (s : ByteArray) (w : World) (hs : s.size ≤ 1000000) (X : Ck) (E : Int) (HU : Hid (GetU s X E)) :
    Calls Try.prog 47 #[.string s] w (gotC X E w) := by
  obtain ⟨a, b, c, to, ok, h3⟩ : ∃ a b c to ok, get3 s = ((a, b, c), to, ok) := ⟨_, _, _, _, _, rfl⟩
  have no : (∀ a b c to t, get3 s = ((a, b, c), to, true) → cut s to 4096 = (t, (s.size : Int), 0) → right ⟨IntKind.i64.wrap (a : Int), IntKind.i64.wrap (b : Int), c, t⟩ = true → False) → X = Ck.zero ∧ E = 70 := getU_no HU.out
  cases ok
  · obtain ⟨rfl, rfl⟩ := no (fun a' b' c' to' t' g _ _ => by rw [h3] at g; simp at g)
    exact cget_w0 s w hs a b c to (Lib.hid h3)
  · obtain ⟨t, e1, x, hc⟩ : ∃ t e x, cut s to 4096 = (t, e, x) := ⟨_, _, _, rfl⟩
    by_cases hx : x = 0
    · subst hx
      by_cases he : e1 = s.size
      · by_cases hr : right ⟨IntKind.i64.wrap (a : Int), IntKind.i64.wrap (b : Int), c, t⟩ = true
        · obtain ⟨rfl, rfl⟩ := getU_ok HU.out h3 (by rw [hc, he]) hr
          rw [w64, w64]
          exact cget_w4 s w hs a b c to e1 t (Lib.hid h3) (Lib.hid hc) he (Lib.hid (by rw [← w64, ← w64]; exact hr))
        · obtain ⟨rfl, rfl⟩ := no (fun a' b' c' to' t' g g2 g3 => by
            rw [h3] at g; simp only [Prod.mk.injEq] at g
            obtain ⟨⟨rfl, rfl, rfl⟩, rfl, _⟩ := g
            rw [hc] at g2; simp only [Prod.mk.injEq] at g2
            obtain ⟨rfl, _⟩ := g2
            exact hr g3)
          exact cget_w3 s w hs a b c to e1 t (Lib.hid h3) (Lib.hid hc) he (Lib.hid (by rw [← w64, ← w64]; simpa using hr))
      · obtain ⟨rfl, rfl⟩ := no (fun a' b' c' to' t' g g2 g3 => by
          rw [h3] at g; simp only [Prod.mk.injEq] at g
          obtain ⟨⟨rfl, rfl, rfl⟩, rfl, _⟩ := g
          rw [hc] at g2; simp only [Prod.mk.injEq] at g2
          exact he g2.2.1)
        exact cget_w2 s w hs a b c to e1 t (Lib.hid h3) (Lib.hid hc) he
    · obtain ⟨rfl, rfl⟩ := no (fun a' b' c' to' t' g g2 g3 => by
        rw [h3] at g; simp only [Prod.mk.injEq] at g
        obtain ⟨⟨rfl, rfl, rfl⟩, rfl, _⟩ := g
        rw [hc] at g2; simp only [Prod.mk.injEq] at g2
        exact hx g2.2.2)
      exact cget_w1 s w hs a b c to e1 x t (Lib.hid h3) (Lib.hid hc) hx
end Go.Proofs.Ytlemcijgjebekaa.L7
