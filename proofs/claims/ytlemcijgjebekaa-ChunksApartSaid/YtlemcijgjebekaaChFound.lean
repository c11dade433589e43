/-
  Contract: a record of a segment's text.
-/
import Derived.Test.YtlemcijgjebekaaChGet
import Derived.Test.YtlemcijgjebekaaChText
import Derived.Test.YtlemcijgjebekaaRecGet
namespace Go.Proofs.Ytlemcijgjebekaa.L7
open Go.RowKit
open L3 L4 L5

theorem row5_facts {w : World} {k : Nat} {T : TypeId} {x y z u v : Value} (h : w.heap[k]? = some (.cells #[x, y, z, u, v] T (0, 0))) :
    w.cell? ⟨k, 0, none⟩ = some x ∧ w.cell? ⟨k, 1, none⟩ = some y ∧ w.cell? ⟨k, 2, none⟩ = some z ∧ w.cell? ⟨k, 3, none⟩ = some u ∧ w.cell? ⟨k, 4, none⟩ = some v ∧ w.frozen? ⟨k, 0, none⟩ = false ∧ w.frozen? ⟨k, 1, none⟩ = false ∧ w.frozen? ⟨k, 2, none⟩ = false ∧ w.frozen? ⟨k, 3, none⟩ = false ∧ w.frozen? ⟨k, 4, none⟩ = false := by
  simp [World.cell?, World.frozen?, h]
set_option maxRecDepth 100000 in
set_option maxHeartbeats 2000000 in
theorem found_e1 (s : ByteArray) (at_ a : Int) (w : World) (hs : s.size ≤ 1000000) (g : Nat) (t0 x : Int) (HG : Hid (V.get s at_ = (g, t0, x))) (hx : (x != 0) = true) :
    Calls Try.prog 93 #[.string s, .int .i64 at_, .int .i64 a] w fun r w' => r = .returned (.tuple #[.agg #[.int .i64 0, .bool false, .string ⟨#[]⟩, .bool false, .string ⟨#[]⟩], .int .i64 0, .bool false]) ∧ Below w.heap.size w w' := by
  go_enter Try.func93, Try.ntmps93
  go_wp2_with (first
    | (go_at_call 128; refine (get_is s at_ _ (by unfold maxLen; omega) g t0 x HG).mono ?_; rintro _ w0 ⟨rfl, rfl⟩))
  exact bodyPost_ret (v := .tuple #[.agg #[.int .i64 0, .bool false, .string ⟨#[]⟩, .bool false, .string ⟨#[]⟩], .int .i64 0, .bool false]) (by simp [results, Try.results93, go_sem]) rfl ⟨rfl, one_box _⟩
set_option maxRecDepth 100000 in
set_option maxHeartbeats 2000000 in
theorem found_e2 (s : ByteArray) (at_ a : Int) (w : World) (hs : s.size ≤ 1000000) (g : Nat) (t0 to x : Int) (r : R) (HG : Hid (V.get s at_ = (g, t0, 0))) (HR : Hid (getR s t0 = (r, to, x))) (hx : (x != 0) = true) :
    Calls Try.prog 93 #[.string s, .int .i64 at_, .int .i64 a] w fun r w' => r = .returned (.tuple #[.agg #[.int .i64 0, .bool false, .string ⟨#[]⟩, .bool false, .string ⟨#[]⟩], .int .i64 0, .bool false]) ∧ Below w.heap.size w w' := by
  go_enter Try.func93, Try.ntmps93
  go_wp2_with (first
    | (go_at_call 129; refine (L3.getrec_is s t0 r to x _ (by omega) HR).mono ?_; rintro e w1 ⟨rfl, hb1⟩; have hz1 : w.heap.size < w1.heap.size := (by have hq := hb1.size; simp at hq; omega); have HB1 : Hid (Below w.heap.size w w1) := Lib.hid ((one_box _).trans (hb1.mono (by simp))); have HR1 : Hid (w1.heap[w.heap.size]? = some (.cells #[.int .i64 0, .bool false, .string ⟨#[]⟩, .bool false, .string ⟨#[]⟩] 43 (0, 0))) := Lib.hid ((hb1.block _ (by simp)).trans (heap_alloc_new _ _)); obtain ⟨c0, c1, c2, c3, c4, f0, f1, f2, f3, f4⟩ := row5_facts HR1.out)
    | (go_at_call 128; refine (get_is s at_ _ (by unfold maxLen; omega) g t0 0 HG).mono ?_; rintro _ w0 ⟨rfl, rfl⟩))
  refine bodyPost_ret (v := .tuple #[.agg #[.int .i64 0, .bool false, .string ⟨#[]⟩, .bool false, .string ⟨#[]⟩], .int .i64 0, .bool false]) (L3.results_row3 (p := 6) (t1 := 7) (t2 := 8) (ty := 43) Try.results93 _ _ w.heap.size 43 #[(.int .i64 0), (.bool false), (.string ⟨#[]⟩), (.bool false), (.string ⟨#[]⟩)] (0, 0) _ rfl ?row Try.underlying43 rfl (by kernel_rfl)) rfl ⟨rfl, ?_⟩
  case row =>
    refine (Below.heap_alloc _ _ _ (by simp <;> omega)).trans ?_
    exact heap_setCell_same _ w.heap.size 4 _ _ (.string ⟨#[]⟩) (heap_setCell_same _ w.heap.size 3 _ _ (.bool false) (heap_setCell_same _ w.heap.size 2 _ _ (.string ⟨#[]⟩) (heap_setCell_same _ w.heap.size 1 _ _ (.bool false) (heap_setCell_same _ w.heap.size 0 _ _ (.int .i64 0) HR1.out))))
  repeat (first | with_reducible exact HB1.out | refine Below.setCell ?_ (by simp <;> omega) _ | refine Below.alloc ?_ (by simp <;> omega) _)
set_option maxRecDepth 100000 in
set_option maxHeartbeats 2000000 in
theorem found_ok (s : ByteArray) (at_ a : Int) (w : World) (hs : s.size ≤ 1000000) (g : Nat) (t0 to : Int) (hk : Bool) (key : ByteArray) (tb : Bool) (val : ByteArray) (HG : Hid (V.get s at_ = (g, t0, 0))) (HR : Hid (getR s t0 = (⟨hk, key, tb, val⟩, to, 0))) :
    Calls Try.prog 93 #[.string s, .int .i64 at_, .int .i64 a] w fun r w' => r = .returned (.tuple #[.agg #[.int .i64 (wrap64 (a + wrap64 (g : Int))), .bool hk, .string key, .bool tb, .string val], .int .i64 to, .bool true]) ∧ Below w.heap.size w w' := by
  go_enter Try.func93, Try.ntmps93
  go_wp2_with (first
    | (go_at_call 129; refine (L3.getrec_is s t0 ⟨hk, key, tb, val⟩ to 0 _ (by omega) HR).mono ?_; rintro e w1 ⟨rfl, hb1⟩; have hz1 : w.heap.size < w1.heap.size := (by have hq := hb1.size; simp at hq; omega); have HB1 : Hid (Below w.heap.size w w1) := Lib.hid ((one_box _).trans (hb1.mono (by simp))); have HR1 : Hid (w1.heap[w.heap.size]? = some (.cells #[.int .i64 0, .bool false, .string ⟨#[]⟩, .bool false, .string ⟨#[]⟩] 43 (0, 0))) := Lib.hid ((hb1.block _ (by simp)).trans (heap_alloc_new _ _)); obtain ⟨c0, c1, c2, c3, c4, f0, f1, f2, f3, f4⟩ := row5_facts HR1.out)
    | (go_at_call 128; refine (get_is s at_ _ (by unfold maxLen; omega) g t0 0 HG).mono ?_; rintro _ w0 ⟨rfl, rfl⟩))
  refine bodyPost_ret (v := .tuple #[.agg #[.int .i64 (wrap64 (a + wrap64 (g : Int))), .bool hk, .string key, .bool tb, .string val], .int .i64 to, .bool true]) (L3.results_row3 (p := 6) (t1 := 7) (t2 := 8) (ty := 43) Try.results93 _ _ w.heap.size 43 #[(.int .i64 (wrap64 (a + wrap64 (g : Int)))), (.bool hk), (.string key), (.bool tb), (.string val)] (0, 0) _ rfl ?row Try.underlying43 rfl (by kernel_rfl)) rfl ⟨rfl, ?_⟩
  case row =>
    refine (Below.heap_alloc _ _ _ (by simp <;> omega)).trans ?_
    exact heap_setCell_same _ w.heap.size 4 _ _ (.string val) (heap_setCell_same _ w.heap.size 3 _ _ (.bool tb) (heap_setCell_same _ w.heap.size 2 _ _ (.string key) (heap_setCell_same _ w.heap.size 1 _ _ (.bool hk) (heap_setCell_same _ w.heap.size 0 _ _ (.int .i64 (wrap64 (a + wrap64 (g : Int)))) HR1.out))))
  repeat (first | with_reducible exact HB1.out | refine Below.setCell ?_ (by simp <;> omega) _ | refine Below.alloc ?_ (by simp <;> omega) _)
end Go.Proofs.Ytlemcijgjebekaa.L7
