/-
  Contracts: the record at a place, the program's.
-/
import Derived.Test.YtijofikpdhapoaaGreatMText
import Derived.Laws.Rows
namespace Go.Proofs.YtijofikpdhapoaaGreat.L3
open Go.RowKit

/-- three results, of which the first one lies in memory -/
theorem results_row3 {P : Program} {fn : Func} {p t1 t2 : Tmp} {ty : TypeId} (h : fn.results = #[.cell p ty, .tmp t1, .tmp t2]) (tmps : Array Value) (w : World) (g : Nat) (t : TypeId) (cs : Array Value) (fr : Nat × Nat) (d : TypeDesc)
    (hp : tmps.getD p undef = .pointer (some ⟨g, 0, none⟩)) (hg : w.heap[g]? = some (.cells cs t fr))
    (hu : P.underlying ty = some d) (hd : (match d with | .struct _ | .array _ _ => true | _ => false) = true) (hi : (P.info? ty).map (·.size) = some cs.size) :
    (results fn tmps).run P w = .ok (.tuple #[.agg cs, tmps.getD t1 undef, tmps.getD t2 undef]) w := by
  have hp' : tmps[p]?.getD undef = .pointer (some ⟨g, 0, none⟩) := by simpa using hp
  simp [results, h, hp', asAddr, run_loadVar_row w g t ty cs fr d hg hu hd hi]

set_option maxRecDepth 100000 in
set_option maxHeartbeats 1000000 in
theorem get_low (s : ByteArray) (a : Int) (w : World) (h : a < 0) :
    Calls Tryz.prog 70 #[.string s, .int .i64 a] w fun e w' => e = .returned (.tuple #[.agg #[.bool false, .string ⟨#[]⟩, .bool false, .string ⟨#[]⟩], .int .i64 0, .int .i64 1]) ∧ Below w.heap.size w w' := by
  go_enter Tryz.func70, Tryz.ntmps70
  go_wp2_with fail
  refine bodyPost_ret (v := .tuple #[.agg #[.bool false, .string ⟨#[]⟩, .bool false, .string ⟨#[]⟩], .int .i64 0, .int .i64 1]) (by simp [results, Tryz.results70, go_sem]) rfl ⟨rfl, ?_⟩
  exact one_box _

set_option maxRecDepth 100000 in
set_option maxHeartbeats 1000000 in
theorem get_high (s : ByteArray) (a : Int) (w : World) (h0 : 0 ≤ a) (h : (s.size : Int) < a) :
    Calls Tryz.prog 70 #[.string s, .int .i64 a] w fun e w' => e = .returned (.tuple #[.agg #[.bool false, .string ⟨#[]⟩, .bool false, .string ⟨#[]⟩], .int .i64 0, .int .i64 1]) ∧ Below w.heap.size w w' := by
  go_enter Tryz.func70, Tryz.ntmps70
  go_wp2_with fail
  refine bodyPost_ret (v := .tuple #[.agg #[.bool false, .string ⟨#[]⟩, .bool false, .string ⟨#[]⟩], .int .i64 0, .int .i64 1]) (by simp [results, Tryz.results70, go_sem]) rfl ⟨rfl, ?_⟩
  exact one_box _

set_option maxRecDepth 100000 in
set_option maxHeartbeats 1000000 in
theorem get_end (s : ByteArray) (a : Nat) (w : World) (h : (a : Int) = s.size) :
    Calls Tryz.prog 70 #[.string s, .int .i64 a] w fun e w' => e = .returned (.tuple #[.agg #[.bool false, .string ⟨#[]⟩, .bool false, .string ⟨#[]⟩], .int .i64 0, .int .i64 10]) ∧ Below w.heap.size w w' := by
  have hq : ((a : Int) == (s.size : Int)) = true := by simpa using h
  have hle : a ≤ s.size := by omega
  clear h
  have ha0 : decide ((a : Int) < 0) = false := by simp
  have ha1 : decide (s.size < a) = false := by simp; omega
  go_enter Tryz.func70, Tryz.ntmps70
  go_wp2_with fail
  refine bodyPost_ret (v := .tuple #[.agg #[.bool false, .string ⟨#[]⟩, .bool false, .string ⟨#[]⟩], .int .i64 0, .int .i64 10]) (by simp [results, Tryz.results70, go_sem]) rfl ⟨rfl, ?_⟩
  exact one_box _

set_option maxRecDepth 100000 in
set_option maxHeartbeats 1000000 in
theorem get_zero (s : ByteArray) (a : Nat) (v : ByteArray) (to : Int) (w : World) (hs : s.size ≤ 140737488355328) (h : a < s.size) (hb : s[a].toNat = 0) (T1 : Hid (V.text s ((a : Int) + 1) 512 = (v, to, 0))) :
    Calls Tryz.prog 70 #[.string s, .int .i64 a] w fun e w' => e = .returned (.tuple #[.agg #[.bool false, .string ⟨#[]⟩, .bool false, .string v], .int .i64 to, .int .i64 0]) ∧ Below w.heap.size w w' := by
  have ha0 : decide ((a : Int) < 0) = false := by simp
  have ha1 : decide (s.size < a) = false := by simp; omega
  go_enter Tryz.func70, Tryz.ntmps70
  go_wp2_with (first
    | (go_at_call 82; refine (outline_zero _).mono ?_; rintro e w1 ⟨rfl, hb1⟩; obtain ⟨hc1, hf1⟩ := box_cells hb1; have hz1 : w.heap.size < w1.heap.size := (by have := hb1.size; simp at this; omega); have hB1 : Below w.heap.size w w1 := (one_box _).trans (hb1.mono (by simp)); have HR1 : Hid (w1.heap[w.heap.size]? = some (.cells #[.bool false, .string ⟨#[]⟩, .bool false, .string ⟨#[]⟩] 35 (0, 0))) := Lib.hid ((hb1.block _ (by simp)).trans (heap_alloc_new _ _)))
    | (go_at_call 71; (with_reducible refine (text_is _ _ _ _ (by omega) (by decide) _ _ _ T1).mono ?_); rintro e w2 ⟨rfl, hb2⟩; obtain ⟨hc2, hf2⟩ := box_cells hb2; have hz2 : w1.heap.size < w2.heap.size := (by have := hb2.size; simp at this; omega); have hz2' : w.heap.size < w2.heap.size := (by omega); have hB2 : Below w.heap.size w w2 := (hB1.alloc (by omega) _).trans (hb2.mono (by simp; omega)); have HR2 := Lib.hid ((hb2.block w.heap.size (by simp; omega)).trans ((Below.heap_alloc _ _ _ hz1).trans HR1.out))))
  refine bodyPost_ret (v := .tuple #[.agg #[.bool false, .string ⟨#[]⟩, .bool false, .string v], .int .i64 to, .int .i64 0]) (results_row3 (p := 4) (t1 := 5) (t2 := 6) (ty := 35) Tryz.results70 _ _ w.heap.size 35 #[(.bool false), (.string ⟨#[]⟩), (.bool false), (.string v)] (0, 0) _ rfl ?row Tryz.underlying35 rfl (by kernel_rfl)) rfl ⟨rfl, ?_⟩
  case row => exact heap_setCell_same _ w.heap.size 3 _ _ (.string v) (heap_setCell_same _ w.heap.size 2 _ _ (.bool false) (heap_setCell_same _ w.heap.size 1 _ _ (.string ⟨#[]⟩) (heap_setCell_same _ w.heap.size 0 _ _ (.bool false) ((heap_setCell_other _ _ _ _ (by show _ ≠ w1.heap.size; omega)).trans HR2.out))))
  repeat (first | with_reducible exact hB2 | refine Below.setCell ?_ (by simp <;> omega) _ | refine Below.alloc ?_ (by simp <;> omega) _)

set_option maxRecDepth 100000 in
set_option maxHeartbeats 1000000 in
theorem get_three (s : ByteArray) (a : Nat) (k : ByteArray) (to : Int) (w : World) (hs : s.size ≤ 140737488355328) (h : a < s.size) (hb : s[a].toNat = 3) (T1 : Hid (V.text s ((a : Int) + 1) 64 = (k, to, 0))) :
    Calls Tryz.prog 70 #[.string s, .int .i64 a] w fun e w' => e = .returned (.tuple #[.agg #[.bool true, .string k, .bool true, .string ⟨#[]⟩], .int .i64 to, .int .i64 0]) ∧ Below w.heap.size w w' := by
  have ha0 : decide ((a : Int) < 0) = false := by simp
  have ha1 : decide (s.size < a) = false := by simp; omega
  go_enter Tryz.func70, Tryz.ntmps70
  go_wp2_with (first
    | (go_at_call 82; refine (outline_three _).mono ?_; rintro e w1 ⟨rfl, hb1⟩; obtain ⟨hc1, hf1⟩ := box_cells hb1; have hz1 : w.heap.size < w1.heap.size := (by have := hb1.size; simp at this; omega); have hB1 : Below w.heap.size w w1 := (one_box _).trans (hb1.mono (by simp)); have HR1 : Hid (w1.heap[w.heap.size]? = some (.cells #[.bool false, .string ⟨#[]⟩, .bool false, .string ⟨#[]⟩] 35 (0, 0))) := Lib.hid ((hb1.block _ (by simp)).trans (heap_alloc_new _ _)))
    | (go_at_call 71; (with_reducible refine (text_is _ _ _ _ (by omega) (by decide) _ _ _ T1).mono ?_); rintro e w2 ⟨rfl, hb2⟩; obtain ⟨hc2, hf2⟩ := box_cells hb2; have hz2 : w1.heap.size < w2.heap.size := (by have := hb2.size; simp at this; omega); have hz2' : w.heap.size < w2.heap.size := (by omega); have hB2 : Below w.heap.size w w2 := (hB1.alloc (by omega) _).trans (hb2.mono (by simp; omega)); have HR2 := Lib.hid ((hb2.block w.heap.size (by simp; omega)).trans ((Below.heap_alloc _ _ _ hz1).trans HR1.out))))
  refine bodyPost_ret (v := .tuple #[.agg #[.bool true, .string k, .bool true, .string ⟨#[]⟩], .int .i64 to, .int .i64 0]) (results_row3 (p := 4) (t1 := 5) (t2 := 6) (ty := 35) Tryz.results70 _ _ w.heap.size 35 #[(.bool true), (.string k), (.bool true), (.string ⟨#[]⟩)] (0, 0) _ rfl ?row Tryz.underlying35 rfl (by kernel_rfl)) rfl ⟨rfl, ?_⟩
  case row => exact heap_setCell_same _ w.heap.size 3 _ _ (.string ⟨#[]⟩) (heap_setCell_same _ w.heap.size 2 _ _ (.bool true) (heap_setCell_same _ w.heap.size 1 _ _ (.string k) (heap_setCell_same _ w.heap.size 0 _ _ (.bool true) ((heap_setCell_other _ _ _ _ (by show _ ≠ w1.heap.size; omega)).trans HR2.out))))
  repeat (first | with_reducible exact hB2 | refine Below.setCell ?_ (by simp <;> omega) _ | refine Below.alloc ?_ (by simp <;> omega) _)

set_option maxRecDepth 100000 in
set_option maxHeartbeats 1000000 in
theorem get_one (s : ByteArray) (a : Nat) (k v : ByteArray) (p to : Int) (w : World) (hs : s.size ≤ 140737488355328) (h : a < s.size) (hb : s[a].toNat = 1) (T1 : Hid (V.text s ((a : Int) + 1) 64 = (k, p, 0))) (T2 : Hid (V.text s p 512 = (v, to, 0))) :
    Calls Tryz.prog 70 #[.string s, .int .i64 a] w fun e w' => e = .returned (.tuple #[.agg #[.bool true, .string k, .bool false, .string v], .int .i64 to, .int .i64 0]) ∧ Below w.heap.size w w' := by
  have ha0 : decide ((a : Int) < 0) = false := by simp
  have ha1 : decide (s.size < a) = false := by simp; omega
  go_enter Tryz.func70, Tryz.ntmps70
  go_wp2_with (first
    | (go_at_call 82; refine (outline_one _).mono ?_; rintro e w1 ⟨rfl, hb1⟩; obtain ⟨hc1, hf1⟩ := box_cells hb1; have hz1 : w.heap.size < w1.heap.size := (by have := hb1.size; simp at this; omega); have hB1 : Below w.heap.size w w1 := (one_box _).trans (hb1.mono (by simp)); have HR1 : Hid (w1.heap[w.heap.size]? = some (.cells #[.bool false, .string ⟨#[]⟩, .bool false, .string ⟨#[]⟩] 35 (0, 0))) := Lib.hid ((hb1.block _ (by simp)).trans (heap_alloc_new _ _)))
    | (go_at_call 71; (with_reducible refine (text_is _ _ _ _ (by omega) (by decide) _ _ _ T1).mono ?_); rintro e w2 ⟨rfl, hb2⟩; obtain ⟨hc2, hf2⟩ := box_cells hb2; have hz2 : w1.heap.size < w2.heap.size := (by have := hb2.size; simp at this; omega); have hz2' : w.heap.size < w2.heap.size := (by omega); have hB2 : Below w.heap.size w w2 := (hB1.alloc (by omega) _).trans (hb2.mono (by simp; omega)); have HR2 := Lib.hid ((hb2.block w.heap.size (by simp; omega)).trans ((Below.heap_alloc _ _ _ hz1).trans HR1.out)))
    | (go_at_call 71; (with_reducible refine (text_is _ _ _ _ (by omega) (by decide) _ _ _ T2).mono ?_); rintro e w3 ⟨rfl, hb3⟩; obtain ⟨hc3, hf3⟩ := box_cells hb3; have hz3 : w1.heap.size < w3.heap.size := (by have := hb3.size; simp at this; omega); have hz3' : w.heap.size < w3.heap.size := (by omega); have hB3 : Below w.heap.size w w3 := (hB2.setCell (by show _ ≤ w1.heap.size; omega) _).trans (hb3.mono (by simp; omega)); have HR3 := Lib.hid ((hb3.block w.heap.size (by simp; omega)).trans ((heap_setCell_other _ _ _ _ (by show _ ≠ w1.heap.size; omega)).trans HR2.out))))
  refine bodyPost_ret (v := .tuple #[.agg #[.bool true, .string k, .bool false, .string v], .int .i64 to, .int .i64 0]) (results_row3 (p := 4) (t1 := 5) (t2 := 6) (ty := 35) Tryz.results70 _ _ w.heap.size 35 #[(.bool true), (.string k), (.bool false), (.string v)] (0, 0) _ rfl ?row Tryz.underlying35 rfl (by kernel_rfl)) rfl ⟨rfl, ?_⟩
  case row => exact heap_setCell_same _ w.heap.size 3 _ _ (.string v) (heap_setCell_same _ w.heap.size 2 _ _ (.bool false) (heap_setCell_same _ w.heap.size 1 _ _ (.string k) (heap_setCell_same _ w.heap.size 0 _ _ (.bool true) ((heap_setCell_other _ _ _ _ (by show _ ≠ w1.heap.size; omega)).trans HR3.out))))
  repeat (first | with_reducible exact hB3 | refine Below.setCell ?_ (by simp <;> omega) _ | refine Below.alloc ?_ (by simp <;> omega) _)

set_option maxRecDepth 100000 in
set_option maxHeartbeats 1000000 in
theorem get_zero_err (s : ByteArray) (a : Nat) (v : ByteArray) (to x : Int) (w : World) (hs : s.size ≤ 140737488355328) (h : a < s.size) (hb : s[a].toNat = 0) (HX : x ≠ 0) (T1 : Hid (V.text s ((a : Int) + 1) 512 = (v, to, x))) :
    Calls Tryz.prog 70 #[.string s, .int .i64 a] w fun e w' => e = .returned (.tuple #[.agg #[.bool false, .string ⟨#[]⟩, .bool false, .string ⟨#[]⟩], .int .i64 0, .int .i64 x]) ∧ Below w.heap.size w w' := by
  have he : (x != 0) = true := by simpa using HX
  clear HX
  have ha0 : decide ((a : Int) < 0) = false := by simp
  have ha1 : decide (s.size < a) = false := by simp; omega
  go_enter Tryz.func70, Tryz.ntmps70
  go_wp2_with (first
    | (go_at_call 82; refine (outline_zero _).mono ?_; rintro e w1 ⟨rfl, hb1⟩; obtain ⟨hc1, hf1⟩ := box_cells hb1; have hz1 : w.heap.size < w1.heap.size := (by have := hb1.size; simp at this; omega); have hB1 : Below w.heap.size w w1 := (one_box _).trans (hb1.mono (by simp)); have HR1 : Hid (w1.heap[w.heap.size]? = some (.cells #[.bool false, .string ⟨#[]⟩, .bool false, .string ⟨#[]⟩] 35 (0, 0))) := Lib.hid ((hb1.block _ (by simp)).trans (heap_alloc_new _ _)))
    | (go_at_call 71; (with_reducible refine (text_is _ _ _ _ (by omega) (by decide) _ _ _ T1).mono ?_); rintro e w2 ⟨rfl, hb2⟩; obtain ⟨hc2, hf2⟩ := box_cells hb2; have hz2 : w1.heap.size < w2.heap.size := (by have := hb2.size; simp at this; omega); have hz2' : w.heap.size < w2.heap.size := (by omega); have hB2 : Below w.heap.size w w2 := (hB1.alloc (by omega) _).trans (hb2.mono (by simp; omega)); have HR2 := Lib.hid ((hb2.block w.heap.size (by simp; omega)).trans ((Below.heap_alloc _ _ _ hz1).trans HR1.out))))
  refine bodyPost_ret (v := .tuple #[.agg #[.bool false, .string ⟨#[]⟩, .bool false, .string ⟨#[]⟩], .int .i64 0, .int .i64 x]) (results_row3 (p := 4) (t1 := 5) (t2 := 6) (ty := 35) Tryz.results70 _ _ w.heap.size 35 #[(.bool false), (.string ⟨#[]⟩), (.bool false), (.string ⟨#[]⟩)] (0, 0) _ rfl ?row Tryz.underlying35 rfl (by kernel_rfl)) rfl ⟨rfl, ?_⟩
  case row => exact heap_setCell_same _ w.heap.size 3 _ _ (.string ⟨#[]⟩) (heap_setCell_same _ w.heap.size 2 _ _ (.bool false) (heap_setCell_same _ w.heap.size 1 _ _ (.string ⟨#[]⟩) (heap_setCell_same _ w.heap.size 0 _ _ (.bool false) ((heap_setCell_other _ _ _ _ (by show _ ≠ w1.heap.size; omega)).trans HR2.out))))
  repeat (first | with_reducible exact hB2 | refine Below.setCell ?_ (by simp <;> omega) _ | refine Below.alloc ?_ (by simp <;> omega) _)

set_option maxRecDepth 100000 in
set_option maxHeartbeats 1000000 in
theorem get_three_err (s : ByteArray) (a : Nat) (k : ByteArray) (to x : Int) (w : World) (hs : s.size ≤ 140737488355328) (h : a < s.size) (hb : s[a].toNat = 3) (HX : x ≠ 0) (T1 : Hid (V.text s ((a : Int) + 1) 64 = (k, to, x))) :
    Calls Tryz.prog 70 #[.string s, .int .i64 a] w fun e w' => e = .returned (.tuple #[.agg #[.bool false, .string ⟨#[]⟩, .bool false, .string ⟨#[]⟩], .int .i64 0, .int .i64 x]) ∧ Below w.heap.size w w' := by
  have he : (x != 0) = true := by simpa using HX
  clear HX
  have ha0 : decide ((a : Int) < 0) = false := by simp
  have ha1 : decide (s.size < a) = false := by simp; omega
  go_enter Tryz.func70, Tryz.ntmps70
  go_wp2_with (first
    | (go_at_call 82; refine (outline_three _).mono ?_; rintro e w1 ⟨rfl, hb1⟩; obtain ⟨hc1, hf1⟩ := box_cells hb1; have hz1 : w.heap.size < w1.heap.size := (by have := hb1.size; simp at this; omega); have hB1 : Below w.heap.size w w1 := (one_box _).trans (hb1.mono (by simp)); have HR1 : Hid (w1.heap[w.heap.size]? = some (.cells #[.bool false, .string ⟨#[]⟩, .bool false, .string ⟨#[]⟩] 35 (0, 0))) := Lib.hid ((hb1.block _ (by simp)).trans (heap_alloc_new _ _)))
    | (go_at_call 71; (with_reducible refine (text_is _ _ _ _ (by omega) (by decide) _ _ _ T1).mono ?_); rintro e w2 ⟨rfl, hb2⟩; obtain ⟨hc2, hf2⟩ := box_cells hb2; have hz2 : w1.heap.size < w2.heap.size := (by have := hb2.size; simp at this; omega); have hz2' : w.heap.size < w2.heap.size := (by omega); have hB2 : Below w.heap.size w w2 := (hB1.alloc (by omega) _).trans (hb2.mono (by simp; omega)); have HR2 := Lib.hid ((hb2.block w.heap.size (by simp; omega)).trans ((Below.heap_alloc _ _ _ hz1).trans HR1.out))))
  refine bodyPost_ret (v := .tuple #[.agg #[.bool false, .string ⟨#[]⟩, .bool false, .string ⟨#[]⟩], .int .i64 0, .int .i64 x]) (results_row3 (p := 4) (t1 := 5) (t2 := 6) (ty := 35) Tryz.results70 _ _ w.heap.size 35 #[(.bool false), (.string ⟨#[]⟩), (.bool false), (.string ⟨#[]⟩)] (0, 0) _ rfl ?row Tryz.underlying35 rfl (by kernel_rfl)) rfl ⟨rfl, ?_⟩
  case row => exact heap_setCell_same _ w.heap.size 3 _ _ (.string ⟨#[]⟩) (heap_setCell_same _ w.heap.size 2 _ _ (.bool false) (heap_setCell_same _ w.heap.size 1 _ _ (.string ⟨#[]⟩) (heap_setCell_same _ w.heap.size 0 _ _ (.bool false) ((heap_setCell_other _ _ _ _ (by show _ ≠ w1.heap.size; omega)).trans HR2.out))))
  repeat (first | with_reducible exact hB2 | refine Below.setCell ?_ (by simp <;> omega) _ | refine Below.alloc ?_ (by simp <;> omega) _)

set_option maxRecDepth 100000 in
set_option maxHeartbeats 1000000 in
theorem get_one_err (s : ByteArray) (a : Nat) (k : ByteArray) (to x : Int) (w : World) (hs : s.size ≤ 140737488355328) (h : a < s.size) (hb : s[a].toNat = 1) (HX : x ≠ 0) (T1 : Hid (V.text s ((a : Int) + 1) 64 = (k, to, x))) :
    Calls Tryz.prog 70 #[.string s, .int .i64 a] w fun e w' => e = .returned (.tuple #[.agg #[.bool false, .string ⟨#[]⟩, .bool false, .string ⟨#[]⟩], .int .i64 0, .int .i64 x]) ∧ Below w.heap.size w w' := by
  have he : (x != 0) = true := by simpa using HX
  clear HX
  have ha0 : decide ((a : Int) < 0) = false := by simp
  have ha1 : decide (s.size < a) = false := by simp; omega
  go_enter Tryz.func70, Tryz.ntmps70
  go_wp2_with (first
    | (go_at_call 82; refine (outline_one _).mono ?_; rintro e w1 ⟨rfl, hb1⟩; obtain ⟨hc1, hf1⟩ := box_cells hb1; have hz1 : w.heap.size < w1.heap.size := (by have := hb1.size; simp at this; omega); have hB1 : Below w.heap.size w w1 := (one_box _).trans (hb1.mono (by simp)); have HR1 : Hid (w1.heap[w.heap.size]? = some (.cells #[.bool false, .string ⟨#[]⟩, .bool false, .string ⟨#[]⟩] 35 (0, 0))) := Lib.hid ((hb1.block _ (by simp)).trans (heap_alloc_new _ _)))
    | (go_at_call 71; (with_reducible refine (text_is _ _ _ _ (by omega) (by decide) _ _ _ T1).mono ?_); rintro e w2 ⟨rfl, hb2⟩; obtain ⟨hc2, hf2⟩ := box_cells hb2; have hz2 : w1.heap.size < w2.heap.size := (by have := hb2.size; simp at this; omega); have hz2' : w.heap.size < w2.heap.size := (by omega); have hB2 : Below w.heap.size w w2 := (hB1.alloc (by omega) _).trans (hb2.mono (by simp; omega)); have HR2 := Lib.hid ((hb2.block w.heap.size (by simp; omega)).trans ((Below.heap_alloc _ _ _ hz1).trans HR1.out))))
  refine bodyPost_ret (v := .tuple #[.agg #[.bool false, .string ⟨#[]⟩, .bool false, .string ⟨#[]⟩], .int .i64 0, .int .i64 x]) (results_row3 (p := 4) (t1 := 5) (t2 := 6) (ty := 35) Tryz.results70 _ _ w.heap.size 35 #[(.bool false), (.string ⟨#[]⟩), (.bool false), (.string ⟨#[]⟩)] (0, 0) _ rfl ?row Tryz.underlying35 rfl (by kernel_rfl)) rfl ⟨rfl, ?_⟩
  case row => exact heap_setCell_same _ w.heap.size 3 _ _ (.string ⟨#[]⟩) (heap_setCell_same _ w.heap.size 2 _ _ (.bool false) (heap_setCell_same _ w.heap.size 1 _ _ (.string ⟨#[]⟩) (heap_setCell_same _ w.heap.size 0 _ _ (.bool false) ((heap_setCell_other _ _ _ _ (by show _ ≠ w1.heap.size; omega)).trans HR2.out))))
  repeat (first | with_reducible exact hB2 | refine Below.setCell ?_ (by simp <;> omega) _ | refine Below.alloc ?_ (by simp <;> omega) _)

set_option maxRecDepth 100000 in
set_option maxHeartbeats 1000000 in
theorem get_one_err2 (s : ByteArray) (a : Nat) (k v : ByteArray) (p to x : Int) (w : World) (hs : s.size ≤ 140737488355328) (h : a < s.size) (hb : s[a].toNat = 1) (HX : x ≠ 0) (T1 : Hid (V.text s ((a : Int) + 1) 64 = (k, p, 0))) (T2 : Hid (V.text s p 512 = (v, to, x))) :
    Calls Tryz.prog 70 #[.string s, .int .i64 a] w fun e w' => e = .returned (.tuple #[.agg #[.bool false, .string ⟨#[]⟩, .bool false, .string ⟨#[]⟩], .int .i64 0, .int .i64 x]) ∧ Below w.heap.size w w' := by
  have he : (x != 0) = true := by simpa using HX
  clear HX
  have ha0 : decide ((a : Int) < 0) = false := by simp
  have ha1 : decide (s.size < a) = false := by simp; omega
  go_enter Tryz.func70, Tryz.ntmps70
  go_wp2_with (first
    | (go_at_call 82; refine (outline_one _).mono ?_; rintro e w1 ⟨rfl, hb1⟩; obtain ⟨hc1, hf1⟩ := box_cells hb1; have hz1 : w.heap.size < w1.heap.size := (by have := hb1.size; simp at this; omega); have hB1 : Below w.heap.size w w1 := (one_box _).trans (hb1.mono (by simp)); have HR1 : Hid (w1.heap[w.heap.size]? = some (.cells #[.bool false, .string ⟨#[]⟩, .bool false, .string ⟨#[]⟩] 35 (0, 0))) := Lib.hid ((hb1.block _ (by simp)).trans (heap_alloc_new _ _)))
    | (go_at_call 71; (with_reducible refine (text_is _ _ _ _ (by omega) (by decide) _ _ _ T1).mono ?_); rintro e w2 ⟨rfl, hb2⟩; obtain ⟨hc2, hf2⟩ := box_cells hb2; have hz2 : w1.heap.size < w2.heap.size := (by have := hb2.size; simp at this; omega); have hz2' : w.heap.size < w2.heap.size := (by omega); have hB2 : Below w.heap.size w w2 := (hB1.alloc (by omega) _).trans (hb2.mono (by simp; omega)); have HR2 := Lib.hid ((hb2.block w.heap.size (by simp; omega)).trans ((Below.heap_alloc _ _ _ hz1).trans HR1.out)))
    | (go_at_call 71; (with_reducible refine (text_is _ _ _ _ (by omega) (by decide) _ _ _ T2).mono ?_); rintro e w3 ⟨rfl, hb3⟩; obtain ⟨hc3, hf3⟩ := box_cells hb3; have hz3 : w1.heap.size < w3.heap.size := (by have := hb3.size; simp at this; omega); have hz3' : w.heap.size < w3.heap.size := (by omega); have hB3 : Below w.heap.size w w3 := (hB2.setCell (by show _ ≤ w1.heap.size; omega) _).trans (hb3.mono (by simp; omega)); have HR3 := Lib.hid ((hb3.block w.heap.size (by simp; omega)).trans ((heap_setCell_other _ _ _ _ (by show _ ≠ w1.heap.size; omega)).trans HR2.out))))
  refine bodyPost_ret (v := .tuple #[.agg #[.bool false, .string ⟨#[]⟩, .bool false, .string ⟨#[]⟩], .int .i64 0, .int .i64 x]) (results_row3 (p := 4) (t1 := 5) (t2 := 6) (ty := 35) Tryz.results70 _ _ w.heap.size 35 #[(.bool false), (.string ⟨#[]⟩), (.bool false), (.string ⟨#[]⟩)] (0, 0) _ rfl ?row Tryz.underlying35 rfl (by kernel_rfl)) rfl ⟨rfl, ?_⟩
  case row => exact heap_setCell_same _ w.heap.size 3 _ _ (.string ⟨#[]⟩) (heap_setCell_same _ w.heap.size 2 _ _ (.bool false) (heap_setCell_same _ w.heap.size 1 _ _ (.string ⟨#[]⟩) (heap_setCell_same _ w.heap.size 0 _ _ (.bool false) ((heap_setCell_other _ _ _ _ (by show _ ≠ w1.heap.size; omega)).trans HR3.out))))
  repeat (first | with_reducible exact hB3 | refine Below.setCell ?_ (by simp <;> omega) _ | refine Below.alloc ?_ (by simp <;> omega) _)

set_option maxRecDepth 100000 in
set_option maxHeartbeats 1000000 in
theorem get_none (s : ByteArray) (a : Nat) (w : World) (h : a < s.size) (hn : s[a].toNat ≠ 0 ∧ s[a].toNat ≠ 1 ∧ s[a].toNat ≠ 3) :
    Calls Tryz.prog 70 #[.string s, .int .i64 a] w fun e w' => e = .returned (.tuple #[.agg #[.bool false, .string ⟨#[]⟩, .bool false, .string ⟨#[]⟩], .int .i64 0, .int .i64 30]) ∧ Below w.heap.size w w' := by
  have HN : Hid ((s[a].toNat : Int) ≠ 0 ∧ (s[a].toNat : Int) ≠ 1 ∧ (s[a].toNat : Int) ≠ 3) := by show _ ∧ _; omega
  clear hn
  have ha0 : decide ((a : Int) < 0) = false := by simp
  have ha1 : decide (s.size < a) = false := by simp; omega
  go_enter Tryz.func70, Tryz.ntmps70
  go_wp2_with (first
    | (go_at_call 82; refine (outline_no _ _ HN.out).mono ?_; rintro e w1 ⟨rfl, hb1⟩; obtain ⟨hc1, hf1⟩ := box_cells hb1; have hz1 : w.heap.size < w1.heap.size := (by have := hb1.size; simp at this; omega); have hB1 : Below w.heap.size w w1 := (one_box _).trans (hb1.mono (by simp)); have HR1 : Hid (w1.heap[w.heap.size]? = some (.cells #[.bool false, .string ⟨#[]⟩, .bool false, .string ⟨#[]⟩] 35 (0, 0))) := Lib.hid ((hb1.block _ (by simp)).trans (heap_alloc_new _ _))))
  refine bodyPost_ret (v := .tuple #[.agg #[.bool false, .string ⟨#[]⟩, .bool false, .string ⟨#[]⟩], .int .i64 0, .int .i64 30]) (results_row3 (p := 4) (t1 := 5) (t2 := 6) (ty := 35) Tryz.results70 _ _ w.heap.size 35 #[(.bool false), (.string ⟨#[]⟩), (.bool false), (.string ⟨#[]⟩)] (0, 0) _ rfl ?row Tryz.underlying35 rfl (by kernel_rfl)) rfl ⟨rfl, ?_⟩
  case row => exact (Below.heap_alloc _ _ _ (by simp; omega)).trans (heap_setCell_same _ w.heap.size 3 _ _ (.string ⟨#[]⟩) (heap_setCell_same _ w.heap.size 2 _ _ (.bool false) (heap_setCell_same _ w.heap.size 1 _ _ (.string ⟨#[]⟩) (heap_setCell_same _ w.heap.size 0 _ _ (.bool false) HR1.out))))
  repeat (first | with_reducible exact hB1 | refine Below.setCell ?_ (by simp <;> omega) _ | refine Below.alloc ?_ (by simp <;> omega) _)

theorem get_any (s : ByteArray) (a : Int) (w : World) (hs : s.size ≤ 140737488355328) :
    Calls Tryz.prog 70 #[.string s, .int .i64 a] w fun e w' => e = .returned (.tuple #[.agg #[.bool (getR s a).1.hk, .string (getR s a).1.key, .bool (getR s a).1.tb, .string (getR s a).1.val], .int .i64 (getR s a).2.1, .int .i64 (getR s a).2.2]) ∧ Below w.heap.size w w' := by
  by_cases h0 : a < 0
  · rw [getR_out (.inl h0)]
    exact get_low s a w h0
  by_cases h1 : (s.size : Int) < a
  · rw [getR_out (.inr h1)]
    exact get_high s a w (by omega) h1
  obtain ⟨n, rfl⟩ : ∃ n : Nat, a = n := ⟨a.toNat, by omega⟩
  by_cases h2 : (n : Int) = s.size
  · rw [getR_end h2]
    exact get_end s n w h2
  have hn : n < s.size := by omega
  have hg : (V.nats s)[((n : Int)).toNat]? = some s[n].toNat := by
    rw [Int.toNat_natCast]
    have hl : n < (V.nats s).length := by rw [V.nats_len]; exact hn
    rw [List.getElem?_eq_getElem hl]
    simp [V.nats]
    rfl
  rw [getR_in (by omega) hg]
  by_cases c0 : s[n].toNat = 0
  · obtain ⟨v, p, e, ht⟩ : ∃ v p e, V.text s ((n : Int) + 1) 512 = (v, p, e) := ⟨_, _, _, rfl⟩
    rw [c0]
    by_cases he : e = 0
    · subst he
      rw [bodyR_zero ht]
      exact get_zero s n v p w hs hn c0 (Lib.hid ht)
    · rw [bodyR_zero_err ht he]
      exact get_zero_err s n v p e w hs hn c0 he (Lib.hid ht)
  by_cases c1 : s[n].toNat = 1
  · obtain ⟨k, p, e, ht⟩ : ∃ k p e, V.text s ((n : Int) + 1) 64 = (k, p, e) := ⟨_, _, _, rfl⟩
    rw [c1]
    by_cases he : e = 0
    · subst he
      obtain ⟨v, p2, e2, ht2⟩ : ∃ v p2 e2, V.text s p 512 = (v, p2, e2) := ⟨_, _, _, rfl⟩
      by_cases he2 : e2 = 0
      · subst he2
        rw [bodyR_one ht ht2]
        exact get_one s n k v p p2 w hs hn c1 (Lib.hid ht) (Lib.hid ht2)
      · rw [bodyR_one_err2 ht ht2 he2]
        exact get_one_err2 s n k v p p2 e2 w hs hn c1 he2 (Lib.hid ht) (Lib.hid ht2)
    · rw [bodyR_one_err ht he]
      exact get_one_err s n k p e w hs hn c1 he (Lib.hid ht)
  by_cases c3 : s[n].toNat = 3
  · obtain ⟨k, p, e, ht⟩ : ∃ k p e, V.text s ((n : Int) + 1) 64 = (k, p, e) := ⟨_, _, _, rfl⟩
    rw [c3]
    by_cases he : e = 0
    · subst he
      rw [bodyR_three ht]
      exact get_three s n k p w hs hn c3 (Lib.hid ht)
    · rw [bodyR_three_err ht he]
      exact get_three_err s n k p e w hs hn c3 he (Lib.hid ht)
  rw [bodyR_no ⟨c0, c1, c3⟩]
  exact get_none s n w hn ⟨c0, c1, c3⟩

theorem getrec_is (s : ByteArray) (a : Int) (r : R) (to x : Int) (w : World) (hs : s.size ≤ 140737488355328) (h : Hid (getR s a = (r, to, x))) :
    Calls Tryz.prog 70 #[.string s, .int .i64 a] w fun e w' => e = .returned (.tuple #[.agg #[.bool r.hk, .string r.key, .bool r.tb, .string r.val], .int .i64 to, .int .i64 x]) ∧ Below w.heap.size w w' := by
  have k := get_any s a w hs
  rw [h.out] at k
  exact k
end Go.Proofs.YtijofikpdhapoaaGreat.L3
