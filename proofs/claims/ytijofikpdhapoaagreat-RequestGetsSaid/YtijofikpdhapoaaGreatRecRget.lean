/-
  Contracts: the record at a place, the document's own.
-/
import Derived.Test.YtijofikpdhapoaaGreatRecGet
namespace Go.Proofs.YtijofikpdhapoaaGreat.L3
open Go.RowKit

theorem rtextget_is (s : ByteArray) (at_ most : Int) (w : World) (hs : s.size ≤ 281474976710656) (hmost : most ≤ 9223372036854775807) (t : ByteArray) (to e : Int) (h : Hid (V.text s at_ most = (t, to, e))) :
    Calls Tryz.prog 49 #[.string s, .int .i64 at_, .int .i64 most] w fun e1 w' => e1 = .returned (.tuple #[.string t, .int .i64 to, .int .i64 e]) ∧ Below w.heap.size w w' := by
  have := refgettext_any s at_ most w hs hmost
  rw [h.out] at this
  exact this

set_option maxRecDepth 100000 in
set_option maxHeartbeats 4000000 in
theorem rget_low (s : ByteArray) (a : Int) (w : World) (h : a < 0) :
    Calls Tryz.prog 50 #[.string s, .int .i64 a] w fun e w' => e = .returned (.tuple #[.agg #[.bool false, .string ⟨#[]⟩, .bool false, .string ⟨#[]⟩], .int .i64 0, .int .i64 1]) ∧ Below w.heap.size w w' := by
  go_enter Tryz.func50, Tryz.ntmps50
  go_wp2_with fail
  refine bodyPost_ret (v := .tuple #[.agg #[.bool false, .string ⟨#[]⟩, .bool false, .string ⟨#[]⟩], .int .i64 0, .int .i64 1]) (by simp [results, Tryz.results50, go_sem]) rfl ⟨rfl, ?_⟩
  repeat (first | with_reducible exact Below.refl _ _ | refine Below.setCell ?_ (by simp <;> omega) _ | refine Below.alloc ?_ (by simp <;> omega) _)

set_option maxRecDepth 100000 in
set_option maxHeartbeats 4000000 in
theorem rget_high (s : ByteArray) (a : Int) (w : World) (h0 : 0 ≤ a) (h : (s.size : Int) < a) :
    Calls Tryz.prog 50 #[.string s, .int .i64 a] w fun e w' => e = .returned (.tuple #[.agg #[.bool false, .string ⟨#[]⟩, .bool false, .string ⟨#[]⟩], .int .i64 0, .int .i64 1]) ∧ Below w.heap.size w w' := by
  go_enter Tryz.func50, Tryz.ntmps50
  go_wp2_with fail
  refine bodyPost_ret (v := .tuple #[.agg #[.bool false, .string ⟨#[]⟩, .bool false, .string ⟨#[]⟩], .int .i64 0, .int .i64 1]) (by simp [results, Tryz.results50, go_sem]) rfl ⟨rfl, ?_⟩
  repeat (first | with_reducible exact Below.refl _ _ | refine Below.setCell ?_ (by simp <;> omega) _ | refine Below.alloc ?_ (by simp <;> omega) _)

set_option maxRecDepth 100000 in
set_option maxHeartbeats 4000000 in
theorem rget_end (s : ByteArray) (a : Nat) (w : World) (h : (a : Int) = s.size) :
    Calls Tryz.prog 50 #[.string s, .int .i64 a] w fun e w' => e = .returned (.tuple #[.agg #[.bool false, .string ⟨#[]⟩, .bool false, .string ⟨#[]⟩], .int .i64 0, .int .i64 10]) ∧ Below w.heap.size w w' := by
  have hq : ((a : Int) == (s.size : Int)) = true := by simpa using h
  have hle : a ≤ s.size := by omega
  clear h
  have ha0 : decide ((a : Int) < 0) = false := by simp
  have ha1 : decide (s.size < a) = false := by simp; omega
  go_enter Tryz.func50, Tryz.ntmps50
  go_wp2_with fail
  refine bodyPost_ret (v := .tuple #[.agg #[.bool false, .string ⟨#[]⟩, .bool false, .string ⟨#[]⟩], .int .i64 0, .int .i64 10]) (by simp [results, Tryz.results50, go_sem]) rfl ⟨rfl, ?_⟩
  repeat (first | with_reducible exact Below.refl _ _ | refine Below.setCell ?_ (by simp <;> omega) _ | refine Below.alloc ?_ (by simp <;> omega) _)

set_option maxRecDepth 100000 in
set_option maxHeartbeats 4000000 in
theorem rget_zero (s : ByteArray) (a : Nat) (v : ByteArray) (to : Int) (w : World) (hs : s.size ≤ 140737488355328) (h : a < s.size) (hb : s[a].toNat = 0) (T1 : Hid (V.text s ((a : Int) + 1) 512 = (v, to, 0))) :
    Calls Tryz.prog 50 #[.string s, .int .i64 a] w fun e w' => e = .returned (.tuple #[.agg #[.bool false, .string ⟨#[]⟩, .bool false, .string v], .int .i64 to, .int .i64 0]) ∧ Below w.heap.size w w' := by
  have ha0 : decide ((a : Int) < 0) = false := by simp
  have ha1 : decide (s.size < a) = false := by simp; omega
  go_enter Tryz.func50, Tryz.ntmps50
  go_wp2_with (first
    | (go_at_call 49; (with_reducible refine (rtextget_is _ _ _ _ (by omega) (by decide) _ _ _ T1).mono ?_); rintro e w2 ⟨rfl, hb2⟩; obtain ⟨hc2, hf2⟩ := box_cells hb2; have hz2 : w.heap.size + 1 < w2.heap.size := (by have := hb2.size; simp at this; omega); have hz2' : w.heap.size < w2.heap.size := (by omega); have hB2 : Below w.heap.size w w2 := (two_box _ _).trans (hb2.mono (by simp; omega)); have HR2 : Hid (w2.heap[w.heap.size]? = some (.cells #[.bool false, .string ⟨#[]⟩, .bool false, .string ⟨#[]⟩] 35 (0, 0))) := Lib.hid ((hb2.block w.heap.size (by simp; omega)).trans ((Below.heap_alloc _ _ _ (by simp)).trans (heap_alloc_new _ _)))))
  refine bodyPost_ret (v := .tuple #[.agg #[.bool false, .string ⟨#[]⟩, .bool false, .string v], .int .i64 to, .int .i64 0]) (results_row3 (p := 4) (t1 := 5) (t2 := 6) (ty := 35) Tryz.results50 _ _ w.heap.size 35 #[(.bool false), (.string ⟨#[]⟩), (.bool false), (.string v)] (0, 0) _ rfl ?row Tryz.underlying35 rfl (by kernel_rfl)) rfl ⟨rfl, ?_⟩
  case row => exact heap_setCell_same _ w.heap.size 3 _ _ (.string v) (heap_setCell_same _ w.heap.size 2 _ _ (.bool false) (heap_setCell_same _ w.heap.size 1 _ _ (.string ⟨#[]⟩) (heap_setCell_same _ w.heap.size 0 _ _ (.bool false) ((heap_setCell_other _ _ _ _ (by show _ ≠ w.heap.size + 1; omega)).trans HR2.out))))
  repeat (first | with_reducible exact hB2 | refine Below.setCell ?_ (by simp <;> omega) _ | refine Below.alloc ?_ (by simp <;> omega) _)

set_option maxRecDepth 100000 in
set_option maxHeartbeats 4000000 in
theorem rget_three (s : ByteArray) (a : Nat) (k : ByteArray) (to : Int) (w : World) (hs : s.size ≤ 140737488355328) (h : a < s.size) (hb : s[a].toNat = 3) (T1 : Hid (V.text s ((a : Int) + 1) 64 = (k, to, 0))) :
    Calls Tryz.prog 50 #[.string s, .int .i64 a] w fun e w' => e = .returned (.tuple #[.agg #[.bool true, .string k, .bool true, .string ⟨#[]⟩], .int .i64 to, .int .i64 0]) ∧ Below w.heap.size w w' := by
  have ha0 : decide ((a : Int) < 0) = false := by simp
  have ha1 : decide (s.size < a) = false := by simp; omega
  go_enter Tryz.func50, Tryz.ntmps50
  go_wp2_with (first
    | (go_at_call 49; (with_reducible refine (rtextget_is _ _ _ _ (by omega) (by decide) _ _ _ T1).mono ?_); rintro e w2 ⟨rfl, hb2⟩; obtain ⟨hc2, hf2⟩ := box_cells hb2; have hz2 : w.heap.size + 1 < w2.heap.size := (by have := hb2.size; simp at this; omega); have hz2' : w.heap.size < w2.heap.size := (by omega); have hB2 : Below w.heap.size w w2 := (two_box _ _).trans (hb2.mono (by simp; omega)); have HR2 : Hid (w2.heap[w.heap.size]? = some (.cells #[.bool false, .string ⟨#[]⟩, .bool false, .string ⟨#[]⟩] 35 (0, 0))) := Lib.hid ((hb2.block w.heap.size (by simp; omega)).trans ((Below.heap_alloc _ _ _ (by simp)).trans (heap_alloc_new _ _)))))
  refine bodyPost_ret (v := .tuple #[.agg #[.bool true, .string k, .bool true, .string ⟨#[]⟩], .int .i64 to, .int .i64 0]) (results_row3 (p := 4) (t1 := 5) (t2 := 6) (ty := 35) Tryz.results50 _ _ w.heap.size 35 #[(.bool true), (.string k), (.bool true), (.string ⟨#[]⟩)] (0, 0) _ rfl ?row Tryz.underlying35 rfl (by kernel_rfl)) rfl ⟨rfl, ?_⟩
  case row => exact heap_setCell_same _ w.heap.size 3 _ _ (.string ⟨#[]⟩) (heap_setCell_same _ w.heap.size 2 _ _ (.bool true) (heap_setCell_same _ w.heap.size 1 _ _ (.string k) (heap_setCell_same _ w.heap.size 0 _ _ (.bool true) ((heap_setCell_other _ _ _ _ (by show _ ≠ w.heap.size + 1; omega)).trans ((heap_setCell_other _ _ _ _ (by show _ ≠ w.heap.size + 1; omega)).trans ((heap_setCell_other _ _ _ _ (by show _ ≠ w.heap.size + 1; omega)).trans HR2.out))))))
  repeat (first | with_reducible exact hB2 | refine Below.setCell ?_ (by simp <;> omega) _ | refine Below.alloc ?_ (by simp <;> omega) _)

set_option maxRecDepth 100000 in
set_option maxHeartbeats 4000000 in
theorem rget_one (s : ByteArray) (a : Nat) (k v : ByteArray) (p to : Int) (w : World) (hs : s.size ≤ 140737488355328) (h : a < s.size) (hb : s[a].toNat = 1) (T1 : Hid (V.text s ((a : Int) + 1) 64 = (k, p, 0))) (T2 : Hid (V.text s p 512 = (v, to, 0))) :
    Calls Tryz.prog 50 #[.string s, .int .i64 a] w fun e w' => e = .returned (.tuple #[.agg #[.bool true, .string k, .bool false, .string v], .int .i64 to, .int .i64 0]) ∧ Below w.heap.size w w' := by
  have ha0 : decide ((a : Int) < 0) = false := by simp
  have ha1 : decide (s.size < a) = false := by simp; omega
  go_enter Tryz.func50, Tryz.ntmps50
  go_wp2_with (first
    | (go_at_call 49; (with_reducible refine (rtextget_is _ _ _ _ (by omega) (by decide) _ _ _ T1).mono ?_); rintro e w2 ⟨rfl, hb2⟩; obtain ⟨hc2, hf2⟩ := box_cells hb2; have hz2 : w.heap.size + 1 < w2.heap.size := (by have := hb2.size; simp at this; omega); have hz2' : w.heap.size < w2.heap.size := (by omega); have hB2 : Below w.heap.size w w2 := (two_box _ _).trans (hb2.mono (by simp; omega)); have HR2 : Hid (w2.heap[w.heap.size]? = some (.cells #[.bool false, .string ⟨#[]⟩, .bool false, .string ⟨#[]⟩] 35 (0, 0))) := Lib.hid ((hb2.block w.heap.size (by simp; omega)).trans ((Below.heap_alloc _ _ _ (by simp)).trans (heap_alloc_new _ _))))
    | (go_at_call 49; (with_reducible refine (rtextget_is _ _ _ _ (by omega) (by decide) _ _ _ T2).mono ?_); rintro e w3 ⟨rfl, hb3⟩; obtain ⟨hc3, hf3⟩ := box_cells hb3; have hz3 : w.heap.size + 1 < w3.heap.size := (by have := hb3.size; simp at this; omega); have hz3' : w.heap.size < w3.heap.size := (by omega); have hB3 : Below w.heap.size w w3 := ((hB2.setCell (by show _ ≤ w.heap.size + 1; omega) _).setCell (by show _ ≤ w.heap.size + 1; omega) _).trans (hb3.mono (by simp; omega)); have HR3 : Hid (w3.heap[w.heap.size]? = some (.cells #[.bool false, .string ⟨#[]⟩, .bool false, .string ⟨#[]⟩] 35 (0, 0))) := Lib.hid ((hb3.block w.heap.size (by simp; omega)).trans ((heap_setCell_other _ _ _ _ (by show _ ≠ w.heap.size + 1; omega)).trans ((heap_setCell_other _ _ _ _ (by show _ ≠ w.heap.size + 1; omega)).trans HR2.out)))))
  refine bodyPost_ret (v := .tuple #[.agg #[.bool true, .string k, .bool false, .string v], .int .i64 to, .int .i64 0]) (results_row3 (p := 4) (t1 := 5) (t2 := 6) (ty := 35) Tryz.results50 _ _ w.heap.size 35 #[(.bool true), (.string k), (.bool false), (.string v)] (0, 0) _ rfl ?row Tryz.underlying35 rfl (by kernel_rfl)) rfl ⟨rfl, ?_⟩
  case row => exact heap_setCell_same _ w.heap.size 3 _ _ (.string v) (heap_setCell_same _ w.heap.size 2 _ _ (.bool false) (heap_setCell_same _ w.heap.size 1 _ _ (.string k) (heap_setCell_same _ w.heap.size 0 _ _ (.bool true) ((heap_setCell_other _ _ _ _ (by show _ ≠ w.heap.size + 1; omega)).trans HR3.out))))
  repeat (first | with_reducible exact hB3 | refine Below.setCell ?_ (by simp <;> omega) _ | refine Below.alloc ?_ (by simp <;> omega) _)

set_option maxRecDepth 100000 in
set_option maxHeartbeats 4000000 in
theorem rget_zero_err (s : ByteArray) (a : Nat) (v : ByteArray) (to x : Int) (w : World) (hs : s.size ≤ 140737488355328) (h : a < s.size) (hb : s[a].toNat = 0) (HX : x ≠ 0) (T1 : Hid (V.text s ((a : Int) + 1) 512 = (v, to, x))) :
    Calls Tryz.prog 50 #[.string s, .int .i64 a] w fun e w' => e = .returned (.tuple #[.agg #[.bool false, .string ⟨#[]⟩, .bool false, .string ⟨#[]⟩], .int .i64 0, .int .i64 x]) ∧ Below w.heap.size w w' := by
  have he : (x != 0) = true := by simpa using HX
  clear HX
  have ha0 : decide ((a : Int) < 0) = false := by simp
  have ha1 : decide (s.size < a) = false := by simp; omega
  go_enter Tryz.func50, Tryz.ntmps50
  go_wp2_with (first
    | (go_at_call 49; (with_reducible refine (rtextget_is _ _ _ _ (by omega) (by decide) _ _ _ T1).mono ?_); rintro e w2 ⟨rfl, hb2⟩; obtain ⟨hc2, hf2⟩ := box_cells hb2; have hz2 : w.heap.size + 1 < w2.heap.size := (by have := hb2.size; simp at this; omega); have hz2' : w.heap.size < w2.heap.size := (by omega); have hB2 : Below w.heap.size w w2 := (two_box _ _).trans (hb2.mono (by simp; omega)); have HR2 : Hid (w2.heap[w.heap.size]? = some (.cells #[.bool false, .string ⟨#[]⟩, .bool false, .string ⟨#[]⟩] 35 (0, 0))) := Lib.hid ((hb2.block w.heap.size (by simp; omega)).trans ((Below.heap_alloc _ _ _ (by simp)).trans (heap_alloc_new _ _)))))
  refine bodyPost_ret (v := .tuple #[.agg #[.bool false, .string ⟨#[]⟩, .bool false, .string ⟨#[]⟩], .int .i64 0, .int .i64 x]) (results_row3 (p := 4) (t1 := 5) (t2 := 6) (ty := 35) Tryz.results50 _ _ w.heap.size 35 #[(.bool false), (.string ⟨#[]⟩), (.bool false), (.string ⟨#[]⟩)] (0, 0) _ rfl ?row Tryz.underlying35 rfl (by kernel_rfl)) rfl ⟨rfl, ?_⟩
  case row => exact heap_setCell_same _ w.heap.size 3 _ _ (.string ⟨#[]⟩) (heap_setCell_same _ w.heap.size 2 _ _ (.bool false) (heap_setCell_same _ w.heap.size 1 _ _ (.string ⟨#[]⟩) (heap_setCell_same _ w.heap.size 0 _ _ (.bool false) HR2.out)))
  repeat (first | with_reducible exact hB2 | refine Below.setCell ?_ (by simp <;> omega) _ | refine Below.alloc ?_ (by simp <;> omega) _)

set_option maxRecDepth 100000 in
set_option maxHeartbeats 4000000 in
theorem rget_three_err (s : ByteArray) (a : Nat) (k : ByteArray) (to x : Int) (w : World) (hs : s.size ≤ 140737488355328) (h : a < s.size) (hb : s[a].toNat = 3) (HX : x ≠ 0) (T1 : Hid (V.text s ((a : Int) + 1) 64 = (k, to, x))) :
    Calls Tryz.prog 50 #[.string s, .int .i64 a] w fun e w' => e = .returned (.tuple #[.agg #[.bool false, .string ⟨#[]⟩, .bool false, .string ⟨#[]⟩], .int .i64 0, .int .i64 x]) ∧ Below w.heap.size w w' := by
  have he : (x != 0) = true := by simpa using HX
  clear HX
  have ha0 : decide ((a : Int) < 0) = false := by simp
  have ha1 : decide (s.size < a) = false := by simp; omega
  go_enter Tryz.func50, Tryz.ntmps50
  go_wp2_with (first
    | (go_at_call 49; (with_reducible refine (rtextget_is _ _ _ _ (by omega) (by decide) _ _ _ T1).mono ?_); rintro e w2 ⟨rfl, hb2⟩; obtain ⟨hc2, hf2⟩ := box_cells hb2; have hz2 : w.heap.size + 1 < w2.heap.size := (by have := hb2.size; simp at this; omega); have hz2' : w.heap.size < w2.heap.size := (by omega); have hB2 : Below w.heap.size w w2 := (two_box _ _).trans (hb2.mono (by simp; omega)); have HR2 : Hid (w2.heap[w.heap.size]? = some (.cells #[.bool false, .string ⟨#[]⟩, .bool false, .string ⟨#[]⟩] 35 (0, 0))) := Lib.hid ((hb2.block w.heap.size (by simp; omega)).trans ((Below.heap_alloc _ _ _ (by simp)).trans (heap_alloc_new _ _)))))
  refine bodyPost_ret (v := .tuple #[.agg #[.bool false, .string ⟨#[]⟩, .bool false, .string ⟨#[]⟩], .int .i64 0, .int .i64 x]) (results_row3 (p := 4) (t1 := 5) (t2 := 6) (ty := 35) Tryz.results50 _ _ w.heap.size 35 #[(.bool false), (.string ⟨#[]⟩), (.bool false), (.string ⟨#[]⟩)] (0, 0) _ rfl ?row Tryz.underlying35 rfl (by kernel_rfl)) rfl ⟨rfl, ?_⟩
  case row => exact heap_setCell_same _ w.heap.size 3 _ _ (.string ⟨#[]⟩) (heap_setCell_same _ w.heap.size 2 _ _ (.bool false) (heap_setCell_same _ w.heap.size 1 _ _ (.string ⟨#[]⟩) (heap_setCell_same _ w.heap.size 0 _ _ (.bool false) HR2.out)))
  repeat (first | with_reducible exact hB2 | refine Below.setCell ?_ (by simp <;> omega) _ | refine Below.alloc ?_ (by simp <;> omega) _)

set_option maxRecDepth 100000 in
set_option maxHeartbeats 4000000 in
theorem rget_one_err (s : ByteArray) (a : Nat) (k : ByteArray) (to x : Int) (w : World) (hs : s.size ≤ 140737488355328) (h : a < s.size) (hb : s[a].toNat = 1) (HX : x ≠ 0) (T1 : Hid (V.text s ((a : Int) + 1) 64 = (k, to, x))) :
    Calls Tryz.prog 50 #[.string s, .int .i64 a] w fun e w' => e = .returned (.tuple #[.agg #[.bool false, .string ⟨#[]⟩, .bool false, .string ⟨#[]⟩], .int .i64 0, .int .i64 x]) ∧ Below w.heap.size w w' := by
  have he : (x != 0) = true := by simpa using HX
  clear HX
  have ha0 : decide ((a : Int) < 0) = false := by simp
  have ha1 : decide (s.size < a) = false := by simp; omega
  go_enter Tryz.func50, Tryz.ntmps50
  go_wp2_with (first
    | (go_at_call 49; (with_reducible refine (rtextget_is _ _ _ _ (by omega) (by decide) _ _ _ T1).mono ?_); rintro e w2 ⟨rfl, hb2⟩; obtain ⟨hc2, hf2⟩ := box_cells hb2; have hz2 : w.heap.size + 1 < w2.heap.size := (by have := hb2.size; simp at this; omega); have hz2' : w.heap.size < w2.heap.size := (by omega); have hB2 : Below w.heap.size w w2 := (two_box _ _).trans (hb2.mono (by simp; omega)); have HR2 : Hid (w2.heap[w.heap.size]? = some (.cells #[.bool false, .string ⟨#[]⟩, .bool false, .string ⟨#[]⟩] 35 (0, 0))) := Lib.hid ((hb2.block w.heap.size (by simp; omega)).trans ((Below.heap_alloc _ _ _ (by simp)).trans (heap_alloc_new _ _)))))
  refine bodyPost_ret (v := .tuple #[.agg #[.bool false, .string ⟨#[]⟩, .bool false, .string ⟨#[]⟩], .int .i64 0, .int .i64 x]) (results_row3 (p := 4) (t1 := 5) (t2 := 6) (ty := 35) Tryz.results50 _ _ w.heap.size 35 #[(.bool false), (.string ⟨#[]⟩), (.bool false), (.string ⟨#[]⟩)] (0, 0) _ rfl ?row Tryz.underlying35 rfl (by kernel_rfl)) rfl ⟨rfl, ?_⟩
  case row => exact heap_setCell_same _ w.heap.size 3 _ _ (.string ⟨#[]⟩) (heap_setCell_same _ w.heap.size 2 _ _ (.bool false) (heap_setCell_same _ w.heap.size 1 _ _ (.string ⟨#[]⟩) (heap_setCell_same _ w.heap.size 0 _ _ (.bool false) HR2.out)))
  repeat (first | with_reducible exact hB2 | refine Below.setCell ?_ (by simp <;> omega) _ | refine Below.alloc ?_ (by simp <;> omega) _)

set_option maxRecDepth 100000 in
set_option maxHeartbeats 4000000 in
theorem rget_one_err2 (s : ByteArray) (a : Nat) (k v : ByteArray) (p to x : Int) (w : World) (hs : s.size ≤ 140737488355328) (h : a < s.size) (hb : s[a].toNat = 1) (HX : x ≠ 0) (T1 : Hid (V.text s ((a : Int) + 1) 64 = (k, p, 0))) (T2 : Hid (V.text s p 512 = (v, to, x))) :
    Calls Tryz.prog 50 #[.string s, .int .i64 a] w fun e w' => e = .returned (.tuple #[.agg #[.bool false, .string ⟨#[]⟩, .bool false, .string ⟨#[]⟩], .int .i64 0, .int .i64 x]) ∧ Below w.heap.size w w' := by
  have he : (x != 0) = true := by simpa using HX
  clear HX
  have ha0 : decide ((a : Int) < 0) = false := by simp
  have ha1 : decide (s.size < a) = false := by simp; omega
  go_enter Tryz.func50, Tryz.ntmps50
  go_wp2_with (first
    | (go_at_call 49; (with_reducible refine (rtextget_is _ _ _ _ (by omega) (by decide) _ _ _ T1).mono ?_); rintro e w2 ⟨rfl, hb2⟩; obtain ⟨hc2, hf2⟩ := box_cells hb2; have hz2 : w.heap.size + 1 < w2.heap.size := (by have := hb2.size; simp at this; omega); have hz2' : w.heap.size < w2.heap.size := (by omega); have hB2 : Below w.heap.size w w2 := (two_box _ _).trans (hb2.mono (by simp; omega)); have HR2 : Hid (w2.heap[w.heap.size]? = some (.cells #[.bool false, .string ⟨#[]⟩, .bool false, .string ⟨#[]⟩] 35 (0, 0))) := Lib.hid ((hb2.block w.heap.size (by simp; omega)).trans ((Below.heap_alloc _ _ _ (by simp)).trans (heap_alloc_new _ _))))
    | (go_at_call 49; (with_reducible refine (rtextget_is _ _ _ _ (by omega) (by decide) _ _ _ T2).mono ?_); rintro e w3 ⟨rfl, hb3⟩; obtain ⟨hc3, hf3⟩ := box_cells hb3; have hz3 : w.heap.size + 1 < w3.heap.size := (by have := hb3.size; simp at this; omega); have hz3' : w.heap.size < w3.heap.size := (by omega); have hB3 : Below w.heap.size w w3 := ((hB2.setCell (by show _ ≤ w.heap.size + 1; omega) _).setCell (by show _ ≤ w.heap.size + 1; omega) _).trans (hb3.mono (by simp; omega)); have HR3 : Hid (w3.heap[w.heap.size]? = some (.cells #[.bool false, .string ⟨#[]⟩, .bool false, .string ⟨#[]⟩] 35 (0, 0))) := Lib.hid ((hb3.block w.heap.size (by simp; omega)).trans ((heap_setCell_other _ _ _ _ (by show _ ≠ w.heap.size + 1; omega)).trans ((heap_setCell_other _ _ _ _ (by show _ ≠ w.heap.size + 1; omega)).trans HR2.out)))))
  refine bodyPost_ret (v := .tuple #[.agg #[.bool false, .string ⟨#[]⟩, .bool false, .string ⟨#[]⟩], .int .i64 0, .int .i64 x]) (results_row3 (p := 4) (t1 := 5) (t2 := 6) (ty := 35) Tryz.results50 _ _ w.heap.size 35 #[(.bool false), (.string ⟨#[]⟩), (.bool false), (.string ⟨#[]⟩)] (0, 0) _ rfl ?row Tryz.underlying35 rfl (by kernel_rfl)) rfl ⟨rfl, ?_⟩
  case row => exact heap_setCell_same _ w.heap.size 3 _ _ (.string ⟨#[]⟩) (heap_setCell_same _ w.heap.size 2 _ _ (.bool false) (heap_setCell_same _ w.heap.size 1 _ _ (.string ⟨#[]⟩) (heap_setCell_same _ w.heap.size 0 _ _ (.bool false) HR3.out)))
  repeat (first | with_reducible exact hB3 | refine Below.setCell ?_ (by simp <;> omega) _ | refine Below.alloc ?_ (by simp <;> omega) _)

set_option maxRecDepth 100000 in
set_option maxHeartbeats 4000000 in
theorem rget_two (s : ByteArray) (a : Nat) (w : World) (h : a < s.size) (hb : s[a].toNat = 2) :
    Calls Tryz.prog 50 #[.string s, .int .i64 a] w fun e w' => e = .returned (.tuple #[.agg #[.bool false, .string ⟨#[]⟩, .bool false, .string ⟨#[]⟩], .int .i64 0, .int .i64 30]) ∧ Below w.heap.size w w' := by
  have ha0 : decide ((a : Int) < 0) = false := by simp
  have ha1 : decide (s.size < a) = false := by simp; omega
  go_enter Tryz.func50, Tryz.ntmps50
  go_wp2_with fail
  refine bodyPost_ret (v := .tuple #[.agg #[.bool false, .string ⟨#[]⟩, .bool false, .string ⟨#[]⟩], .int .i64 0, .int .i64 30]) (by simp [results, Tryz.results50, go_sem]) rfl ⟨rfl, ?_⟩
  repeat (first | with_reducible exact Below.refl _ _ | refine Below.setCell ?_ (by simp <;> omega) _ | refine Below.alloc ?_ (by simp <;> omega) _)

set_option maxRecDepth 100000 in
set_option maxHeartbeats 4000000 in
theorem rget_more (s : ByteArray) (a : Nat) (w : World) (h : a < s.size) (hn : 3 < s[a].toNat) :
    Calls Tryz.prog 50 #[.string s, .int .i64 a] w fun e w' => e = .returned (.tuple #[.agg #[.bool false, .string ⟨#[]⟩, .bool false, .string ⟨#[]⟩], .int .i64 0, .int .i64 30]) ∧ Below w.heap.size w w' := by
  have hn1 : (3 : Int) < (s[a].toNat : Int) := by omega
  have hn2 : ((s[a].toNat : Int) == 2) = false := by simp; omega
  have ha0 : decide ((a : Int) < 0) = false := by simp
  have ha1 : decide (s.size < a) = false := by simp; omega
  go_enter Tryz.func50, Tryz.ntmps50
  go_wp2_with fail
  refine bodyPost_ret (v := .tuple #[.agg #[.bool false, .string ⟨#[]⟩, .bool false, .string ⟨#[]⟩], .int .i64 0, .int .i64 30]) (by simp [results, Tryz.results50, go_sem]) rfl ⟨rfl, ?_⟩
  repeat (first | with_reducible exact Below.refl _ _ | refine Below.setCell ?_ (by simp <;> omega) _ | refine Below.alloc ?_ (by simp <;> omega) _)

theorem rget_any (s : ByteArray) (a : Int) (w : World) (hs : s.size ≤ 140737488355328) :
    Calls Tryz.prog 50 #[.string s, .int .i64 a] w fun e w' => e = .returned (.tuple #[.agg #[.bool (getR s a).1.hk, .string (getR s a).1.key, .bool (getR s a).1.tb, .string (getR s a).1.val], .int .i64 (getR s a).2.1, .int .i64 (getR s a).2.2]) ∧ Below w.heap.size w w' := by
  by_cases h0 : a < 0
  · rw [getR_out (.inl h0)]
    exact rget_low s a w h0
  by_cases h1 : (s.size : Int) < a
  · rw [getR_out (.inr h1)]
    exact rget_high s a w (by omega) h1
  obtain ⟨n, rfl⟩ : ∃ n : Nat, a = n := ⟨a.toNat, by omega⟩
  by_cases h2 : (n : Int) = s.size
  · rw [getR_end h2]
    exact rget_end s n w h2
  have hn : n < s.size := by omega
  have hg : (V.nats s)[((n : Int)).toNat]? = some s[n].toNat := by
    rw [Int.toNat_natCast]
    have hl : n < (V.nats s).length := by rw [V.nats_len]; exact hn
    rw [List.getElem?_eq_getElem hl]
    simp [V.nats]
    rfl
  rw [getR_in (by omega) hg]
  by_cases c0 : s[n].toNat = 0
  · obtain ⟨v, p, e, ht⟩ : ∃ v p e, V.text s ((n : Int) + 1) 512 = (v, p, e) := ⟨_, _, _, rfl⟩
    rw [c0]
    by_cases he : e = 0
    · subst he
      rw [bodyR_zero ht]
      exact rget_zero s n v p w hs hn c0 (Lib.hid ht)
    · rw [bodyR_zero_err ht he]
      exact rget_zero_err s n v p e w hs hn c0 he (Lib.hid ht)
  by_cases c1 : s[n].toNat = 1
  · obtain ⟨k, p, e, ht⟩ : ∃ k p e, V.text s ((n : Int) + 1) 64 = (k, p, e) := ⟨_, _, _, rfl⟩
    rw [c1]
    by_cases he : e = 0
    · subst he
      obtain ⟨v, p2, e2, ht2⟩ : ∃ v p2 e2, V.text s p 512 = (v, p2, e2) := ⟨_, _, _, rfl⟩
      by_cases he2 : e2 = 0
      · subst he2
        rw [bodyR_one ht ht2]
        exact rget_one s n k v p p2 w hs hn c1 (Lib.hid ht) (Lib.hid ht2)
      · rw [bodyR_one_err2 ht ht2 he2]
        exact rget_one_err2 s n k v p p2 e2 w hs hn c1 he2 (Lib.hid ht) (Lib.hid ht2)
    · rw [bodyR_one_err ht he]
      exact rget_one_err s n k p e w hs hn c1 he (Lib.hid ht)
  by_cases c3 : s[n].toNat = 3
  · obtain ⟨k, p, e, ht⟩ : ∃ k p e, V.text s ((n : Int) + 1) 64 = (k, p, e) := ⟨_, _, _, rfl⟩
    rw [c3]
    by_cases he : e = 0
    · subst he
      rw [bodyR_three ht]
      exact rget_three s n k p w hs hn c3 (Lib.hid ht)
    · rw [bodyR_three_err ht he]
      exact rget_three_err s n k p e w hs hn c3 he (Lib.hid ht)
  rw [bodyR_no ⟨c0, c1, c3⟩]
  by_cases c2 : s[n].toNat = 2
  · exact rget_two s n w hn c2
  exact rget_more s n w hn (by omega)

theorem rgetrec_is (s : ByteArray) (a : Int) (r : R) (to x : Int) (w : World) (hs : s.size ≤ 140737488355328) (h : Hid (getR s a = (r, to, x))) :
    Calls Tryz.prog 50 #[.string s, .int .i64 a] w fun e w' => e = .returned (.tuple #[.agg #[.bool r.hk, .string r.key, .bool r.tb, .string r.val], .int .i64 to, .int .i64 x]) ∧ Below w.heap.size w w' := by
  have k := rget_any s a w hs
  rw [h.out] at k
  exact k
end Go.Proofs.YtijofikpdhapoaaGreat.L3
