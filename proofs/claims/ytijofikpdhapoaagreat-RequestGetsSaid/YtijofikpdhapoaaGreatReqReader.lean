/-
  What a kind has is gone over by one function for the interface of visitors: here for the reader, its methods' contracts as hypotheses.
-/
import Derived.Test.YtijofikpdhapoaaGreatMRepChk
import Derived.Deep.RegionHeld3
import Derived.Lib.Hide
namespace Go.Proofs.YtijofikpdhapoaaGreat.L4.Reader
open Go.RowKit
open L3

theorem rw14 {w : World} {g : Nat} {a0 a1 a2 a3 a4 a5 a6 a7 a8 a9 a10 a11 a12 a13 : Value} {t : TypeId} (h : w.heap[g]? = some (.cells #[a0, a1, a2, a3, a4, a5, a6, a7, a8, a9, a10, a11, a12, a13] t (0, 0))) : w.cell? ⟨g, 0, none⟩ = some a0 ∧ w.cell? ⟨g, 1, none⟩ = some a1 ∧ w.cell? ⟨g, 2, none⟩ = some a2 ∧ w.cell? ⟨g, 3, none⟩ = some a3 ∧ w.cell? ⟨g, 4, none⟩ = some a4 ∧ w.cell? ⟨g, 5, none⟩ = some a5 ∧ w.cell? ⟨g, 6, none⟩ = some a6 ∧ w.cell? ⟨g, 7, none⟩ = some a7 ∧ w.cell? ⟨g, 8, none⟩ = some a8 ∧ w.cell? ⟨g, 9, none⟩ = some a9 ∧ w.cell? ⟨g, 10, none⟩ = some a10 ∧ w.cell? ⟨g, 11, none⟩ = some a11 ∧ w.cell? ⟨g, 12, none⟩ = some a12 ∧ w.cell? ⟨g, 13, none⟩ = some a13 := ⟨(cell_of_row _ _ 0 _ _ _ h).trans rfl, (cell_of_row _ _ 1 _ _ _ h).trans rfl, (cell_of_row _ _ 2 _ _ _ h).trans rfl, (cell_of_row _ _ 3 _ _ _ h).trans rfl, (cell_of_row _ _ 4 _ _ _ h).trans rfl, (cell_of_row _ _ 5 _ _ _ h).trans rfl, (cell_of_row _ _ 6 _ _ _ h).trans rfl, (cell_of_row _ _ 7 _ _ _ h).trans rfl, (cell_of_row _ _ 8 _ _ _ h).trans rfl, (cell_of_row _ _ 9 _ _ _ h).trans rfl, (cell_of_row _ _ 10 _ _ _ h).trans rfl, (cell_of_row _ _ 11 _ _ _ h).trans rfl, (cell_of_row _ _ 12 _ _ _ h).trans rfl, (cell_of_row _ _ 13 _ _ _ h).trans rfl⟩
theorem nil_name (P : Nat) (w : World) : (nilAhead 256 51 (.pointer (some ⟨P, 0, none⟩)) "stagecoach/request.name").run Tryz.prog w = .ok (some false) w := by kernel_rfl
theorem met_name (P : Nat) (w : World) : (method 256 51 (.pointer (some ⟨P, 0, none⟩)) "stagecoach/request.name").run Tryz.prog w = .ok (103, .pointer (some ⟨P, 0, none⟩)) w := by kernel_rfl
theorem nil_number (P : Nat) (w : World) : (nilAhead 256 51 (.pointer (some ⟨P, 0, none⟩)) "stagecoach/request.number").run Tryz.prog w = .ok (some false) w := by kernel_rfl
theorem met_number (P : Nat) (w : World) : (method 256 51 (.pointer (some ⟨P, 0, none⟩)) "stagecoach/request.number").run Tryz.prog w = .ok (104, .pointer (some ⟨P, 0, none⟩)) w := by kernel_rfl
theorem nil_robin (P : Nat) (w : World) : (nilAhead 256 51 (.pointer (some ⟨P, 0, none⟩)) "stagecoach/request.robin").run Tryz.prog w = .ok (some false) w := by kernel_rfl
theorem met_robin (P : Nat) (w : World) : (method 256 51 (.pointer (some ⟨P, 0, none⟩)) "stagecoach/request.robin").run Tryz.prog w = .ok (105, .pointer (some ⟨P, 0, none⟩)) w := by kernel_rfl
theorem nil_batch (P : Nat) (w : World) : (nilAhead 256 51 (.pointer (some ⟨P, 0, none⟩)) "stagecoach/request.batch").run Tryz.prog w = .ok (some false) w := by kernel_rfl
theorem met_batch (P : Nat) (w : World) : (method 256 51 (.pointer (some ⟨P, 0, none⟩)) "stagecoach/request.batch").run Tryz.prog w = .ok (102, .pointer (some ⟨P, 0, none⟩)) w := by kernel_rfl
theorem nil_topics (P : Nat) (w : World) : (nilAhead 256 51 (.pointer (some ⟨P, 0, none⟩)) "stagecoach/request.topics").run Tryz.prog w = .ok (some false) w := by kernel_rfl
theorem met_topics (P : Nat) (w : World) : (method 256 51 (.pointer (some ⟨P, 0, none⟩)) "stagecoach/request.topics").run Tryz.prog w = .ok (106, .pointer (some ⟨P, 0, none⟩)) w := by kernel_rfl

set_option maxRecDepth 100000 in
set_option maxHeartbeats 8000000 in
theorem part (V : Vis) (F : Fits V) (P H : Nat) (a0 a1 a2 a3 a4 a5 a6 a7 a8 a9 a10 a11 a12 a13 : Value) (w : World) (st : V.S) (HI : V.Inv st w)
   (c1 : ∀ st w, V.G st → V.Inv st w → Calls Tryz.prog 103 #[.pointer (some ⟨P, 0, none⟩), a1, .pointer (some ⟨H, 1, none⟩)] w (V.post (V.step 1 st) w))
   (c2 : ∀ st w, V.G st → V.Inv st w → Calls Tryz.prog 104 #[.pointer (some ⟨P, 0, none⟩), a2, .pointer (some ⟨H, 2, none⟩)] w (V.post (V.step 2 st) w))
   (g0 : V.G (st))
   (g1 : V.G (V.step 1 st))
    : Calls Tryz.prog 33 #[.iface 51 (.pointer (some ⟨P, 0, none⟩)), .agg #[a0, a1, a2, a3, a4, a5, a6, a7, a8, a9, a10, a11, a12, a13], .pointer (some ⟨H, 0, none⟩)] w (V.post (V.step 2 (V.step 1 st)) w) := by
  have X0 := Lib.hid (at_start F (cs := #[a0, a1, a2, a3, a4, a5, a6, a7, a8, a9, a10, a11, a12, a13]) HI)
  have n_name := nil_name P
  have m_name := met_name P
  have n_number := nil_number P
  have m_number := met_number P
  clear HI
  go_enter Tryz.func33, Tryz.ntmps33
  obtain ⟨x0, x1, x2, x3, x4, x5, x6, x7, x8, x9, x10, x11, x12, x13⟩ := rw14 X0.out.2.1
  go_wp2_with fail
  go_region_held3 (fun w' => w'.cell? ⟨w.heap.size, 1, none⟩ = some a1)
    (first | with_reducible assumption | exact drew_cell x1)
    ((go_at_call 103; refine (c1 _ _ g0 (at_inv F X0.out (Below.refl _ _).drew)).mono ?_; rintro e w1 ⟨rfl, hI1, hk1⟩; have X1 := Lib.hid (at_next F X0.out (Below.refl _ _).drew hI1 hk1); clear hI1 hk1; have y : w1.cell? ⟨w.heap.size, 1, none⟩ = some a1 := (cell_of_row _ _ 1 _ _ _ X1.out.2.1).trans rfl))
  clear x0 x1 x2 x3 x4 x5 x6 x7 x8 x9 x10 x11 x12 x13
  clear y
  obtain ⟨x0, x1, x2, x3, x4, x5, x6, x7, x8, x9, x10, x11, x12, x13⟩ := rw14 X1.out.2.1
  go_wp2_with fail
  go_region_held3 (fun w' => w'.cell? ⟨w.heap.size, 2, none⟩ = some a2)
    (first | with_reducible assumption | exact drew_cell x2)
    ((go_at_call 104; refine (c2 _ _ g1 (at_inv F X1.out (Below.refl _ _).drew)).mono ?_; rintro e w2 ⟨rfl, hI2, hk2⟩; have X2 := Lib.hid (at_next F X1.out (Below.refl _ _).drew hI2 hk2); clear hI2 hk2; have y : w2.cell? ⟨w.heap.size, 2, none⟩ = some a2 := (cell_of_row _ _ 2 _ _ _ X2.out.2.1).trans rfl))
  clear x0 x1 x2 x3 x4 x5 x6 x7 x8 x9 x10 x11 x12 x13
  clear y
  obtain ⟨x0, x1, x2, x3, x4, x5, x6, x7, x8, x9, x10, x11, x12, x13⟩ := rw14 X2.out.2.1
  go_wp2_with fail
  go_end0
  exact ⟨rfl, X2.out.1, X2.out.2.2.2⟩

set_option maxRecDepth 100000 in
set_option maxHeartbeats 8000000 in
theorem seat (V : Vis) (F : Fits V) (P H : Nat) (a0 a1 a2 a3 a4 a5 a6 a7 a8 a9 a10 a11 a12 a13 : Value) (w : World) (st : V.S) (HI : V.Inv st w)
   (c9 : ∀ st w, V.G st → V.Inv st w → Calls Tryz.prog 103 #[.pointer (some ⟨P, 0, none⟩), a9, .pointer (some ⟨H, 9, none⟩)] w (V.post (V.step 9 st) w))
   (c10 : ∀ st w, V.G st → V.Inv st w → Calls Tryz.prog 103 #[.pointer (some ⟨P, 0, none⟩), a10, .pointer (some ⟨H, 10, none⟩)] w (V.post (V.step 10 st) w))
   (c11 : ∀ st w, V.G st → V.Inv st w → Calls Tryz.prog 104 #[.pointer (some ⟨P, 0, none⟩), a11, .pointer (some ⟨H, 11, none⟩)] w (V.post (V.step 11 st) w))
   (g0 : V.G (st))
   (g1 : V.G (V.step 9 st))
   (g2 : V.G (V.step 10 (V.step 9 st)))
    : Calls Tryz.prog 34 #[.iface 51 (.pointer (some ⟨P, 0, none⟩)), .agg #[a0, a1, a2, a3, a4, a5, a6, a7, a8, a9, a10, a11, a12, a13], .pointer (some ⟨H, 0, none⟩)] w (V.post (V.step 11 (V.step 10 (V.step 9 st))) w) := by
  have X0 := Lib.hid (at_start F (cs := #[a0, a1, a2, a3, a4, a5, a6, a7, a8, a9, a10, a11, a12, a13]) HI)
  have n_name := nil_name P
  have m_name := met_name P
  have n_number := nil_number P
  have m_number := met_number P
  clear HI
  go_enter Tryz.func34, Tryz.ntmps34
  obtain ⟨x0, x1, x2, x3, x4, x5, x6, x7, x8, x9, x10, x11, x12, x13⟩ := rw14 X0.out.2.1
  go_wp2_with fail
  go_region_held3 (fun w' => w'.cell? ⟨w.heap.size, 9, none⟩ = some a9)
    (first | with_reducible assumption | exact drew_cell x9)
    ((go_at_call 103; refine (c9 _ _ g0 (at_inv F X0.out (Below.refl _ _).drew)).mono ?_; rintro e w1 ⟨rfl, hI1, hk1⟩; have X1 := Lib.hid (at_next F X0.out (Below.refl _ _).drew hI1 hk1); clear hI1 hk1; have y : w1.cell? ⟨w.heap.size, 9, none⟩ = some a9 := (cell_of_row _ _ 9 _ _ _ X1.out.2.1).trans rfl))
  clear x0 x1 x2 x3 x4 x5 x6 x7 x8 x9 x10 x11 x12 x13
  clear y
  obtain ⟨x0, x1, x2, x3, x4, x5, x6, x7, x8, x9, x10, x11, x12, x13⟩ := rw14 X1.out.2.1
  go_wp2_with fail
  go_region_held3 (fun w' => w'.cell? ⟨w.heap.size, 10, none⟩ = some a10)
    (first | with_reducible assumption | exact drew_cell x10)
    ((go_at_call 103; refine (c10 _ _ g1 (at_inv F X1.out (Below.refl _ _).drew)).mono ?_; rintro e w2 ⟨rfl, hI2, hk2⟩; have X2 := Lib.hid (at_next F X1.out (Below.refl _ _).drew hI2 hk2); clear hI2 hk2; have y : w2.cell? ⟨w.heap.size, 10, none⟩ = some a10 := (cell_of_row _ _ 10 _ _ _ X2.out.2.1).trans rfl))
  clear x0 x1 x2 x3 x4 x5 x6 x7 x8 x9 x10 x11 x12 x13
  clear y
  obtain ⟨x0, x1, x2, x3, x4, x5, x6, x7, x8, x9, x10, x11, x12, x13⟩ := rw14 X2.out.2.1
  go_wp2_with fail
  go_region_held3 (fun w' => w'.cell? ⟨w.heap.size, 11, none⟩ = some a11)
    (first | with_reducible assumption | exact drew_cell x11)
    ((go_at_call 104; refine (c11 _ _ g2 (at_inv F X2.out (Below.refl _ _).drew)).mono ?_; rintro e w3 ⟨rfl, hI3, hk3⟩; have X3 := Lib.hid (at_next F X2.out (Below.refl _ _).drew hI3 hk3); clear hI3 hk3; have y : w3.cell? ⟨w.heap.size, 11, none⟩ = some a11 := (cell_of_row _ _ 11 _ _ _ X3.out.2.1).trans rfl))
  clear x0 x1 x2 x3 x4 x5 x6 x7 x8 x9 x10 x11 x12 x13
  clear y
  obtain ⟨x0, x1, x2, x3, x4, x5, x6, x7, x8, x9, x10, x11, x12, x13⟩ := rw14 X3.out.2.1
  go_wp2_with fail
  go_end0
  exact ⟨rfl, X3.out.1, X3.out.2.2.2⟩

set_option maxRecDepth 100000 in
set_option maxHeartbeats 8000000 in
theorem visit_0 (V : Vis) (F : Fits V) (P H : Nat) (a1 a2 a3 a4 a5 a6 a7 a8 a9 a10 a11 a12 a13 : Value) (w : World) (st : V.S) (HI : V.Inv st w)
   (c1 : ∀ st w, V.G st → V.Inv st w → Calls Tryz.prog 103 #[.pointer (some ⟨P, 0, none⟩), a1, .pointer (some ⟨H, 1, none⟩)] w (V.post (V.step 1 st) w))
   (c3 : ∀ st w, V.G st → V.Inv st w → Calls Tryz.prog 104 #[.pointer (some ⟨P, 0, none⟩), a3, .pointer (some ⟨H, 3, none⟩)] w (V.post (V.step 3 st) w))
   (g0 : V.G (st))
   (g1 : V.G (V.step 1 st))
    : Calls Tryz.prog 13 #[.iface 51 (.pointer (some ⟨P, 0, none⟩)), .agg #[.int .i64 0, a1, a2, a3, a4, a5, a6, a7, a8, a9, a10, a11, a12, a13], .pointer (some ⟨H, 0, none⟩)] w (V.post (V.step 3 (V.step 1 st)) w) := by
  have X0 := Lib.hid (at_start F (cs := #[.int .i64 0, a1, a2, a3, a4, a5, a6, a7, a8, a9, a10, a11, a12, a13]) HI)
  have n_name := nil_name P
  have m_name := met_name P
  have n_number := nil_number P
  have m_number := met_number P
  clear HI
  go_enter Tryz.func13, Tryz.ntmps13
  obtain ⟨x0, x1, x2, x3, x4, x5, x6, x7, x8, x9, x10, x11, x12, x13⟩ := rw14 X0.out.2.1
  go_wp2_with fail
  go_region_held3 (fun w' => w'.cell? ⟨w.heap.size, 1, none⟩ = some a1)
    (first | with_reducible assumption | exact drew_cell x1)
    ((go_at_call 103; refine (c1 _ _ g0 (at_inv F X0.out (Below.refl _ _).drew)).mono ?_; rintro e w1 ⟨rfl, hI1, hk1⟩; have X1 := Lib.hid (at_next F X0.out (Below.refl _ _).drew hI1 hk1); clear hI1 hk1; have y : w1.cell? ⟨w.heap.size, 1, none⟩ = some a1 := (cell_of_row _ _ 1 _ _ _ X1.out.2.1).trans rfl))
  clear x0 x1 x2 x3 x4 x5 x6 x7 x8 x9 x10 x11 x12 x13
  clear y
  obtain ⟨x0, x1, x2, x3, x4, x5, x6, x7, x8, x9, x10, x11, x12, x13⟩ := rw14 X1.out.2.1
  go_wp2_with fail
  go_region_held3 (fun w' => w'.cell? ⟨w.heap.size, 3, none⟩ = some a3)
    (first | with_reducible assumption | exact drew_cell x3)
    ((go_at_call 104; refine (c3 _ _ g1 (at_inv F X1.out (Below.refl _ _).drew)).mono ?_; rintro e w2 ⟨rfl, hI2, hk2⟩; have X2 := Lib.hid (at_next F X1.out (Below.refl _ _).drew hI2 hk2); clear hI2 hk2; have y : w2.cell? ⟨w.heap.size, 3, none⟩ = some a3 := (cell_of_row _ _ 3 _ _ _ X2.out.2.1).trans rfl))
  clear x0 x1 x2 x3 x4 x5 x6 x7 x8 x9 x10 x11 x12 x13
  clear y
  obtain ⟨x0, x1, x2, x3, x4, x5, x6, x7, x8, x9, x10, x11, x12, x13⟩ := rw14 X2.out.2.1
  go_wp2_with fail
  go_end0
  exact ⟨rfl, X2.out.1, X2.out.2.2.2⟩

set_option maxRecDepth 100000 in
set_option maxHeartbeats 8000000 in
theorem visit_1 (V : Vis) (F : Fits V) (P H : Nat) (a1 a2 a3 a4 a5 a6 a7 a8 a9 a10 a11 a12 a13 : Value) (w : World) (st : V.S) (HI : V.Inv st w)
   (c3 : ∀ st w, V.G st → V.Inv st w → Calls Tryz.prog 104 #[.pointer (some ⟨P, 0, none⟩), a3, .pointer (some ⟨H, 3, none⟩)] w (V.post (V.step 3 st) w))
   (g0 : V.G (st))
    : Calls Tryz.prog 13 #[.iface 51 (.pointer (some ⟨P, 0, none⟩)), .agg #[.int .i64 1, a1, a2, a3, a4, a5, a6, a7, a8, a9, a10, a11, a12, a13], .pointer (some ⟨H, 0, none⟩)] w (V.post (V.step 3 st) w) := by
  have X0 := Lib.hid (at_start F (cs := #[.int .i64 1, a1, a2, a3, a4, a5, a6, a7, a8, a9, a10, a11, a12, a13]) HI)
  have n_number := nil_number P
  have m_number := met_number P
  clear HI
  go_enter Tryz.func13, Tryz.ntmps13
  obtain ⟨x0, x1, x2, x3, x4, x5, x6, x7, x8, x9, x10, x11, x12, x13⟩ := rw14 X0.out.2.1
  go_wp2_with fail
  go_region_held3 (fun w' => w'.cell? ⟨w.heap.size, 3, none⟩ = some a3)
    (first | with_reducible assumption | exact drew_cell x3)
    ((go_at_call 104; refine (c3 _ _ g0 (at_inv F X0.out (Below.refl _ _).drew)).mono ?_; rintro e w1 ⟨rfl, hI1, hk1⟩; have X1 := Lib.hid (at_next F X0.out (Below.refl _ _).drew hI1 hk1); clear hI1 hk1; have y : w1.cell? ⟨w.heap.size, 3, none⟩ = some a3 := (cell_of_row _ _ 3 _ _ _ X1.out.2.1).trans rfl))
  clear x0 x1 x2 x3 x4 x5 x6 x7 x8 x9 x10 x11 x12 x13
  clear y
  obtain ⟨x0, x1, x2, x3, x4, x5, x6, x7, x8, x9, x10, x11, x12, x13⟩ := rw14 X1.out.2.1
  go_wp2_with fail
  go_end0
  exact ⟨rfl, X1.out.1, X1.out.2.2.2⟩

set_option maxRecDepth 100000 in
set_option maxHeartbeats 8000000 in
theorem visit_2 (V : Vis) (F : Fits V) (P H : Nat) (a1 a2 a3 a4 a5 a6 a7 a8 a9 a10 a11 a12 a13 : Value) (w : World) (st : V.S) (HI : V.Inv st w)
   (c1 : ∀ st w, V.G st → V.Inv st w → Calls Tryz.prog 103 #[.pointer (some ⟨P, 0, none⟩), a1, .pointer (some ⟨H, 1, none⟩)] w (V.post (V.step 1 st) w))
   (c2 : ∀ st w, V.G st → V.Inv st w → Calls Tryz.prog 104 #[.pointer (some ⟨P, 0, none⟩), a2, .pointer (some ⟨H, 2, none⟩)] w (V.post (V.step 2 st) w))
   (c5 : ∀ st w, V.G st → V.Inv st w → Calls Tryz.prog 102 #[.pointer (some ⟨P, 0, none⟩), .agg #[a5, a6, a7, a8], .pointer (some ⟨H, 5, none⟩)] w (V.post (V.step 5 st) w))
   (g0 : V.G (st))
   (g1 : V.G (V.step 1 st))
   (g2 : V.G (V.step 2 (V.step 1 st)))
    : Calls Tryz.prog 13 #[.iface 51 (.pointer (some ⟨P, 0, none⟩)), .agg #[.int .i64 2, a1, a2, a3, a4, a5, a6, a7, a8, a9, a10, a11, a12, a13], .pointer (some ⟨H, 0, none⟩)] w (V.post (V.step 5 (V.step 2 (V.step 1 st))) w) := by
  have X0 := Lib.hid (at_start F (cs := #[.int .i64 2, a1, a2, a3, a4, a5, a6, a7, a8, a9, a10, a11, a12, a13]) HI)
  have n_batch := nil_batch P
  have m_batch := met_batch P
  clear HI
  go_enter Tryz.func13, Tryz.ntmps13
  obtain ⟨x0, x1, x2, x3, x4, x5, x6, x7, x8, x9, x10, x11, x12, x13⟩ := rw14 X0.out.2.1
  go_wp2_with (go_at_call 33; refine (part V F P H _ _ _ _ _ _ _ _ _ _ _ _ _ _ _ _ X0.out.1 c1 c2 g0 g1).mono ?_; rintro e w1 ⟨rfl, hI1, hk1⟩; have X1 := Lib.hid (at_next F X0.out (Below.refl _ _) hI1 hk1); clear x0 x1 x2 x3 x4 x5 x6 x7 x8 x9 x10 x11 x12 x13; obtain ⟨x0, x1, x2, x3, x4, x5, x6, x7, x8, x9, x10, x11, x12, x13⟩ := rw14 X1.out.2.1; clear hI1 hk1)
  go_wp2_with fail
  go_region_held3 (fun w' => w'.cell? ⟨w.heap.size, 5, none⟩ = some a5 ∧ w'.cell? ⟨w.heap.size, 6, none⟩ = some a6 ∧ w'.cell? ⟨w.heap.size, 7, none⟩ = some a7 ∧ w'.cell? ⟨w.heap.size, 8, none⟩ = some a8)
    (first | with_reducible assumption | exact ⟨drew_cell x5, drew_cell x6, drew_cell x7, drew_cell x8⟩)
    ((go_at_call 102; refine (c5 _ _ g2 (at_inv F X1.out (Below.refl _ _).drew)).mono ?_; rintro e w2 ⟨rfl, hI2, hk2⟩; have X2 := Lib.hid (at_next F X1.out (Below.refl _ _).drew hI2 hk2); clear hI2 hk2; have y : w2.cell? ⟨w.heap.size, 5, none⟩ = some a5 ∧ w2.cell? ⟨w.heap.size, 6, none⟩ = some a6 ∧ w2.cell? ⟨w.heap.size, 7, none⟩ = some a7 ∧ w2.cell? ⟨w.heap.size, 8, none⟩ = some a8 := ⟨(cell_of_row _ _ 5 _ _ _ X2.out.2.1).trans rfl, (cell_of_row _ _ 6 _ _ _ X2.out.2.1).trans rfl, (cell_of_row _ _ 7 _ _ _ X2.out.2.1).trans rfl, (cell_of_row _ _ 8 _ _ _ X2.out.2.1).trans rfl⟩))
  clear x0 x1 x2 x3 x4 x5 x6 x7 x8 x9 x10 x11 x12 x13
  clear y
  obtain ⟨x0, x1, x2, x3, x4, x5, x6, x7, x8, x9, x10, x11, x12, x13⟩ := rw14 X2.out.2.1
  go_wp2_with fail
  go_end0
  exact ⟨rfl, X2.out.1, X2.out.2.2.2⟩

set_option maxRecDepth 100000 in
set_option maxHeartbeats 8000000 in
theorem visit_3 (V : Vis) (F : Fits V) (P H : Nat) (a1 a2 a3 a4 a5 a6 a7 a8 a9 a10 a11 a12 a13 : Value) (w : World) (st : V.S) (HI : V.Inv st w)
   (c1 : ∀ st w, V.G st → V.Inv st w → Calls Tryz.prog 103 #[.pointer (some ⟨P, 0, none⟩), a1, .pointer (some ⟨H, 1, none⟩)] w (V.post (V.step 1 st) w))
   (c2 : ∀ st w, V.G st → V.Inv st w → Calls Tryz.prog 104 #[.pointer (some ⟨P, 0, none⟩), a2, .pointer (some ⟨H, 2, none⟩)] w (V.post (V.step 2 st) w))
   (c3 : ∀ st w, V.G st → V.Inv st w → Calls Tryz.prog 104 #[.pointer (some ⟨P, 0, none⟩), a3, .pointer (some ⟨H, 3, none⟩)] w (V.post (V.step 3 st) w))
   (c4 : ∀ st w, V.G st → V.Inv st w → Calls Tryz.prog 104 #[.pointer (some ⟨P, 0, none⟩), a4, .pointer (some ⟨H, 4, none⟩)] w (V.post (V.step 4 st) w))
   (g0 : V.G (st))
   (g1 : V.G (V.step 1 st))
   (g2 : V.G (V.step 2 (V.step 1 st)))
   (g3 : V.G (V.step 4 (V.step 2 (V.step 1 st))))
    : Calls Tryz.prog 13 #[.iface 51 (.pointer (some ⟨P, 0, none⟩)), .agg #[.int .i64 3, a1, a2, a3, a4, a5, a6, a7, a8, a9, a10, a11, a12, a13], .pointer (some ⟨H, 0, none⟩)] w (V.post (V.step 3 (V.step 4 (V.step 2 (V.step 1 st)))) w) := by
  have X0 := Lib.hid (at_start F (cs := #[.int .i64 3, a1, a2, a3, a4, a5, a6, a7, a8, a9, a10, a11, a12, a13]) HI)
  have n_number := nil_number P
  have m_number := met_number P
  clear HI
  go_enter Tryz.func13, Tryz.ntmps13
  obtain ⟨x0, x1, x2, x3, x4, x5, x6, x7, x8, x9, x10, x11, x12, x13⟩ := rw14 X0.out.2.1
  go_wp2_with (go_at_call 33; refine (part V F P H _ _ _ _ _ _ _ _ _ _ _ _ _ _ _ _ X0.out.1 c1 c2 g0 g1).mono ?_; rintro e w1 ⟨rfl, hI1, hk1⟩; have X1 := Lib.hid (at_next F X0.out (Below.refl _ _) hI1 hk1); clear x0 x1 x2 x3 x4 x5 x6 x7 x8 x9 x10 x11 x12 x13; obtain ⟨x0, x1, x2, x3, x4, x5, x6, x7, x8, x9, x10, x11, x12, x13⟩ := rw14 X1.out.2.1; clear hI1 hk1)
  go_wp2_with fail
  go_region_held3 (fun w' => w'.cell? ⟨w.heap.size, 4, none⟩ = some a4)
    (first | with_reducible assumption | exact drew_cell x4)
    ((go_at_call 104; refine (c4 _ _ g2 (at_inv F X1.out (Below.refl _ _).drew)).mono ?_; rintro e w2 ⟨rfl, hI2, hk2⟩; have X2 := Lib.hid (at_next F X1.out (Below.refl _ _).drew hI2 hk2); clear hI2 hk2; have y : w2.cell? ⟨w.heap.size, 4, none⟩ = some a4 := (cell_of_row _ _ 4 _ _ _ X2.out.2.1).trans rfl))
  clear x0 x1 x2 x3 x4 x5 x6 x7 x8 x9 x10 x11 x12 x13
  clear y
  obtain ⟨x0, x1, x2, x3, x4, x5, x6, x7, x8, x9, x10, x11, x12, x13⟩ := rw14 X2.out.2.1
  go_wp2_with fail
  go_region_held3 (fun w' => w'.cell? ⟨w.heap.size, 3, none⟩ = some a3)
    (first | with_reducible assumption | exact drew_cell x3)
    ((go_at_call 104; refine (c3 _ _ g3 (at_inv F X2.out (Below.refl _ _).drew)).mono ?_; rintro e w3 ⟨rfl, hI3, hk3⟩; have X3 := Lib.hid (at_next F X2.out (Below.refl _ _).drew hI3 hk3); clear hI3 hk3; have y : w3.cell? ⟨w.heap.size, 3, none⟩ = some a3 := (cell_of_row _ _ 3 _ _ _ X3.out.2.1).trans rfl))
  clear x0 x1 x2 x3 x4 x5 x6 x7 x8 x9 x10 x11 x12 x13
  clear y
  obtain ⟨x0, x1, x2, x3, x4, x5, x6, x7, x8, x9, x10, x11, x12, x13⟩ := rw14 X3.out.2.1
  go_wp2_with fail
  go_end0
  exact ⟨rfl, X3.out.1, X3.out.2.2.2⟩

set_option maxRecDepth 100000 in
set_option maxHeartbeats 8000000 in
theorem visit_4 (V : Vis) (F : Fits V) (P H : Nat) (a1 a2 a3 a4 a5 a6 a7 a8 a9 a10 a11 a12 a13 : Value) (w : World) (st : V.S) (HI : V.Inv st w)
   (c1 : ∀ st w, V.G st → V.Inv st w → Calls Tryz.prog 103 #[.pointer (some ⟨P, 0, none⟩), a1, .pointer (some ⟨H, 1, none⟩)] w (V.post (V.step 1 st) w))
   (c2 : ∀ st w, V.G st → V.Inv st w → Calls Tryz.prog 104 #[.pointer (some ⟨P, 0, none⟩), a2, .pointer (some ⟨H, 2, none⟩)] w (V.post (V.step 2 st) w))
   (c4 : ∀ st w, V.G st → V.Inv st w → Calls Tryz.prog 104 #[.pointer (some ⟨P, 0, none⟩), a4, .pointer (some ⟨H, 4, none⟩)] w (V.post (V.step 4 st) w))
   (g0 : V.G (st))
   (g1 : V.G (V.step 1 st))
   (g2 : V.G (V.step 2 (V.step 1 st)))
    : Calls Tryz.prog 13 #[.iface 51 (.pointer (some ⟨P, 0, none⟩)), .agg #[.int .i64 4, a1, a2, a3, a4, a5, a6, a7, a8, a9, a10, a11, a12, a13], .pointer (some ⟨H, 0, none⟩)] w (V.post (V.step 4 (V.step 2 (V.step 1 st))) w) := by
  have X0 := Lib.hid (at_start F (cs := #[.int .i64 4, a1, a2, a3, a4, a5, a6, a7, a8, a9, a10, a11, a12, a13]) HI)
  have n_number := nil_number P
  have m_number := met_number P
  clear HI
  go_enter Tryz.func13, Tryz.ntmps13
  obtain ⟨x0, x1, x2, x3, x4, x5, x6, x7, x8, x9, x10, x11, x12, x13⟩ := rw14 X0.out.2.1
  go_wp2_with (go_at_call 33; refine (part V F P H _ _ _ _ _ _ _ _ _ _ _ _ _ _ _ _ X0.out.1 c1 c2 g0 g1).mono ?_; rintro e w1 ⟨rfl, hI1, hk1⟩; have X1 := Lib.hid (at_next F X0.out (Below.refl _ _) hI1 hk1); clear x0 x1 x2 x3 x4 x5 x6 x7 x8 x9 x10 x11 x12 x13; obtain ⟨x0, x1, x2, x3, x4, x5, x6, x7, x8, x9, x10, x11, x12, x13⟩ := rw14 X1.out.2.1; clear hI1 hk1)
  go_wp2_with fail
  go_region_held3 (fun w' => w'.cell? ⟨w.heap.size, 4, none⟩ = some a4)
    (first | with_reducible assumption | exact drew_cell x4)
    ((go_at_call 104; refine (c4 _ _ g2 (at_inv F X1.out (Below.refl _ _).drew)).mono ?_; rintro e w2 ⟨rfl, hI2, hk2⟩; have X2 := Lib.hid (at_next F X1.out (Below.refl _ _).drew hI2 hk2); clear hI2 hk2; have y : w2.cell? ⟨w.heap.size, 4, none⟩ = some a4 := (cell_of_row _ _ 4 _ _ _ X2.out.2.1).trans rfl))
  clear x0 x1 x2 x3 x4 x5 x6 x7 x8 x9 x10 x11 x12 x13
  clear y
  obtain ⟨x0, x1, x2, x3, x4, x5, x6, x7, x8, x9, x10, x11, x12, x13⟩ := rw14 X2.out.2.1
  go_wp2_with fail
  go_end0
  exact ⟨rfl, X2.out.1, X2.out.2.2.2⟩

set_option maxRecDepth 100000 in
set_option maxHeartbeats 8000000 in
theorem visit_5 (V : Vis) (F : Fits V) (P H : Nat) (a1 a2 a3 a4 a5 a6 a7 a8 a9 a10 a11 a12 a13 : Value) (w : World) (st : V.S) (HI : V.Inv st w)
   (c1 : ∀ st w, V.G st → V.Inv st w → Calls Tryz.prog 103 #[.pointer (some ⟨P, 0, none⟩), a1, .pointer (some ⟨H, 1, none⟩)] w (V.post (V.step 1 st) w))
   (c2 : ∀ st w, V.G st → V.Inv st w → Calls Tryz.prog 104 #[.pointer (some ⟨P, 0, none⟩), a2, .pointer (some ⟨H, 2, none⟩)] w (V.post (V.step 2 st) w))
   (g0 : V.G (st))
   (g1 : V.G (V.step 1 st))
    : Calls Tryz.prog 13 #[.iface 51 (.pointer (some ⟨P, 0, none⟩)), .agg #[.int .i64 5, a1, a2, a3, a4, a5, a6, a7, a8, a9, a10, a11, a12, a13], .pointer (some ⟨H, 0, none⟩)] w (V.post (V.step 2 (V.step 1 st)) w) := by
  have X0 := Lib.hid (at_start F (cs := #[.int .i64 5, a1, a2, a3, a4, a5, a6, a7, a8, a9, a10, a11, a12, a13]) HI)
  clear HI
  go_enter Tryz.func13, Tryz.ntmps13
  obtain ⟨x0, x1, x2, x3, x4, x5, x6, x7, x8, x9, x10, x11, x12, x13⟩ := rw14 X0.out.2.1
  go_wp2_with (go_at_call 33; refine (part V F P H _ _ _ _ _ _ _ _ _ _ _ _ _ _ _ _ X0.out.1 c1 c2 g0 g1).mono ?_; rintro e w1 ⟨rfl, hI1, hk1⟩; have X1 := Lib.hid (at_next F X0.out (Below.refl _ _) hI1 hk1); clear x0 x1 x2 x3 x4 x5 x6 x7 x8 x9 x10 x11 x12 x13; obtain ⟨x0, x1, x2, x3, x4, x5, x6, x7, x8, x9, x10, x11, x12, x13⟩ := rw14 X1.out.2.1; clear hI1 hk1)
  go_wp2_with fail
  go_end0
  exact ⟨rfl, X1.out.1, X1.out.2.2.2⟩

set_option maxRecDepth 100000 in
set_option maxHeartbeats 8000000 in
theorem visit_6 (V : Vis) (F : Fits V) (P H : Nat) (a1 a2 a3 a4 a5 a6 a7 a8 a9 a10 a11 a12 a13 : Value) (w : World) (st : V.S) (HI : V.Inv st w)
   (c3 : ∀ st w, V.G st → V.Inv st w → Calls Tryz.prog 104 #[.pointer (some ⟨P, 0, none⟩), a3, .pointer (some ⟨H, 3, none⟩)] w (V.post (V.step 3 st) w))
   (c9 : ∀ st w, V.G st → V.Inv st w → Calls Tryz.prog 103 #[.pointer (some ⟨P, 0, none⟩), a9, .pointer (some ⟨H, 9, none⟩)] w (V.post (V.step 9 st) w))
   (c10 : ∀ st w, V.G st → V.Inv st w → Calls Tryz.prog 103 #[.pointer (some ⟨P, 0, none⟩), a10, .pointer (some ⟨H, 10, none⟩)] w (V.post (V.step 10 st) w))
   (c12 : ∀ st w, V.G st → V.Inv st w → Calls Tryz.prog 105 #[.pointer (some ⟨P, 0, none⟩), a12, .pointer (some ⟨H, 12, none⟩)] w (V.post (V.step 12 st) w))
   (c13 : ∀ st w, V.G st → V.Inv st w → Calls Tryz.prog 106 #[.pointer (some ⟨P, 0, none⟩), a13, .pointer (some ⟨H, 13, none⟩)] w (V.post (V.step 13 st) w))
   (g0 : V.G (st))
   (g1 : V.G (V.step 9 st))
   (g2 : V.G (V.step 10 (V.step 9 st)))
   (g3 : V.G (V.step 3 (V.step 10 (V.step 9 st))))
   (g4 : V.G (V.step 12 (V.step 3 (V.step 10 (V.step 9 st)))))
    : Calls Tryz.prog 13 #[.iface 51 (.pointer (some ⟨P, 0, none⟩)), .agg #[.int .i64 6, a1, a2, a3, a4, a5, a6, a7, a8, a9, a10, a11, a12, a13], .pointer (some ⟨H, 0, none⟩)] w (V.post (V.step 13 (V.step 12 (V.step 3 (V.step 10 (V.step 9 st))))) w) := by
  have X0 := Lib.hid (at_start F (cs := #[.int .i64 6, a1, a2, a3, a4, a5, a6, a7, a8, a9, a10, a11, a12, a13]) HI)
  have n_name := nil_name P
  have m_name := met_name P
  have n_number := nil_number P
  have m_number := met_number P
  have n_robin := nil_robin P
  have m_robin := met_robin P
  have n_topics := nil_topics P
  have m_topics := met_topics P
  clear HI
  go_enter Tryz.func13, Tryz.ntmps13
  obtain ⟨x0, x1, x2, x3, x4, x5, x6, x7, x8, x9, x10, x11, x12, x13⟩ := rw14 X0.out.2.1
  go_wp2_with fail
  go_region_held3 (fun w' => w'.cell? ⟨w.heap.size, 9, none⟩ = some a9)
    (first | with_reducible assumption | exact drew_cell x9)
    ((go_at_call 103; refine (c9 _ _ g0 (at_inv F X0.out (Below.refl _ _).drew)).mono ?_; rintro e w1 ⟨rfl, hI1, hk1⟩; have X1 := Lib.hid (at_next F X0.out (Below.refl _ _).drew hI1 hk1); clear hI1 hk1; have y : w1.cell? ⟨w.heap.size, 9, none⟩ = some a9 := (cell_of_row _ _ 9 _ _ _ X1.out.2.1).trans rfl))
  clear x0 x1 x2 x3 x4 x5 x6 x7 x8 x9 x10 x11 x12 x13
  clear y
  obtain ⟨x0, x1, x2, x3, x4, x5, x6, x7, x8, x9, x10, x11, x12, x13⟩ := rw14 X1.out.2.1
  go_wp2_with fail
  go_region_held3 (fun w' => w'.cell? ⟨w.heap.size, 10, none⟩ = some a10)
    (first | with_reducible assumption | exact drew_cell x10)
    ((go_at_call 103; refine (c10 _ _ g1 (at_inv F X1.out (Below.refl _ _).drew)).mono ?_; rintro e w2 ⟨rfl, hI2, hk2⟩; have X2 := Lib.hid (at_next F X1.out (Below.refl _ _).drew hI2 hk2); clear hI2 hk2; have y : w2.cell? ⟨w.heap.size, 10, none⟩ = some a10 := (cell_of_row _ _ 10 _ _ _ X2.out.2.1).trans rfl))
  clear x0 x1 x2 x3 x4 x5 x6 x7 x8 x9 x10 x11 x12 x13
  clear y
  obtain ⟨x0, x1, x2, x3, x4, x5, x6, x7, x8, x9, x10, x11, x12, x13⟩ := rw14 X2.out.2.1
  go_wp2_with fail
  go_region_held3 (fun w' => w'.cell? ⟨w.heap.size, 3, none⟩ = some a3)
    (first | with_reducible assumption | exact drew_cell x3)
    ((go_at_call 104; refine (c3 _ _ g2 (at_inv F X2.out (Below.refl _ _).drew)).mono ?_; rintro e w3 ⟨rfl, hI3, hk3⟩; have X3 := Lib.hid (at_next F X2.out (Below.refl _ _).drew hI3 hk3); clear hI3 hk3; have y : w3.cell? ⟨w.heap.size, 3, none⟩ = some a3 := (cell_of_row _ _ 3 _ _ _ X3.out.2.1).trans rfl))
  clear x0 x1 x2 x3 x4 x5 x6 x7 x8 x9 x10 x11 x12 x13
  clear y
  obtain ⟨x0, x1, x2, x3, x4, x5, x6, x7, x8, x9, x10, x11, x12, x13⟩ := rw14 X3.out.2.1
  go_wp2_with fail
  go_region_held3 (fun w' => w'.cell? ⟨w.heap.size, 12, none⟩ = some a12)
    (first | with_reducible assumption | exact drew_cell x12)
    ((go_at_call 105; refine (c12 _ _ g3 (at_inv F X3.out (Below.refl _ _).drew)).mono ?_; rintro e w4 ⟨rfl, hI4, hk4⟩; have X4 := Lib.hid (at_next F X3.out (Below.refl _ _).drew hI4 hk4); clear hI4 hk4; have y : w4.cell? ⟨w.heap.size, 12, none⟩ = some a12 := (cell_of_row _ _ 12 _ _ _ X4.out.2.1).trans rfl))
  clear x0 x1 x2 x3 x4 x5 x6 x7 x8 x9 x10 x11 x12 x13
  clear y
  obtain ⟨x0, x1, x2, x3, x4, x5, x6, x7, x8, x9, x10, x11, x12, x13⟩ := rw14 X4.out.2.1
  go_wp2_with fail
  go_region_held3 (fun w' => w'.cell? ⟨w.heap.size, 13, none⟩ = some a13)
    (first | with_reducible assumption | exact drew_cell x13)
    ((go_at_call 106; refine (c13 _ _ g4 (at_inv F X4.out (Below.refl _ _).drew)).mono ?_; rintro e w5 ⟨rfl, hI5, hk5⟩; have X5 := Lib.hid (at_next F X4.out (Below.refl _ _).drew hI5 hk5); clear hI5 hk5; have y : w5.cell? ⟨w.heap.size, 13, none⟩ = some a13 := (cell_of_row _ _ 13 _ _ _ X5.out.2.1).trans rfl))
  clear x0 x1 x2 x3 x4 x5 x6 x7 x8 x9 x10 x11 x12 x13
  clear y
  obtain ⟨x0, x1, x2, x3, x4, x5, x6, x7, x8, x9, x10, x11, x12, x13⟩ := rw14 X5.out.2.1
  go_wp2_with fail
  go_end0
  exact ⟨rfl, X5.out.1, X5.out.2.2.2⟩

set_option maxRecDepth 100000 in
set_option maxHeartbeats 8000000 in
theorem visit_7 (V : Vis) (F : Fits V) (P H : Nat) (a1 a2 a3 a4 a5 a6 a7 a8 a9 a10 a11 a12 a13 : Value) (w : World) (st : V.S) (HI : V.Inv st w)
   (c9 : ∀ st w, V.G st → V.Inv st w → Calls Tryz.prog 103 #[.pointer (some ⟨P, 0, none⟩), a9, .pointer (some ⟨H, 9, none⟩)] w (V.post (V.step 9 st) w))
   (c10 : ∀ st w, V.G st → V.Inv st w → Calls Tryz.prog 103 #[.pointer (some ⟨P, 0, none⟩), a10, .pointer (some ⟨H, 10, none⟩)] w (V.post (V.step 10 st) w))
   (c11 : ∀ st w, V.G st → V.Inv st w → Calls Tryz.prog 104 #[.pointer (some ⟨P, 0, none⟩), a11, .pointer (some ⟨H, 11, none⟩)] w (V.post (V.step 11 st) w))
   (g0 : V.G (st))
   (g1 : V.G (V.step 9 st))
   (g2 : V.G (V.step 10 (V.step 9 st)))
    : Calls Tryz.prog 13 #[.iface 51 (.pointer (some ⟨P, 0, none⟩)), .agg #[.int .i64 7, a1, a2, a3, a4, a5, a6, a7, a8, a9, a10, a11, a12, a13], .pointer (some ⟨H, 0, none⟩)] w (V.post (V.step 11 (V.step 10 (V.step 9 st))) w) := by
  have X0 := Lib.hid (at_start F (cs := #[.int .i64 7, a1, a2, a3, a4, a5, a6, a7, a8, a9, a10, a11, a12, a13]) HI)
  clear HI
  go_enter Tryz.func13, Tryz.ntmps13
  obtain ⟨x0, x1, x2, x3, x4, x5, x6, x7, x8, x9, x10, x11, x12, x13⟩ := rw14 X0.out.2.1
  go_wp2_with (go_at_call 34; refine (seat V F P H _ _ _ _ _ _ _ _ _ _ _ _ _ _ _ _ X0.out.1 c9 c10 c11 g0 g1 g2).mono ?_; rintro e w1 ⟨rfl, hI1, hk1⟩; have X1 := Lib.hid (at_next F X0.out (Below.refl _ _) hI1 hk1); clear x0 x1 x2 x3 x4 x5 x6 x7 x8 x9 x10 x11 x12 x13; obtain ⟨x0, x1, x2, x3, x4, x5, x6, x7, x8, x9, x10, x11, x12, x13⟩ := rw14 X1.out.2.1; clear hI1 hk1)
  go_wp2_with fail
  go_end0
  exact ⟨rfl, X1.out.1, X1.out.2.2.2⟩

set_option maxRecDepth 100000 in
set_option maxHeartbeats 8000000 in
theorem visit_8 (V : Vis) (F : Fits V) (P H : Nat) (a1 a2 a3 a4 a5 a6 a7 a8 a9 a10 a11 a12 a13 : Value) (w : World) (st : V.S) (HI : V.Inv st w)
   (c9 : ∀ st w, V.G st → V.Inv st w → Calls Tryz.prog 103 #[.pointer (some ⟨P, 0, none⟩), a9, .pointer (some ⟨H, 9, none⟩)] w (V.post (V.step 9 st) w))
   (c10 : ∀ st w, V.G st → V.Inv st w → Calls Tryz.prog 103 #[.pointer (some ⟨P, 0, none⟩), a10, .pointer (some ⟨H, 10, none⟩)] w (V.post (V.step 10 st) w))
   (c11 : ∀ st w, V.G st → V.Inv st w → Calls Tryz.prog 104 #[.pointer (some ⟨P, 0, none⟩), a11, .pointer (some ⟨H, 11, none⟩)] w (V.post (V.step 11 st) w))
   (g0 : V.G (st))
   (g1 : V.G (V.step 9 st))
   (g2 : V.G (V.step 10 (V.step 9 st)))
    : Calls Tryz.prog 13 #[.iface 51 (.pointer (some ⟨P, 0, none⟩)), .agg #[.int .i64 8, a1, a2, a3, a4, a5, a6, a7, a8, a9, a10, a11, a12, a13], .pointer (some ⟨H, 0, none⟩)] w (V.post (V.step 11 (V.step 10 (V.step 9 st))) w) := by
  have X0 := Lib.hid (at_start F (cs := #[.int .i64 8, a1, a2, a3, a4, a5, a6, a7, a8, a9, a10, a11, a12, a13]) HI)
  clear HI
  go_enter Tryz.func13, Tryz.ntmps13
  obtain ⟨x0, x1, x2, x3, x4, x5, x6, x7, x8, x9, x10, x11, x12, x13⟩ := rw14 X0.out.2.1
  go_wp2_with (go_at_call 34; refine (seat V F P H _ _ _ _ _ _ _ _ _ _ _ _ _ _ _ _ X0.out.1 c9 c10 c11 g0 g1 g2).mono ?_; rintro e w1 ⟨rfl, hI1, hk1⟩; have X1 := Lib.hid (at_next F X0.out (Below.refl _ _) hI1 hk1); clear x0 x1 x2 x3 x4 x5 x6 x7 x8 x9 x10 x11 x12 x13; obtain ⟨x0, x1, x2, x3, x4, x5, x6, x7, x8, x9, x10, x11, x12, x13⟩ := rw14 X1.out.2.1; clear hI1 hk1)
  go_wp2_with fail
  go_end0
  exact ⟨rfl, X1.out.1, X1.out.2.2.2⟩

set_option maxRecDepth 100000 in
set_option maxHeartbeats 8000000 in
theorem visit_9 (V : Vis) (F : Fits V) (P H : Nat) (a1 a2 a3 a4 a5 a6 a7 a8 a9 a10 a11 a12 a13 : Value) (w : World) (st : V.S) (HI : V.Inv st w)
   (c9 : ∀ st w, V.G st → V.Inv st w → Calls Tryz.prog 103 #[.pointer (some ⟨P, 0, none⟩), a9, .pointer (some ⟨H, 9, none⟩)] w (V.post (V.step 9 st) w))
   (c10 : ∀ st w, V.G st → V.Inv st w → Calls Tryz.prog 103 #[.pointer (some ⟨P, 0, none⟩), a10, .pointer (some ⟨H, 10, none⟩)] w (V.post (V.step 10 st) w))
   (c11 : ∀ st w, V.G st → V.Inv st w → Calls Tryz.prog 104 #[.pointer (some ⟨P, 0, none⟩), a11, .pointer (some ⟨H, 11, none⟩)] w (V.post (V.step 11 st) w))
   (g0 : V.G (st))
   (g1 : V.G (V.step 9 st))
   (g2 : V.G (V.step 10 (V.step 9 st)))
    : Calls Tryz.prog 13 #[.iface 51 (.pointer (some ⟨P, 0, none⟩)), .agg #[.int .i64 9, a1, a2, a3, a4, a5, a6, a7, a8, a9, a10, a11, a12, a13], .pointer (some ⟨H, 0, none⟩)] w (V.post (V.step 11 (V.step 10 (V.step 9 st))) w) := by
  have X0 := Lib.hid (at_start F (cs := #[.int .i64 9, a1, a2, a3, a4, a5, a6, a7, a8, a9, a10, a11, a12, a13]) HI)
  clear HI
  go_enter Tryz.func13, Tryz.ntmps13
  obtain ⟨x0, x1, x2, x3, x4, x5, x6, x7, x8, x9, x10, x11, x12, x13⟩ := rw14 X0.out.2.1
  go_wp2_with (go_at_call 34; refine (seat V F P H _ _ _ _ _ _ _ _ _ _ _ _ _ _ _ _ X0.out.1 c9 c10 c11 g0 g1 g2).mono ?_; rintro e w1 ⟨rfl, hI1, hk1⟩; have X1 := Lib.hid (at_next F X0.out (Below.refl _ _) hI1 hk1); clear x0 x1 x2 x3 x4 x5 x6 x7 x8 x9 x10 x11 x12 x13; obtain ⟨x0, x1, x2, x3, x4, x5, x6, x7, x8, x9, x10, x11, x12, x13⟩ := rw14 X1.out.2.1; clear hI1 hk1)
  go_wp2_with fail
  go_end0
  exact ⟨rfl, X1.out.1, X1.out.2.2.2⟩

set_option maxRecDepth 100000 in
set_option maxHeartbeats 8000000 in
theorem visit_10 (V : Vis) (F : Fits V) (P H : Nat) (a1 a2 a3 a4 a5 a6 a7 a8 a9 a10 a11 a12 a13 : Value) (w : World) (st : V.S) (HI : V.Inv st w)
   (c1 : ∀ st w, V.G st → V.Inv st w → Calls Tryz.prog 103 #[.pointer (some ⟨P, 0, none⟩), a1, .pointer (some ⟨H, 1, none⟩)] w (V.post (V.step 1 st) w))
   (c2 : ∀ st w, V.G st → V.Inv st w → Calls Tryz.prog 104 #[.pointer (some ⟨P, 0, none⟩), a2, .pointer (some ⟨H, 2, none⟩)] w (V.post (V.step 2 st) w))
   (c4 : ∀ st w, V.G st → V.Inv st w → Calls Tryz.prog 104 #[.pointer (some ⟨P, 0, none⟩), a4, .pointer (some ⟨H, 4, none⟩)] w (V.post (V.step 4 st) w))
   (c9 : ∀ st w, V.G st → V.Inv st w → Calls Tryz.prog 103 #[.pointer (some ⟨P, 0, none⟩), a9, .pointer (some ⟨H, 9, none⟩)] w (V.post (V.step 9 st) w))
   (c10 : ∀ st w, V.G st → V.Inv st w → Calls Tryz.prog 103 #[.pointer (some ⟨P, 0, none⟩), a10, .pointer (some ⟨H, 10, none⟩)] w (V.post (V.step 10 st) w))
   (c11 : ∀ st w, V.G st → V.Inv st w → Calls Tryz.prog 104 #[.pointer (some ⟨P, 0, none⟩), a11, .pointer (some ⟨H, 11, none⟩)] w (V.post (V.step 11 st) w))
   (g0 : V.G (st))
   (g1 : V.G (V.step 9 st))
   (g2 : V.G (V.step 10 (V.step 9 st)))
   (g3 : V.G (V.step 11 (V.step 10 (V.step 9 st))))
   (g4 : V.G (V.step 1 (V.step 11 (V.step 10 (V.step 9 st)))))
   (g5 : V.G (V.step 2 (V.step 1 (V.step 11 (V.step 10 (V.step 9 st))))))
    : Calls Tryz.prog 13 #[.iface 51 (.pointer (some ⟨P, 0, none⟩)), .agg #[.int .i64 10, a1, a2, a3, a4, a5, a6, a7, a8, a9, a10, a11, a12, a13], .pointer (some ⟨H, 0, none⟩)] w (V.post (V.step 4 (V.step 2 (V.step 1 (V.step 11 (V.step 10 (V.step 9 st)))))) w) := by
  have X0 := Lib.hid (at_start F (cs := #[.int .i64 10, a1, a2, a3, a4, a5, a6, a7, a8, a9, a10, a11, a12, a13]) HI)
  have n_number := nil_number P
  have m_number := met_number P
  clear HI
  go_enter Tryz.func13, Tryz.ntmps13
  obtain ⟨x0, x1, x2, x3, x4, x5, x6, x7, x8, x9, x10, x11, x12, x13⟩ := rw14 X0.out.2.1
  go_wp2_with (go_at_call 34; refine (seat V F P H _ _ _ _ _ _ _ _ _ _ _ _ _ _ _ _ X0.out.1 c9 c10 c11 g0 g1 g2).mono ?_; rintro e w1 ⟨rfl, hI1, hk1⟩; have X1 := Lib.hid (at_next F X0.out (Below.refl _ _) hI1 hk1); clear x0 x1 x2 x3 x4 x5 x6 x7 x8 x9 x10 x11 x12 x13; obtain ⟨x0, x1, x2, x3, x4, x5, x6, x7, x8, x9, x10, x11, x12, x13⟩ := rw14 X1.out.2.1; clear hI1 hk1)
  go_wp2_with (go_at_call 33; refine (part V F P H _ _ _ _ _ _ _ _ _ _ _ _ _ _ _ _ X1.out.1 c1 c2 g3 g4).mono ?_; rintro e w2 ⟨rfl, hI2, hk2⟩; have X2 := Lib.hid (at_next F X1.out (Below.refl _ _) hI2 hk2); clear x0 x1 x2 x3 x4 x5 x6 x7 x8 x9 x10 x11 x12 x13; obtain ⟨x0, x1, x2, x3, x4, x5, x6, x7, x8, x9, x10, x11, x12, x13⟩ := rw14 X2.out.2.1; clear hI2 hk2)
  go_wp2_with fail
  go_region_held3 (fun w' => w'.cell? ⟨w.heap.size, 4, none⟩ = some a4)
    (first | with_reducible assumption | exact drew_cell x4)
    ((go_at_call 104; refine (c4 _ _ g5 (at_inv F X2.out (Below.refl _ _).drew)).mono ?_; rintro e w3 ⟨rfl, hI3, hk3⟩; have X3 := Lib.hid (at_next F X2.out (Below.refl _ _).drew hI3 hk3); clear hI3 hk3; have y : w3.cell? ⟨w.heap.size, 4, none⟩ = some a4 := (cell_of_row _ _ 4 _ _ _ X3.out.2.1).trans rfl))
  clear x0 x1 x2 x3 x4 x5 x6 x7 x8 x9 x10 x11 x12 x13
  clear y
  obtain ⟨x0, x1, x2, x3, x4, x5, x6, x7, x8, x9, x10, x11, x12, x13⟩ := rw14 X3.out.2.1
  go_wp2_with fail
  go_end0
  exact ⟨rfl, X3.out.1, X3.out.2.2.2⟩

set_option maxRecDepth 100000 in
set_option maxHeartbeats 8000000 in
theorem visit_11 (V : Vis) (F : Fits V) (P H : Nat) (a1 a2 a3 a4 a5 a6 a7 a8 a9 a10 a11 a12 a13 : Value) (w : World) (st : V.S) (HI : V.Inv st w)
   (c1 : ∀ st w, V.G st → V.Inv st w → Calls Tryz.prog 103 #[.pointer (some ⟨P, 0, none⟩), a1, .pointer (some ⟨H, 1, none⟩)] w (V.post (V.step 1 st) w))
   (c2 : ∀ st w, V.G st → V.Inv st w → Calls Tryz.prog 104 #[.pointer (some ⟨P, 0, none⟩), a2, .pointer (some ⟨H, 2, none⟩)] w (V.post (V.step 2 st) w))
   (c9 : ∀ st w, V.G st → V.Inv st w → Calls Tryz.prog 103 #[.pointer (some ⟨P, 0, none⟩), a9, .pointer (some ⟨H, 9, none⟩)] w (V.post (V.step 9 st) w))
   (g0 : V.G (st))
   (g1 : V.G (V.step 9 st))
   (g2 : V.G (V.step 1 (V.step 9 st)))
    : Calls Tryz.prog 13 #[.iface 51 (.pointer (some ⟨P, 0, none⟩)), .agg #[.int .i64 11, a1, a2, a3, a4, a5, a6, a7, a8, a9, a10, a11, a12, a13], .pointer (some ⟨H, 0, none⟩)] w (V.post (V.step 2 (V.step 1 (V.step 9 st))) w) := by
  have X0 := Lib.hid (at_start F (cs := #[.int .i64 11, a1, a2, a3, a4, a5, a6, a7, a8, a9, a10, a11, a12, a13]) HI)
  have n_name := nil_name P
  have m_name := met_name P
  clear HI
  go_enter Tryz.func13, Tryz.ntmps13
  obtain ⟨x0, x1, x2, x3, x4, x5, x6, x7, x8, x9, x10, x11, x12, x13⟩ := rw14 X0.out.2.1
  go_wp2_with fail
  go_region_held3 (fun w' => w'.cell? ⟨w.heap.size, 9, none⟩ = some a9)
    (first | with_reducible assumption | exact drew_cell x9)
    ((go_at_call 103; refine (c9 _ _ g0 (at_inv F X0.out (Below.refl _ _).drew)).mono ?_; rintro e w1 ⟨rfl, hI1, hk1⟩; have X1 := Lib.hid (at_next F X0.out (Below.refl _ _).drew hI1 hk1); clear hI1 hk1; have y : w1.cell? ⟨w.heap.size, 9, none⟩ = some a9 := (cell_of_row _ _ 9 _ _ _ X1.out.2.1).trans rfl))
  clear x0 x1 x2 x3 x4 x5 x6 x7 x8 x9 x10 x11 x12 x13
  clear y
  obtain ⟨x0, x1, x2, x3, x4, x5, x6, x7, x8, x9, x10, x11, x12, x13⟩ := rw14 X1.out.2.1
  go_wp2_with (go_at_call 33; refine (part V F P H _ _ _ _ _ _ _ _ _ _ _ _ _ _ _ _ X1.out.1 c1 c2 g1 g2).mono ?_; rintro e w2 ⟨rfl, hI2, hk2⟩; have X2 := Lib.hid (at_next F X1.out (Below.refl _ _) hI2 hk2); clear x0 x1 x2 x3 x4 x5 x6 x7 x8 x9 x10 x11 x12 x13; obtain ⟨x0, x1, x2, x3, x4, x5, x6, x7, x8, x9, x10, x11, x12, x13⟩ := rw14 X2.out.2.1; clear hI2 hk2)
  go_wp2_with fail
  go_end0
  exact ⟨rfl, X2.out.1, X2.out.2.2.2⟩

set_option maxRecDepth 100000 in
set_option maxHeartbeats 8000000 in
theorem visit_12 (V : Vis) (F : Fits V) (P H : Nat) (a1 a2 a3 a4 a5 a6 a7 a8 a9 a10 a11 a12 a13 : Value) (w : World) (st : V.S) (HI : V.Inv st w)
   (c3 : ∀ st w, V.G st → V.Inv st w → Calls Tryz.prog 104 #[.pointer (some ⟨P, 0, none⟩), a3, .pointer (some ⟨H, 3, none⟩)] w (V.post (V.step 3 st) w))
   (g0 : V.G (st))
    : Calls Tryz.prog 13 #[.iface 51 (.pointer (some ⟨P, 0, none⟩)), .agg #[.int .i64 12, a1, a2, a3, a4, a5, a6, a7, a8, a9, a10, a11, a12, a13], .pointer (some ⟨H, 0, none⟩)] w (V.post (V.step 3 st) w) := by
  have X0 := Lib.hid (at_start F (cs := #[.int .i64 12, a1, a2, a3, a4, a5, a6, a7, a8, a9, a10, a11, a12, a13]) HI)
  have n_number := nil_number P
  have m_number := met_number P
  clear HI
  go_enter Tryz.func13, Tryz.ntmps13
  obtain ⟨x0, x1, x2, x3, x4, x5, x6, x7, x8, x9, x10, x11, x12, x13⟩ := rw14 X0.out.2.1
  go_wp2_with fail
  go_region_held3 (fun w' => w'.cell? ⟨w.heap.size, 3, none⟩ = some a3)
    (first | with_reducible assumption | exact drew_cell x3)
    ((go_at_call 104; refine (c3 _ _ g0 (at_inv F X0.out (Below.refl _ _).drew)).mono ?_; rintro e w1 ⟨rfl, hI1, hk1⟩; have X1 := Lib.hid (at_next F X0.out (Below.refl _ _).drew hI1 hk1); clear hI1 hk1; have y : w1.cell? ⟨w.heap.size, 3, none⟩ = some a3 := (cell_of_row _ _ 3 _ _ _ X1.out.2.1).trans rfl))
  clear x0 x1 x2 x3 x4 x5 x6 x7 x8 x9 x10 x11 x12 x13
  clear y
  obtain ⟨x0, x1, x2, x3, x4, x5, x6, x7, x8, x9, x10, x11, x12, x13⟩ := rw14 X1.out.2.1
  go_wp2_with fail
  go_end0
  exact ⟨rfl, X1.out.1, X1.out.2.2.2⟩

end Go.Proofs.YtijofikpdhapoaaGreat.L4.Reader
