/-
  Contracts: the taker: it takes over what a command has, and remembers what of it may not be.
-/
import Derived.Test.YtijofikpdhapoaaGreatMReqChk
import Derived.Test.YtijofikpdhapoaaGreatMReqNames
import Derived.Test.YtijofikpdhapoaaGreatMRecAll
import Derived.Lib.Hide
namespace Go.Proofs.YtijofikpdhapoaaGreat.L4
open Go.RowKit
open L3

def takeRow (o : O) (ks : List Nat) : Array Value := #[.bool (noForm o ks), .bool (noNum o ks), .int .i64 (noBat o ks)]
def hasRow (o : O) (RA TA : Option Addr) (rc tc : Nat) (ks : List Nat) : Array Value :=
  #[.int .i64 o.kind, .string (pickS ks 1 o.topic), .int .i64 (pickI ks 2 o.pn), .int .i64 (pickI ks 3 o.n), .int .i64 (pickI ks 4 o.off), .int .i64 (pickI ks 5 o.bp), .int .i64 (pickI ks 5 o.be), .int .i64 (pickI ks 5 o.bq), pickV ks 5 (.slice RA o.recs.length rc),
    .string (pickS ks 9 o.group), .string (pickS ks 10 o.member), .int .i64 (pickI ks 11 o.gen), .bool (pickB ks 12 o.robin), pickV ks 13 (.slice TA o.tops.length tc)]

def takerV (o : O) (RA TA : Option Addr) (rc tc : Nat) (W0 : World) (P H : Nat) : Vis where
  S := List Nat
  Inv ks w := w.heap[P]? = some (.cells (takeRow o ks) 84 (0, 0)) ∧ w.heap[H]? = some (.cells (hasRow o RA TA rc tc ks) 29 (0, 0)) ∧ Below W0.heap.size W0 w
  own _ b := b = P ∨ b = H
  step k ks := ks ++ [k]
  G _ := True

section
variable {o : O} {RA TA : Option Addr} {rc tc : Nat} {W0 : World} {P H : Nat}

theorem row_lt {w : World} {b : Nat} {x : Obj} (h : w.heap[b]? = some x) : b < w.heap.size := (Array.getElem?_eq_some_iff.1 h).1
theorem row_keep {w w' : World} {b : Nat} {x : Obj} (h : w.heap[b]? = some x) (hb : Below w.heap.size w w') : w'.heap[b]? = some x := (hb.block b (row_lt h)).trans h

theorem taker_fits : Fits (takerV o RA TA rc tc W0 P H) where
  stab := fun st w w' h hb => ⟨row_keep h.1 hb, row_keep h.2.1 hb, h.2.2.trans (hb.mono h.2.2.size)⟩
  ownB := fun st w w' b h hb hl ho => ho
  box := fun st w cs h ho => by
    have h1 := row_lt h.1
    have h2 := row_lt h.2.1
    rcases ho with q | q <;> omega

/-- behind a store into the taker, and one into what has taken over -/
theorem taker_two (hPH : P ≠ H) (hP : W0.heap.size ≤ P) (hH : W0.heap.size ≤ H) {ks : List Nat} {k c : Nat} {w wx : World} {v u : Value} (h : (takerV o RA TA rc tc W0 P H).Inv ks w) (hb : Below w.heap.size w wx)
    (h1 : (takeRow o ks).setIfInBounds c v = takeRow o (ks ++ [k])) (h2 : (hasRow o RA TA rc tc ks).setIfInBounds k u = hasRow o RA TA rc tc (ks ++ [k])) :
    (takerV o RA TA rc tc W0 P H).post (ks ++ [k]) w (.returned (.tuple #[])) ((wx.setCell ⟨P, c, none⟩ v).setCell ⟨H, k, none⟩ u) := by
  have e1 := heap_setCell_same wx P c _ _ v (row_keep h.1 hb)
  have e2 := (heap_setCell_other wx ⟨P, c, none⟩ H v (fun e => hPH e.symm)).trans (row_keep h.2.1 hb)
  have e3 := heap_setCell_same _ H k _ _ u e2
  have e4 := (heap_setCell_other (wx.setCell ⟨P, c, none⟩ v) ⟨H, k, none⟩ P u hPH).trans e1
  rw [h1] at e4
  rw [h2] at e3
  refine ⟨rfl, ⟨e4, e3, ((h.2.2.trans (hb.mono h.2.2.size)).setCell (p := ⟨P, c, none⟩) hP v).setCell (p := ⟨H, k, none⟩) hH u⟩, by simp; exact hb.size, fun b hl hn => ⟨?_, hn⟩⟩
  have n1 : b ≠ P := fun e => hn (.inl e)
  have n2 : b ≠ H := fun e => hn (.inr e)
  rw [heap_setCell_other _ _ _ _ n2, heap_setCell_other _ _ _ _ n1]
  exact hb.block b hl


set_option maxRecDepth 100000 in
set_option maxHeartbeats 4000000 in
theorem take_1 (hPH : P ≠ H) (hP : W0.heap.size ≤ P) (hH : W0.heap.size ≤ H) (hs : Hid (o.topic.size ≤ maxLen)) (ks : List Nat) (w : World) (h : (takerV o RA TA rc tc W0 P H).Inv ks w) :
    Calls Tryz.prog 111 #[.pointer (some ⟨P, 0, none⟩), .string o.topic, .pointer (some ⟨H, 1, none⟩)] w ((takerV o RA TA rc tc W0 P H).post (ks ++ [1]) w) := by
  have HI := Lib.hid h
  have x0 : w.cell? ⟨P, 0, none⟩ = some (.bool (noForm o ks)) := (cell_of_row _ _ 0 _ _ _ h.1).trans rfl
  have f0 := frozen_of_row _ _ 0 _ _ h.1
  have f1 := frozen_of_row _ _ 1 _ _ h.2.1
  have y0 : w.cell? ⟨H, 1, none⟩ = some _ := (cell_of_row _ _ 1 _ _ _ h.2.1).trans rfl
  have hHP := hPH.symm
  obtain ⟨q, hq⟩ : ∃ q, noForm o ks = q := ⟨_, rfl⟩
  obtain ⟨a, ha⟩ : ∃ a, nameB o.topic = a := ⟨_, rfl⟩
  have HA := Lib.hid ha
  have R1 : Hid ((takeRow o ks).setIfInBounds 0 (.bool (q || !a)) = takeRow o (ks ++ [1])) := Lib.hid (by rw [← hq, ← ha]; simp [takeRow, noForm, noNum, noBat]; cases nameB o.topic <;> simp)
  have R2 : Hid ((hasRow o RA TA rc tc ks).setIfInBounds 1 (.string o.topic) = hasRow o RA TA rc tc (ks ++ [1])) := Lib.hid (by simp [hasRow, pickS, pickI, pickB, pickV])
  rw [hq] at x0
  clear h ha hq
  cases q with
  | true =>
    go_enter Tryz.func111, Tryz.ntmps111
    go_wp2_with fail
    go_end0
    exact taker_two hPH hP hH HI.out (Below.refl _ _) (by rw [← R1.out]; rfl) R2.out
  | false =>
    cases a
    all_goals
      go_enter Tryz.func111, Tryz.ntmps111
      go_wp2_with (go_at_call 22; refine (name_is _ _ _ hs HA).mono ?_; rintro e w1 ⟨rfl, hb1⟩; have g0 := frozen_of_row _ _ 0 _ _ (row_keep HI.out.1 hb1); have g1 := frozen_of_row _ _ 1 _ _ (row_keep HI.out.2.1 hb1); have z0 : w1.cell? ⟨P, 0, none⟩ = some _ := (cell_of_row _ _ 0 _ _ _ (row_keep HI.out.1 hb1)).trans rfl; have z1 : w1.cell? ⟨H, 1, none⟩ = some _ := (cell_of_row _ _ 1 _ _ _ (row_keep HI.out.2.1 hb1)).trans rfl)
      go_end0
      exact taker_two hPH hP hH HI.out hb1 (by rw [← R1.out]; rfl) R2.out

set_option maxRecDepth 100000 in
set_option maxHeartbeats 4000000 in
theorem take_9 (hPH : P ≠ H) (hP : W0.heap.size ≤ P) (hH : W0.heap.size ≤ H) (hs : Hid (o.group.size ≤ maxLen)) (ks : List Nat) (w : World) (h : (takerV o RA TA rc tc W0 P H).Inv ks w) :
    Calls Tryz.prog 111 #[.pointer (some ⟨P, 0, none⟩), .string o.group, .pointer (some ⟨H, 9, none⟩)] w ((takerV o RA TA rc tc W0 P H).post (ks ++ [9]) w) := by
  have HI := Lib.hid h
  have x0 : w.cell? ⟨P, 0, none⟩ = some (.bool (noForm o ks)) := (cell_of_row _ _ 0 _ _ _ h.1).trans rfl
  have f0 := frozen_of_row _ _ 0 _ _ h.1
  have f1 := frozen_of_row _ _ 9 _ _ h.2.1
  have y0 : w.cell? ⟨H, 9, none⟩ = some _ := (cell_of_row _ _ 9 _ _ _ h.2.1).trans rfl
  have hHP := hPH.symm
  obtain ⟨q, hq⟩ : ∃ q, noForm o ks = q := ⟨_, rfl⟩
  obtain ⟨a, ha⟩ : ∃ a, nameB o.group = a := ⟨_, rfl⟩
  have HA := Lib.hid ha
  have R1 : Hid ((takeRow o ks).setIfInBounds 0 (.bool (q || !a)) = takeRow o (ks ++ [9])) := Lib.hid (by rw [← hq, ← ha]; simp [takeRow, noForm, noNum, noBat]; cases nameB o.group <;> simp)
  have R2 : Hid ((hasRow o RA TA rc tc ks).setIfInBounds 9 (.string o.group) = hasRow o RA TA rc tc (ks ++ [9])) := Lib.hid (by simp [hasRow, pickS, pickI, pickB, pickV])
  rw [hq] at x0
  clear h ha hq
  cases q with
  | true =>
    go_enter Tryz.func111, Tryz.ntmps111
    go_wp2_with fail
    go_end0
    exact taker_two hPH hP hH HI.out (Below.refl _ _) (by rw [← R1.out]; rfl) R2.out
  | false =>
    cases a
    all_goals
      go_enter Tryz.func111, Tryz.ntmps111
      go_wp2_with (go_at_call 22; refine (name_is _ _ _ hs HA).mono ?_; rintro e w1 ⟨rfl, hb1⟩; have g0 := frozen_of_row _ _ 0 _ _ (row_keep HI.out.1 hb1); have g1 := frozen_of_row _ _ 9 _ _ (row_keep HI.out.2.1 hb1); have z0 : w1.cell? ⟨P, 0, none⟩ = some _ := (cell_of_row _ _ 0 _ _ _ (row_keep HI.out.1 hb1)).trans rfl; have z1 : w1.cell? ⟨H, 9, none⟩ = some _ := (cell_of_row _ _ 9 _ _ _ (row_keep HI.out.2.1 hb1)).trans rfl)
      go_end0
      exact taker_two hPH hP hH HI.out hb1 (by rw [← R1.out]; rfl) R2.out

set_option maxRecDepth 100000 in
set_option maxHeartbeats 4000000 in
theorem take_10 (hPH : P ≠ H) (hP : W0.heap.size ≤ P) (hH : W0.heap.size ≤ H) (hs : Hid (o.member.size ≤ maxLen)) (ks : List Nat) (w : World) (h : (takerV o RA TA rc tc W0 P H).Inv ks w) :
    Calls Tryz.prog 111 #[.pointer (some ⟨P, 0, none⟩), .string o.member, .pointer (some ⟨H, 10, none⟩)] w ((takerV o RA TA rc tc W0 P H).post (ks ++ [10]) w) := by
  have HI := Lib.hid h
  have x0 : w.cell? ⟨P, 0, none⟩ = some (.bool (noForm o ks)) := (cell_of_row _ _ 0 _ _ _ h.1).trans rfl
  have f0 := frozen_of_row _ _ 0 _ _ h.1
  have f1 := frozen_of_row _ _ 10 _ _ h.2.1
  have y0 : w.cell? ⟨H, 10, none⟩ = some _ := (cell_of_row _ _ 10 _ _ _ h.2.1).trans rfl
  have hHP := hPH.symm
  obtain ⟨q, hq⟩ : ∃ q, noForm o ks = q := ⟨_, rfl⟩
  obtain ⟨a, ha⟩ : ∃ a, nameB o.member = a := ⟨_, rfl⟩
  have HA := Lib.hid ha
  have R1 : Hid ((takeRow o ks).setIfInBounds 0 (.bool (q || !a)) = takeRow o (ks ++ [10])) := Lib.hid (by rw [← hq, ← ha]; simp [takeRow, noForm, noNum, noBat]; cases nameB o.member <;> simp)
  have R2 : Hid ((hasRow o RA TA rc tc ks).setIfInBounds 10 (.string o.member) = hasRow o RA TA rc tc (ks ++ [10])) := Lib.hid (by simp [hasRow, pickS, pickI, pickB, pickV])
  rw [hq] at x0
  clear h ha hq
  cases q with
  | true =>
    go_enter Tryz.func111, Tryz.ntmps111
    go_wp2_with fail
    go_end0
    exact taker_two hPH hP hH HI.out (Below.refl _ _) (by rw [← R1.out]; rfl) R2.out
  | false =>
    cases a
    all_goals
      go_enter Tryz.func111, Tryz.ntmps111
      go_wp2_with (go_at_call 22; refine (name_is _ _ _ hs HA).mono ?_; rintro e w1 ⟨rfl, hb1⟩; have g0 := frozen_of_row _ _ 0 _ _ (row_keep HI.out.1 hb1); have g1 := frozen_of_row _ _ 10 _ _ (row_keep HI.out.2.1 hb1); have z0 : w1.cell? ⟨P, 0, none⟩ = some _ := (cell_of_row _ _ 0 _ _ _ (row_keep HI.out.1 hb1)).trans rfl; have z1 : w1.cell? ⟨H, 10, none⟩ = some _ := (cell_of_row _ _ 10 _ _ _ (row_keep HI.out.2.1 hb1)).trans rfl)
      go_end0
      exact taker_two hPH hP hH HI.out hb1 (by rw [← R1.out]; rfl) R2.out

set_option maxRecDepth 100000 in
set_option maxHeartbeats 4000000 in
theorem take_13 (hPH : P ≠ H) (hP : W0.heap.size ≤ P) (hH : W0.heap.size ≤ H) (B : Nat) (hT : Hid (ReadsT W0 B TA o.tops)) (hB : B ≤ W0.heap.size) (hl : Hid (o.tops.length ≤ maxLen)) (hs : Hid (∀ s ∈ o.tops, s.size ≤ maxLen)) (ks : List Nat) (w : World) (h : (takerV o RA TA rc tc W0 P H).Inv ks w) :
    Calls Tryz.prog 114 #[.pointer (some ⟨P, 0, none⟩), .slice TA o.tops.length tc, .pointer (some ⟨H, 13, none⟩)] w ((takerV o RA TA rc tc W0 P H).post (ks ++ [13]) w) := by
  have HI := Lib.hid h
  have x0 : w.cell? ⟨P, 0, none⟩ = some (.bool (noForm o ks)) := (cell_of_row _ _ 0 _ _ _ h.1).trans rfl
  have f0 := frozen_of_row _ _ 0 _ _ h.1
  have f1 := frozen_of_row _ _ 13 _ _ h.2.1
  have y0 : w.cell? ⟨H, 13, none⟩ = some _ := (cell_of_row _ _ 13 _ _ _ h.2.1).trans rfl
  have hHP := hPH.symm
  obtain ⟨q, hq⟩ : ∃ q, noForm o ks = q := ⟨_, rfl⟩
  obtain ⟨a, ha⟩ : ∃ a, namesB o.tops = a := ⟨_, rfl⟩
  have HA := Lib.hid ha
  have R1 : Hid ((takeRow o ks).setIfInBounds 0 (.bool (q || !a)) = takeRow o (ks ++ [13])) := Lib.hid (by rw [← hq, ← ha]; simp [takeRow, noForm, noNum, noBat]; cases namesB o.tops <;> simp)
  have R2 : Hid ((hasRow o RA TA rc tc ks).setIfInBounds 13 (.slice TA o.tops.length tc) = hasRow o RA TA rc tc (ks ++ [13])) := Lib.hid (by simp [hasRow, pickS, pickI, pickB, pickV])
  rw [hq] at x0
  clear h ha hq
  cases q with
  | true =>
    go_enter Tryz.func114, Tryz.ntmps114
    go_wp2_with fail
    go_end0
    exact taker_two hPH hP hH HI.out (Below.refl _ _) (by rw [← R1.out]; rfl) R2.out
  | false =>
    cases a
    all_goals
      go_enter Tryz.func114, Tryz.ntmps114
      go_wp2_with (go_at_call 116; refine (rising_is _ _ _ B _ _ (Lib.hid (hT.out.below (HI.out.2.2.mono hB))) (Nat.le_trans hB HI.out.2.2.size) hl hs HA).mono ?_; rintro e w1 ⟨rfl, hb1⟩; have g0 := frozen_of_row _ _ 0 _ _ (row_keep HI.out.1 hb1); have g1 := frozen_of_row _ _ 13 _ _ (row_keep HI.out.2.1 hb1); have z0 : w1.cell? ⟨P, 0, none⟩ = some _ := (cell_of_row _ _ 0 _ _ _ (row_keep HI.out.1 hb1)).trans rfl; have z1 : w1.cell? ⟨H, 13, none⟩ = some _ := (cell_of_row _ _ 13 _ _ _ (row_keep HI.out.2.1 hb1)).trans rfl)
      go_end0
      exact taker_two hPH hP hH HI.out hb1 (by rw [← R1.out]; rfl) R2.out

set_option maxRecDepth 100000 in
set_option maxHeartbeats 4000000 in
theorem take_2 (hPH : P ≠ H) (hP : W0.heap.size ≤ P) (hH : W0.heap.size ≤ H) (ks : List Nat) (w : World) (h : (takerV o RA TA rc tc W0 P H).Inv ks w) :
    Calls Tryz.prog 112 #[.pointer (some ⟨P, 0, none⟩), .int .i64 o.pn, .pointer (some ⟨H, 2, none⟩)] w ((takerV o RA TA rc tc W0 P H).post (ks ++ [2]) w) := by
  have HI := Lib.hid h
  have x0 : w.cell? ⟨P, 1, none⟩ = some (.bool (noNum o ks)) := (cell_of_row _ _ 1 _ _ _ h.1).trans rfl
  have f0 := frozen_of_row _ _ 1 _ _ h.1
  have f1 := frozen_of_row _ _ 2 _ _ h.2.1
  have y0 : w.cell? ⟨H, 2, none⟩ = some _ := (cell_of_row _ _ 2 _ _ _ h.2.1).trans rfl
  have hHP := hPH.symm
  obtain ⟨q, hq⟩ : ∃ q, noNum o ks = q := ⟨_, rfl⟩
  obtain ⟨a, ha⟩ : ∃ a, numB o.pn = a := ⟨_, rfl⟩
  have HA := Lib.hid ha
  have R1 : Hid ((takeRow o ks).setIfInBounds 1 (.bool (q || !a)) = takeRow o (ks ++ [2])) := Lib.hid (by rw [← hq, ← ha]; simp [takeRow, noForm, noNum, noBat]; cases numB o.pn <;> simp)
  have R2 : Hid ((hasRow o RA TA rc tc ks).setIfInBounds 2 (.int .i64 o.pn) = hasRow o RA TA rc tc (ks ++ [2])) := Lib.hid (by simp [hasRow, pickS, pickI, pickB, pickV])
  rw [hq] at x0
  clear h ha hq
  cases q with
  | true =>
    go_enter Tryz.func112, Tryz.ntmps112
    go_wp2_with fail
    go_end0
    exact taker_two hPH hP hH HI.out (Below.refl _ _) (by rw [← R1.out]; rfl) R2.out
  | false =>
    cases a
    all_goals
      go_enter Tryz.func112, Tryz.ntmps112
      go_wp2_with (go_at_call 77; refine (number_is _ _ _ HA).mono ?_; rintro e w1 ⟨rfl, rfl⟩)
      go_end0
      exact taker_two hPH hP hH HI.out (Below.refl _ _) (by rw [← R1.out]; rfl) R2.out

set_option maxRecDepth 100000 in
set_option maxHeartbeats 4000000 in
theorem take_3 (hPH : P ≠ H) (hP : W0.heap.size ≤ P) (hH : W0.heap.size ≤ H) (ks : List Nat) (w : World) (h : (takerV o RA TA rc tc W0 P H).Inv ks w) :
    Calls Tryz.prog 112 #[.pointer (some ⟨P, 0, none⟩), .int .i64 o.n, .pointer (some ⟨H, 3, none⟩)] w ((takerV o RA TA rc tc W0 P H).post (ks ++ [3]) w) := by
  have HI := Lib.hid h
  have x0 : w.cell? ⟨P, 1, none⟩ = some (.bool (noNum o ks)) := (cell_of_row _ _ 1 _ _ _ h.1).trans rfl
  have f0 := frozen_of_row _ _ 1 _ _ h.1
  have f1 := frozen_of_row _ _ 3 _ _ h.2.1
  have y0 : w.cell? ⟨H, 3, none⟩ = some _ := (cell_of_row _ _ 3 _ _ _ h.2.1).trans rfl
  have hHP := hPH.symm
  obtain ⟨q, hq⟩ : ∃ q, noNum o ks = q := ⟨_, rfl⟩
  obtain ⟨a, ha⟩ : ∃ a, numB o.n = a := ⟨_, rfl⟩
  have HA := Lib.hid ha
  have R1 : Hid ((takeRow o ks).setIfInBounds 1 (.bool (q || !a)) = takeRow o (ks ++ [3])) := Lib.hid (by rw [← hq, ← ha]; simp [takeRow, noForm, noNum, noBat]; cases numB o.n <;> simp)
  have R2 : Hid ((hasRow o RA TA rc tc ks).setIfInBounds 3 (.int .i64 o.n) = hasRow o RA TA rc tc (ks ++ [3])) := Lib.hid (by simp [hasRow, pickS, pickI, pickB, pickV])
  rw [hq] at x0
  clear h ha hq
  cases q with
  | true =>
    go_enter Tryz.func112, Tryz.ntmps112
    go_wp2_with fail
    go_end0
    exact taker_two hPH hP hH HI.out (Below.refl _ _) (by rw [← R1.out]; rfl) R2.out
  | false =>
    cases a
    all_goals
      go_enter Tryz.func112, Tryz.ntmps112
      go_wp2_with (go_at_call 77; refine (number_is _ _ _ HA).mono ?_; rintro e w1 ⟨rfl, rfl⟩)
      go_end0
      exact taker_two hPH hP hH HI.out (Below.refl _ _) (by rw [← R1.out]; rfl) R2.out

set_option maxRecDepth 100000 in
set_option maxHeartbeats 4000000 in
theorem take_4 (hPH : P ≠ H) (hP : W0.heap.size ≤ P) (hH : W0.heap.size ≤ H) (ks : List Nat) (w : World) (h : (takerV o RA TA rc tc W0 P H).Inv ks w) :
    Calls Tryz.prog 112 #[.pointer (some ⟨P, 0, none⟩), .int .i64 o.off, .pointer (some ⟨H, 4, none⟩)] w ((takerV o RA TA rc tc W0 P H).post (ks ++ [4]) w) := by
  have HI := Lib.hid h
  have x0 : w.cell? ⟨P, 1, none⟩ = some (.bool (noNum o ks)) := (cell_of_row _ _ 1 _ _ _ h.1).trans rfl
  have f0 := frozen_of_row _ _ 1 _ _ h.1
  have f1 := frozen_of_row _ _ 4 _ _ h.2.1
  have y0 : w.cell? ⟨H, 4, none⟩ = some _ := (cell_of_row _ _ 4 _ _ _ h.2.1).trans rfl
  have hHP := hPH.symm
  obtain ⟨q, hq⟩ : ∃ q, noNum o ks = q := ⟨_, rfl⟩
  obtain ⟨a, ha⟩ : ∃ a, numB o.off = a := ⟨_, rfl⟩
  have HA := Lib.hid ha
  have R1 : Hid ((takeRow o ks).setIfInBounds 1 (.bool (q || !a)) = takeRow o (ks ++ [4])) := Lib.hid (by rw [← hq, ← ha]; simp [takeRow, noForm, noNum, noBat]; cases numB o.off <;> simp)
  have R2 : Hid ((hasRow o RA TA rc tc ks).setIfInBounds 4 (.int .i64 o.off) = hasRow o RA TA rc tc (ks ++ [4])) := Lib.hid (by simp [hasRow, pickS, pickI, pickB, pickV])
  rw [hq] at x0
  clear h ha hq
  cases q with
  | true =>
    go_enter Tryz.func112, Tryz.ntmps112
    go_wp2_with fail
    go_end0
    exact taker_two hPH hP hH HI.out (Below.refl _ _) (by rw [← R1.out]; rfl) R2.out
  | false =>
    cases a
    all_goals
      go_enter Tryz.func112, Tryz.ntmps112
      go_wp2_with (go_at_call 77; refine (number_is _ _ _ HA).mono ?_; rintro e w1 ⟨rfl, rfl⟩)
      go_end0
      exact taker_two hPH hP hH HI.out (Below.refl _ _) (by rw [← R1.out]; rfl) R2.out

set_option maxRecDepth 100000 in
set_option maxHeartbeats 4000000 in
theorem take_11 (hPH : P ≠ H) (hP : W0.heap.size ≤ P) (hH : W0.heap.size ≤ H) (ks : List Nat) (w : World) (h : (takerV o RA TA rc tc W0 P H).Inv ks w) :
    Calls Tryz.prog 112 #[.pointer (some ⟨P, 0, none⟩), .int .i64 o.gen, .pointer (some ⟨H, 11, none⟩)] w ((takerV o RA TA rc tc W0 P H).post (ks ++ [11]) w) := by
  have HI := Lib.hid h
  have x0 : w.cell? ⟨P, 1, none⟩ = some (.bool (noNum o ks)) := (cell_of_row _ _ 1 _ _ _ h.1).trans rfl
  have f0 := frozen_of_row _ _ 1 _ _ h.1
  have f1 := frozen_of_row _ _ 11 _ _ h.2.1
  have y0 : w.cell? ⟨H, 11, none⟩ = some _ := (cell_of_row _ _ 11 _ _ _ h.2.1).trans rfl
  have hHP := hPH.symm
  obtain ⟨q, hq⟩ : ∃ q, noNum o ks = q := ⟨_, rfl⟩
  obtain ⟨a, ha⟩ : ∃ a, numB o.gen = a := ⟨_, rfl⟩
  have HA := Lib.hid ha
  have R1 : Hid ((takeRow o ks).setIfInBounds 1 (.bool (q || !a)) = takeRow o (ks ++ [11])) := Lib.hid (by rw [← hq, ← ha]; simp [takeRow, noForm, noNum, noBat]; cases numB o.gen <;> simp)
  have R2 : Hid ((hasRow o RA TA rc tc ks).setIfInBounds 11 (.int .i64 o.gen) = hasRow o RA TA rc tc (ks ++ [11])) := Lib.hid (by simp [hasRow, pickS, pickI, pickB, pickV])
  rw [hq] at x0
  clear h ha hq
  cases q with
  | true =>
    go_enter Tryz.func112, Tryz.ntmps112
    go_wp2_with fail
    go_end0
    exact taker_two hPH hP hH HI.out (Below.refl _ _) (by rw [← R1.out]; rfl) R2.out
  | false =>
    cases a
    all_goals
      go_enter Tryz.func112, Tryz.ntmps112
      go_wp2_with (go_at_call 77; refine (number_is _ _ _ HA).mono ?_; rintro e w1 ⟨rfl, rfl⟩)
      go_end0
      exact taker_two hPH hP hH HI.out (Below.refl _ _) (by rw [← R1.out]; rfl) R2.out

set_option maxRecDepth 100000 in
theorem take_12 (hPH : P ≠ H) (hH : W0.heap.size ≤ H) (ks : List Nat) (w : World) (h : (takerV o RA TA rc tc W0 P H).Inv ks w) :
    Calls Tryz.prog 113 #[.pointer (some ⟨P, 0, none⟩), .bool o.robin, .pointer (some ⟨H, 12, none⟩)] w ((takerV o RA TA rc tc W0 P H).post (ks ++ [12]) w) := by
  have HI := Lib.hid h
  have f1 := frozen_of_row _ _ 12 _ _ h.2.1
  have y0 : w.cell? ⟨H, 12, none⟩ = some _ := (cell_of_row _ _ 12 _ _ _ h.2.1).trans rfl
  clear h
  go_enter Tryz.func113, Tryz.ntmps113
  go_wp2_with fail
  go_end0
  have h := HI.out
  have e3 := heap_setCell_same _ H 12 _ _ (.bool o.robin) h.2.1
  have R1 : takeRow o ks = takeRow o (ks ++ [12]) := by simp [takeRow, noForm, noNum, noBat]
  have R2 : (hasRow o RA TA rc tc ks).setIfInBounds 12 (.bool o.robin) = hasRow o RA TA rc tc (ks ++ [12]) := by simp [hasRow, pickS, pickI, pickB, pickV]
  have e4 := (heap_setCell_other w ⟨H, 12, none⟩ P (.bool o.robin) hPH).trans h.1
  refine ⟨rfl, ⟨?_, ?_, h.2.2.setCell (p := ⟨H, 12, none⟩) hH _⟩, by simp, fun b hl hn => ⟨?_, hn⟩⟩
  · exact e4.trans (congrArg (fun r => some (Obj.cells r _ (0, 0))) R1)
  · exact e3.trans (congrArg (fun r => some (Obj.cells r _ (0, 0))) R2)
  · exact heap_setCell_other _ _ _ _ (fun e => hn (.inr e))


set_option maxRecDepth 100000 in
set_option maxHeartbeats 4000000 in
theorem take_5 (hPH : P ≠ H) (hP : W0.heap.size ≤ P) (hH : W0.heap.size ≤ H) (B : Nat) (hR : Hid (Reads W0 B RA o.recs)) (hB : B ≤ W0.heap.size) (hl : o.recs.length ≤ 20) (hs : Hid (∀ r ∈ o.recs, r.key.size ≤ maxLen ∧ r.val.size ≤ maxLen)) (ks : List Nat) (w : World) (h : (takerV o RA TA rc tc W0 P H).Inv ks w) :
    Calls Tryz.prog 110 #[.pointer (some ⟨P, 0, none⟩), .agg #[.int .i64 o.bp, .int .i64 o.be, .int .i64 o.bq, .slice RA o.recs.length rc], .pointer (some ⟨H, 5, none⟩)] w ((takerV o RA TA rc tc W0 P H).post (ks ++ [5]) w) := by
  have HI := Lib.hid h
  obtain ⟨x, hx⟩ : ∃ x, allN o.bp o.be o.bq o.recs = x := ⟨_, rfl⟩
  have HX := Lib.hid hx
  clear h hx
  go_enter Tryz.func110, Tryz.ntmps110
  go_wp2_with (go_at_call 115; refine (all_is _ _ _ _ _ _ w.heap.size _ _ (Lib.hid (((hR.out.below (HI.out.2.2.mono hB)).mono (Nat.le_trans hB HI.out.2.2.size)).below (one_box _))) (by simp) hl hs HX).mono ?_; rintro e w1 ⟨rfl, hb1⟩; have hB1 := Lib.hid ((one_box _).trans (hb1.mono (by simp))); have r := (hb1.block w.heap.size (by simp)).trans (heap_alloc_new w _); have y0 := (cell_of_row _ _ 0 _ _ _ r).trans rfl; have y1 := (cell_of_row _ _ 1 _ _ _ r).trans rfl; have y2 := (cell_of_row _ _ 2 _ _ _ r).trans rfl; have y3 := (cell_of_row _ _ 3 _ _ _ r).trans rfl; clear r; have g0 := frozen_of_row _ _ 2 _ _ (row_keep HI.out.1 hB1.out); have v0 : w1.cell? ⟨P, 2, none⟩ = some _ := (cell_of_row _ _ 2 _ _ _ (row_keep HI.out.1 hB1.out)).trans rfl; have g5 := frozen_of_row _ _ 5 _ _ (row_keep HI.out.2.1 hB1.out); have v5 : w1.cell? ⟨H, 5, none⟩ = some _ := (cell_of_row _ _ 5 _ _ _ (row_keep HI.out.2.1 hB1.out)).trans rfl; have g6 := frozen_of_row _ _ 6 _ _ (row_keep HI.out.2.1 hB1.out); have v6 : w1.cell? ⟨H, 6, none⟩ = some _ := (cell_of_row _ _ 6 _ _ _ (row_keep HI.out.2.1 hB1.out)).trans rfl; have g7 := frozen_of_row _ _ 7 _ _ (row_keep HI.out.2.1 hB1.out); have v7 : w1.cell? ⟨H, 7, none⟩ = some _ := (cell_of_row _ _ 7 _ _ _ (row_keep HI.out.2.1 hB1.out)).trans rfl; have g8 := frozen_of_row _ _ 8 _ _ (row_keep HI.out.2.1 hB1.out); have v8 : w1.cell? ⟨H, 8, none⟩ = some _ := (cell_of_row _ _ 8 _ _ _ (row_keep HI.out.2.1 hB1.out)).trans rfl; have nP : w.heap.size ≠ P := (by have := row_lt HI.out.1; omega); have nP2 := nP.symm; have nH : w.heap.size ≠ H := (by have := row_lt HI.out.2.1; omega); have nH2 := nH.symm; have hHP := hPH.symm)
  go_end0
  have h := HI.out
  have hb := hB1.out
  have R1 : (takeRow o ks).setIfInBounds 2 (.int .i64 x) = takeRow o (ks ++ [5]) := by rw [← HX.out]; simp [takeRow, noForm, noNum, noBat]
  have R2 : ((((hasRow o RA TA rc tc ks).setIfInBounds 5 (.int .i64 o.bp)).setIfInBounds 6 (.int .i64 o.be)).setIfInBounds 7 (.int .i64 o.bq)).setIfInBounds 8 (.slice RA o.recs.length rc) = hasRow o RA TA rc tc (ks ++ [5]) := by simp [hasRow, pickS, pickI, pickB, pickV]
  have e1 := heap_setCell_same w1 P 2 _ _ (.int .i64 x) (row_keep h.1 hb)
  have e2 := (heap_setCell_other w1 ⟨P, 2, none⟩ H (.int .i64 x) (fun e => hPH e.symm)).trans (row_keep h.2.1 hb)
  have e3 := heap_setCell_same _ H 8 _ _ (.slice RA o.recs.length rc) (heap_setCell_same _ H 7 _ _ (.int .i64 o.bq) (heap_setCell_same _ H 6 _ _ (.int .i64 o.be) (heap_setCell_same _ H 5 _ _ (.int .i64 o.bp) e2)))
  refine ⟨rfl, ⟨?_, e3.trans (congrArg (fun r => some (Obj.cells r _ (0, 0))) ?_), (((((h.2.2.trans (hb.mono h.2.2.size)).setCell (p := ⟨P, 2, none⟩) hP _).setCell (p := ⟨H, 5, none⟩) hH _).setCell (p := ⟨H, 6, none⟩) hH _).setCell (p := ⟨H, 7, none⟩) hH _).setCell (p := ⟨H, 8, none⟩) hH _⟩, by simp; exact hb.size, fun b hl hn => ⟨?_, hn⟩⟩
  · rw [heap_setCell_other _ ⟨H, 8, none⟩ P _ hPH, heap_setCell_other _ ⟨H, 7, none⟩ P _ hPH, heap_setCell_other _ ⟨H, 6, none⟩ P _ hPH, heap_setCell_other _ ⟨H, 5, none⟩ P _ hPH, e1]
    exact congrArg (fun r => some (Obj.cells r _ (0, 0))) R1
  · exact R2
  · have n1 : b ≠ P := fun e => hn (.inl e)
    have n2 : b ≠ H := fun e => hn (.inr e)
    rw [heap_setCell_other _ ⟨H, 8, none⟩ b _ n2, heap_setCell_other _ ⟨H, 7, none⟩ b _ n2, heap_setCell_other _ ⟨H, 6, none⟩ b _ n2, heap_setCell_other _ ⟨H, 5, none⟩ b _ n2, heap_setCell_other _ ⟨P, 2, none⟩ b _ n1]
    exact hb.block b hl

end
end Go.Proofs.YtijofikpdhapoaaGreat.L4
