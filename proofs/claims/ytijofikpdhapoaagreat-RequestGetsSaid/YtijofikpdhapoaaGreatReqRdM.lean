/-
  Contracts: the reader: it reads what a command has.
-/
import Derived.Test.YtijofikpdhapoaaGreatReqRd
import Derived.Test.YtijofikpdhapoaaGreatReqGets
import Derived.Test.YtijofikpdhapoaaGreatRecParse
namespace Go.Proofs.YtijofikpdhapoaaGreat.L4
open Go.RowKit
open L3

def opRow (o : O) (RA TA : Option Addr) (rc tc : Nat) : Array Value :=
  #[.int .i64 o.kind, .string o.topic, .int .i64 o.pn, .int .i64 o.n, .int .i64 o.off, .int .i64 o.bp, .int .i64 o.be, .int .i64 o.bq, .slice RA o.recs.length rc, .string o.group, .string o.member, .int .i64 o.gen, .bool o.robin, .slice TA o.tops.length tc]
/-- a command that lies in memory of the call's own -/
def Lies (o : O) (B0 H : Nat) (w : World) : Prop := ∃ RA TA rc tc, w.heap[H]? = some (.cells (opRow o RA TA rc tc) 29 (0, 0)) ∧ w.ownsRow B0 35 4 (.slice RA o.recs.length rc) o.recs.length (rowOf o.recs) ∧
  w.ownsRow B0 9 1 (.slice TA o.tops.length tc) o.tops.length (texts o.tops)

def readerV (s : ByteArray) (W0 : World) (P H B0 : Nat) : Vis where
  S := O × Option Int
  Inv st w := Rdr P s st.2 w ∧ Lies st.1 B0 H w ∧ Below W0.heap.size W0 w ∧ B0 ≤ w.heap.size
  own _ b := b = P ∨ b = H
  step k st := readK s false st k
  G _ := True

theorem Lies.lt {o : O} {B0 H : Nat} {w : World} (h : Lies o B0 H w) : H < w.heap.size := by
  obtain ⟨_, _, _, _, h1, _⟩ := h
  exact at_lt h1
theorem Lies.below {o : O} {B0 H : Nat} {w w' : World} (h : Lies o B0 H w) (hb : Below w.heap.size w w') : Lies o B0 H w' := by
  obtain ⟨RA, TA, rc, tc, h1, h2, h3⟩ := h
  exact ⟨RA, TA, rc, tc, (hb.block H (at_lt h1)).trans h1, own_below h2 hb, own_below h3 hb⟩
theorem own_grown {w w1 : World} {B0 P n m : Nat} {T : TypeId} {v : Value} {xs : List Value} (h : w.ownsRow B0 T m v n xs) (hP : P < B0) (hg : w.grownBy w1 (some P)) : w1.ownsRow B0 T m v n xs :=
  h.kept hg (.inr (fun e => by have := (h.lt P e).1; omega))

section
variable {s : ByteArray} {W0 : World} {P H B0 : Nat}

theorem reader_fits : Fits (readerV s W0 P H B0) where
  stab := fun st w w' h hb => ⟨h.1.below hb, h.2.1.below hb, h.2.2.1.trans (hb.mono h.2.2.1.size), Nat.le_trans h.2.2.2 hb.size⟩
  ownB := fun st w w' b h hb hl ho => ho
  box := fun st w cs h ho => by
    have h1 := h.1.lt
    have h2 := h.2.1.lt
    rcases ho with q | q <;> omega

/-- behind a read, and a store into the command -/
theorem reader_set (hPH : P ≠ H) (hP : W0.heap.size ≤ P) (hH : W0.heap.size ≤ H) (hPB : P < B0) (hHB : H < B0) {o o' : O} {p q : Option Int} {w w1 : World} {k : Nat} {v : Value} (h : (readerV s W0 P H B0).Inv (o, p) w) (hr : Rdr P s q w1) (hg : w.grownBy w1 (some P))
    (hrow : ∀ RA TA rc tc, (opRow o RA TA rc tc).setIfInBounds k v = opRow o' RA TA rc tc) (h1 : o'.recs = o.recs) (h2 : o'.tops = o.tops) :
    (readerV s W0 P H B0).post (o', q) w (.returned (.tuple #[])) (w1.setCell ⟨H, k, none⟩ v) := by
  obtain ⟨hR, ⟨RA, TA, rc, tc, r1, r2, r3⟩, hb, hBz⟩ := h
  dsimp only at r1 r2 r3
  have e1 : w1.heap[H]? = _ := (hg.block H (at_lt r1) (fun e => hPH (Option.some.inj e).symm)).trans r1
  have e2 := heap_setCell_same _ H k _ _ v e1
  rw [hrow] at e2
  obtain ⟨a, ha, ha2⟩ := hr
  have hB0 : Below W0.heap.size W0 w1 := hb.grown hg hb.size (fun j e => by have := Option.some.inj e; omega)
  refine ⟨rfl, ⟨⟨a, (heap_setCell_other _ ⟨H, k, none⟩ P v hPH).trans ha, ha2⟩, ⟨RA, TA, rc, tc, e2, ?_, ?_⟩, hB0.setCell (p := ⟨H, k, none⟩) hH v, by simp; exact Nat.le_trans hBz hg.size⟩, by simp; exact hg.size, fun b hl hn => ⟨?_, hn⟩⟩
  · rw [h1]
    exact ownsRow_setCell_below (own_grown r2 hPB hg) (a := ⟨H, k, none⟩) hHB v
  · rw [h2]
    exact ownsRow_setCell_below (own_grown r3 hPB hg) (a := ⟨H, k, none⟩) hHB v
  · have n1 : b ≠ P := fun e => hn (.inl e)
    have n2 : b ≠ H := fun e => hn (.inr e)
    exact (heap_setCell_other _ ⟨H, k, none⟩ b v n2).trans (hg.block b hl (fun e => n1 (Option.some.inj e)))


set_option maxRecDepth 100000 in
set_option maxHeartbeats 2000000 in
theorem rd_1 (hPH : P ≠ H) (hP : W0.heap.size ≤ P) (hH : W0.heap.size ≤ H) (hPB : P < B0) (hHB : H < B0) (hs : s.size ≤ 140737488355328) (a : Value) (st : O × Option Int) (w : World) (h : (readerV s W0 P H B0).Inv st w) :
    Calls Tryz.prog 103 #[.pointer (some ⟨P, 0, none⟩), a, .pointer (some ⟨H, 1, none⟩)] w ((readerV s W0 P H B0).post (readK s false st 1) w) := by
  have HI := Lib.hid h
  obtain ⟨o, p⟩ := st
  obtain ⟨hR, ⟨RA, TA, rc, tc, r1, r2, r3⟩, hb, hBz⟩ := h
  have R1 := Lib.hid r1
  have HR := Lib.hid hR
  dsimp only at r1
  obtain ⟨t, q, hN⟩ : ∃ t q, rTxt s p = (t, q) := ⟨_, _, rfl⟩
  have HN := Lib.hid hN
  have HE : Hid (readK s false (o, p) 1 = ({ o with topic := t }, q)) := Lib.hid (by simp only [readK, hN])
  clear hN hR r1 r2 r3 hb hBz
  go_enter Tryz.func103, Tryz.ntmps103
  go_wp2_with (go_at_call 41; refine (get_txt P s p q t _ (by omega) HN HR.out).mono ?_; rintro e w1 ⟨rfl, hr1, hg1⟩; have e1 := (hg1.block H (at_lt R1.out) (fun e => hPH (Option.some.inj e).symm)).trans R1.out; have y0 : w1.cell? ⟨H, 1, none⟩ = some _ := (cell_of_row _ _ 1 _ _ _ e1).trans rfl; have f0 := frozen_of_row _ _ 1 _ _ e1; clear e1)
  go_end0
  rw [HE.out]
  exact reader_set hPH hP hH hPB hHB HI.out hr1 hg1 (fun _ _ _ _ => rfl) rfl rfl

set_option maxRecDepth 100000 in
set_option maxHeartbeats 2000000 in
theorem rd_9 (hPH : P ≠ H) (hP : W0.heap.size ≤ P) (hH : W0.heap.size ≤ H) (hPB : P < B0) (hHB : H < B0) (hs : s.size ≤ 140737488355328) (a : Value) (st : O × Option Int) (w : World) (h : (readerV s W0 P H B0).Inv st w) :
    Calls Tryz.prog 103 #[.pointer (some ⟨P, 0, none⟩), a, .pointer (some ⟨H, 9, none⟩)] w ((readerV s W0 P H B0).post (readK s false st 9) w) := by
  have HI := Lib.hid h
  obtain ⟨o, p⟩ := st
  obtain ⟨hR, ⟨RA, TA, rc, tc, r1, r2, r3⟩, hb, hBz⟩ := h
  have R1 := Lib.hid r1
  have HR := Lib.hid hR
  dsimp only at r1
  obtain ⟨t, q, hN⟩ : ∃ t q, rTxt s p = (t, q) := ⟨_, _, rfl⟩
  have HN := Lib.hid hN
  have HE : Hid (readK s false (o, p) 9 = ({ o with group := t }, q)) := Lib.hid (by simp only [readK, hN])
  clear hN hR r1 r2 r3 hb hBz
  go_enter Tryz.func103, Tryz.ntmps103
  go_wp2_with (go_at_call 41; refine (get_txt P s p q t _ (by omega) HN HR.out).mono ?_; rintro e w1 ⟨rfl, hr1, hg1⟩; have e1 := (hg1.block H (at_lt R1.out) (fun e => hPH (Option.some.inj e).symm)).trans R1.out; have y0 : w1.cell? ⟨H, 9, none⟩ = some _ := (cell_of_row _ _ 9 _ _ _ e1).trans rfl; have f0 := frozen_of_row _ _ 9 _ _ e1; clear e1)
  go_end0
  rw [HE.out]
  exact reader_set hPH hP hH hPB hHB HI.out hr1 hg1 (fun _ _ _ _ => rfl) rfl rfl

set_option maxRecDepth 100000 in
set_option maxHeartbeats 2000000 in
theorem rd_10 (hPH : P ≠ H) (hP : W0.heap.size ≤ P) (hH : W0.heap.size ≤ H) (hPB : P < B0) (hHB : H < B0) (hs : s.size ≤ 140737488355328) (a : Value) (st : O × Option Int) (w : World) (h : (readerV s W0 P H B0).Inv st w) :
    Calls Tryz.prog 103 #[.pointer (some ⟨P, 0, none⟩), a, .pointer (some ⟨H, 10, none⟩)] w ((readerV s W0 P H B0).post (readK s false st 10) w) := by
  have HI := Lib.hid h
  obtain ⟨o, p⟩ := st
  obtain ⟨hR, ⟨RA, TA, rc, tc, r1, r2, r3⟩, hb, hBz⟩ := h
  have R1 := Lib.hid r1
  have HR := Lib.hid hR
  dsimp only at r1
  obtain ⟨t, q, hN⟩ : ∃ t q, rTxt s p = (t, q) := ⟨_, _, rfl⟩
  have HN := Lib.hid hN
  have HE : Hid (readK s false (o, p) 10 = ({ o with member := t }, q)) := Lib.hid (by simp only [readK, hN])
  clear hN hR r1 r2 r3 hb hBz
  go_enter Tryz.func103, Tryz.ntmps103
  go_wp2_with (go_at_call 41; refine (get_txt P s p q t _ (by omega) HN HR.out).mono ?_; rintro e w1 ⟨rfl, hr1, hg1⟩; have e1 := (hg1.block H (at_lt R1.out) (fun e => hPH (Option.some.inj e).symm)).trans R1.out; have y0 : w1.cell? ⟨H, 10, none⟩ = some _ := (cell_of_row _ _ 10 _ _ _ e1).trans rfl; have f0 := frozen_of_row _ _ 10 _ _ e1; clear e1)
  go_end0
  rw [HE.out]
  exact reader_set hPH hP hH hPB hHB HI.out hr1 hg1 (fun _ _ _ _ => rfl) rfl rfl

set_option maxRecDepth 100000 in
set_option maxHeartbeats 2000000 in
theorem rd_2 (hPH : P ≠ H) (hP : W0.heap.size ≤ P) (hH : W0.heap.size ≤ H) (hPB : P < B0) (hHB : H < B0) (hs : s.size ≤ 140737488355328) (a : Value) (st : O × Option Int) (w : World) (h : (readerV s W0 P H B0).Inv st w) :
    Calls Tryz.prog 104 #[.pointer (some ⟨P, 0, none⟩), a, .pointer (some ⟨H, 2, none⟩)] w ((readerV s W0 P H B0).post (readK s false st 2) w) := by
  have HI := Lib.hid h
  obtain ⟨o, p⟩ := st
  obtain ⟨hR, ⟨RA, TA, rc, tc, r1, r2, r3⟩, hb, hBz⟩ := h
  have R1 := Lib.hid r1
  have HR := Lib.hid hR
  dsimp only at r1
  obtain ⟨n, q, hN⟩ : ∃ n q, rNum s 1099511627776 p = (n, q) := ⟨_, _, rfl⟩
  have HN := Lib.hid hN
  have HE : Hid (readK s false (o, p) 2 = ({ o with pn := (n : Int) }, q)) := Lib.hid (by simp only [readK, hN])
  clear hN hR r1 r2 r3 hb hBz
  go_enter Tryz.func104, Tryz.ntmps104
  go_wp2_with (go_at_call 12; refine (get_num P s 1099511627776 p q n _ (by unfold maxLen; omega) (by omega) HN HR.out).mono ?_; rintro e w1 ⟨rfl, hr1, hg1⟩; have e1 := (hg1.block H (at_lt R1.out) (fun e => hPH (Option.some.inj e).symm)).trans R1.out; have y0 : w1.cell? ⟨H, 2, none⟩ = some _ := (cell_of_row _ _ 2 _ _ _ e1).trans rfl; have f0 := frozen_of_row _ _ 2 _ _ e1; clear e1)
  go_end0
  rw [HE.out]
  exact reader_set hPH hP hH hPB hHB HI.out hr1 hg1 (fun _ _ _ _ => rfl) rfl rfl

set_option maxRecDepth 100000 in
set_option maxHeartbeats 2000000 in
theorem rd_3 (hPH : P ≠ H) (hP : W0.heap.size ≤ P) (hH : W0.heap.size ≤ H) (hPB : P < B0) (hHB : H < B0) (hs : s.size ≤ 140737488355328) (a : Value) (st : O × Option Int) (w : World) (h : (readerV s W0 P H B0).Inv st w) :
    Calls Tryz.prog 104 #[.pointer (some ⟨P, 0, none⟩), a, .pointer (some ⟨H, 3, none⟩)] w ((readerV s W0 P H B0).post (readK s false st 3) w) := by
  have HI := Lib.hid h
  obtain ⟨o, p⟩ := st
  obtain ⟨hR, ⟨RA, TA, rc, tc, r1, r2, r3⟩, hb, hBz⟩ := h
  have R1 := Lib.hid r1
  have HR := Lib.hid hR
  dsimp only at r1
  obtain ⟨n, q, hN⟩ : ∃ n q, rNum s 1099511627776 p = (n, q) := ⟨_, _, rfl⟩
  have HN := Lib.hid hN
  have HE : Hid (readK s false (o, p) 3 = ({ o with n := (n : Int) }, q)) := Lib.hid (by simp only [readK, hN])
  clear hN hR r1 r2 r3 hb hBz
  go_enter Tryz.func104, Tryz.ntmps104
  go_wp2_with (go_at_call 12; refine (get_num P s 1099511627776 p q n _ (by unfold maxLen; omega) (by omega) HN HR.out).mono ?_; rintro e w1 ⟨rfl, hr1, hg1⟩; have e1 := (hg1.block H (at_lt R1.out) (fun e => hPH (Option.some.inj e).symm)).trans R1.out; have y0 : w1.cell? ⟨H, 3, none⟩ = some _ := (cell_of_row _ _ 3 _ _ _ e1).trans rfl; have f0 := frozen_of_row _ _ 3 _ _ e1; clear e1)
  go_end0
  rw [HE.out]
  exact reader_set hPH hP hH hPB hHB HI.out hr1 hg1 (fun _ _ _ _ => rfl) rfl rfl

set_option maxRecDepth 100000 in
set_option maxHeartbeats 2000000 in
theorem rd_4 (hPH : P ≠ H) (hP : W0.heap.size ≤ P) (hH : W0.heap.size ≤ H) (hPB : P < B0) (hHB : H < B0) (hs : s.size ≤ 140737488355328) (a : Value) (st : O × Option Int) (w : World) (h : (readerV s W0 P H B0).Inv st w) :
    Calls Tryz.prog 104 #[.pointer (some ⟨P, 0, none⟩), a, .pointer (some ⟨H, 4, none⟩)] w ((readerV s W0 P H B0).post (readK s false st 4) w) := by
  have HI := Lib.hid h
  obtain ⟨o, p⟩ := st
  obtain ⟨hR, ⟨RA, TA, rc, tc, r1, r2, r3⟩, hb, hBz⟩ := h
  have R1 := Lib.hid r1
  have HR := Lib.hid hR
  dsimp only at r1
  obtain ⟨n, q, hN⟩ : ∃ n q, rNum s 1099511627776 p = (n, q) := ⟨_, _, rfl⟩
  have HN := Lib.hid hN
  have HE : Hid (readK s false (o, p) 4 = ({ o with off := (n : Int) }, q)) := Lib.hid (by simp only [readK, hN])
  clear hN hR r1 r2 r3 hb hBz
  go_enter Tryz.func104, Tryz.ntmps104
  go_wp2_with (go_at_call 12; refine (get_num P s 1099511627776 p q n _ (by unfold maxLen; omega) (by omega) HN HR.out).mono ?_; rintro e w1 ⟨rfl, hr1, hg1⟩; have e1 := (hg1.block H (at_lt R1.out) (fun e => hPH (Option.some.inj e).symm)).trans R1.out; have y0 : w1.cell? ⟨H, 4, none⟩ = some _ := (cell_of_row _ _ 4 _ _ _ e1).trans rfl; have f0 := frozen_of_row _ _ 4 _ _ e1; clear e1)
  go_end0
  rw [HE.out]
  exact reader_set hPH hP hH hPB hHB HI.out hr1 hg1 (fun _ _ _ _ => rfl) rfl rfl

set_option maxRecDepth 100000 in
set_option maxHeartbeats 2000000 in
theorem rd_11 (hPH : P ≠ H) (hP : W0.heap.size ≤ P) (hH : W0.heap.size ≤ H) (hPB : P < B0) (hHB : H < B0) (hs : s.size ≤ 140737488355328) (a : Value) (st : O × Option Int) (w : World) (h : (readerV s W0 P H B0).Inv st w) :
    Calls Tryz.prog 104 #[.pointer (some ⟨P, 0, none⟩), a, .pointer (some ⟨H, 11, none⟩)] w ((readerV s W0 P H B0).post (readK s false st 11) w) := by
  have HI := Lib.hid h
  obtain ⟨o, p⟩ := st
  obtain ⟨hR, ⟨RA, TA, rc, tc, r1, r2, r3⟩, hb, hBz⟩ := h
  have R1 := Lib.hid r1
  have HR := Lib.hid hR
  dsimp only at r1
  obtain ⟨n, q, hN⟩ : ∃ n q, rNum s 1099511627776 p = (n, q) := ⟨_, _, rfl⟩
  have HN := Lib.hid hN
  have HE : Hid (readK s false (o, p) 11 = ({ o with gen := (n : Int) }, q)) := Lib.hid (by simp only [readK, hN])
  clear hN hR r1 r2 r3 hb hBz
  go_enter Tryz.func104, Tryz.ntmps104
  go_wp2_with (go_at_call 12; refine (get_num P s 1099511627776 p q n _ (by unfold maxLen; omega) (by omega) HN HR.out).mono ?_; rintro e w1 ⟨rfl, hr1, hg1⟩; have e1 := (hg1.block H (at_lt R1.out) (fun e => hPH (Option.some.inj e).symm)).trans R1.out; have y0 : w1.cell? ⟨H, 11, none⟩ = some _ := (cell_of_row _ _ 11 _ _ _ e1).trans rfl; have f0 := frozen_of_row _ _ 11 _ _ e1; clear e1)
  go_end0
  rw [HE.out]
  exact reader_set hPH hP hH hPB hHB HI.out hr1 hg1 (fun _ _ _ _ => rfl) rfl rfl

theorem one_eq (k : Nat) : ((k : Int) == 1) = (k == 1) := by
  by_cases h : k = 1
  · subst h; rfl
  · rw [beq_eq_false_iff_ne.2 h, beq_eq_false_iff_ne]
    omega
set_option maxRecDepth 100000 in
set_option maxHeartbeats 2000000 in
theorem rd_12 (hPH : P ≠ H) (hP : W0.heap.size ≤ P) (hH : W0.heap.size ≤ H) (hPB : P < B0) (hHB : H < B0) (hs : s.size ≤ 140737488355328) (a : Value) (st : O × Option Int) (w : World) (h : (readerV s W0 P H B0).Inv st w) :
    Calls Tryz.prog 105 #[.pointer (some ⟨P, 0, none⟩), a, .pointer (some ⟨H, 12, none⟩)] w ((readerV s W0 P H B0).post (readK s false st 12) w) := by
  have HI := Lib.hid h
  obtain ⟨o, p⟩ := st
  obtain ⟨hR, ⟨RA, TA, rc, tc, r1, r2, r3⟩, hb, hBz⟩ := h
  have R1 := Lib.hid r1
  have HR := Lib.hid hR
  dsimp only at r1
  obtain ⟨n, q, hN⟩ : ∃ n q, rNum s 1 p = (n, q) := ⟨_, _, rfl⟩
  have HN := Lib.hid hN
  have HE : Hid (readK s false (o, p) 12 = ({ o with robin := n == 1 }, q)) := Lib.hid (by simp [readK, hN])
  obtain ⟨b, hb1⟩ : ∃ b, (n == 1) = b := ⟨_, rfl⟩
  have q1 : ((n : Int) == 1) = b := by rw [one_eq]; exact hb1
  have HB := Lib.hid hb1
  clear hN hR r1 r2 r3 hb hb1 hBz
  go_enter Tryz.func105, Tryz.ntmps105
  go_wp2_with (go_at_call 12; refine (get_num P s 1 p q n _ (by unfold maxLen; omega) (by omega) HN HR.out).mono ?_; rintro e w1 ⟨rfl, hr1, hg1⟩; have e1 := (hg1.block H (at_lt R1.out) (fun e => hPH (Option.some.inj e).symm)).trans R1.out; have y0 : w1.cell? ⟨H, 12, none⟩ = some _ := (cell_of_row _ _ 12 _ _ _ e1).trans rfl; have f0 := frozen_of_row _ _ 12 _ _ e1; clear e1)
  go_end0
  rw [HE.out, HB.out]
  exact reader_set hPH hP hH hPB hHB HI.out hr1 hg1 (fun _ _ _ _ => rfl) rfl rfl


theorem strInfo1 : (Tryz.prog.info? 9).map (fun i => (i.zero, i.size, i.bytes)) = some (some (.string ⟨#[]⟩), 1, 16) := by kernel_rfl
theorem make_tops (n : Nat) (hn : n ≤ 64) (W : World) :
    (Instr.makeSlice 27 (.int .i64 (n : Int)) (.int .i64 (n : Int))).run Tryz.prog W = .ok (.slice (some ⟨W.heap.size, 0, none⟩) n n) (W.alloc (.cells (madeCells #[.string ⟨#[]⟩] n) 9)) := by
  obtain ⟨i0, hi0, hz0, hz1, hz2⟩ := info_parts strInfo1
  have hr := run_make (P := Tryz.prog) W 27 9 i0 _ Tryz.underlying27 hi0 hz0 .i64 .i64 n n (by omega) (Int.le_refl _) (by rw [hz2]; omega) (by omega)
  simp only [Int.toNat_natCast] at hr
  rw [hr, hz1, Nat.mul_one]
  rfl
theorem g_store {w w2 : World} {r : Option Nat} {L k : Nat} {v : Value} (h : w.grownBy w2 r) (hL : w.heap.size ≤ L) : w.grownBy (w2.setCell ⟨L, k, none⟩ v) r :=
  ⟨h.os, h.tape, h.output, by simp; exact h.size, fun i hi hr => (heap_setCell_other w2 ⟨L, k, none⟩ i v (by show i ≠ L; omega)).trans (h.block i hi hr)⟩
theorem num_le {s : ByteArray} {most n : Nat} {p q : Option Int} (h : rNum s most p = (n, q)) : n ≤ most := by
  cases q with
  | none => rw [rd_bad h]; omega
  | some b => obtain ⟨_, _, h1, _⟩ := num_got h; exact h1
theorem texts_next {W : World} {G k n : Nat} {row : Array Value} {T : TypeId} {l : List ByteArray} {t : ByteArray} (hrow : W.heap[G]? = some (.cells row T (0, 0))) (hsz : row.size = n) (ht : row.toList.take k = texts l) (hk : k < n) :
    ∃ row', (W.setCell ⟨G, k, none⟩ (.string t)).heap[G]? = some (.cells row' T (0, 0)) ∧ row'.size = n ∧ row'.toList.take (k + 1) = texts (l ++ [t]) := by
  refine ⟨_, heap_setCell_same _ _ _ _ _ _ hrow, by simpa using hsz, ?_⟩
  have e1 := take_set (v := .string t) (by omega : k < row.size) ht
  rw [e1]
  simp [texts]
theorem own_tops {W : World} {G n base : Nat} {row : Array Value} {l : List ByteArray} (hrow : W.heap[G]? = some (.cells row 9 (0, 0))) (hsz : row.size = n) (ht : row.toList.take n = texts l) (hl : l.length = n) (hn : n ≤ 64) (hb : base ≤ G) :
    W.ownsRow base 9 1 (.slice (some ⟨G, 0, none⟩) l.length n) l.length (texts l) := by
  subst hl
  exact ⟨by simp [texts], .inr ⟨G, l.length, row, rfl, hb, hrow, Nat.le_refl _, by unfold maxLen; omega, by rw [hsz, Nat.mul_one], by rw [Nat.mul_one]; exact ht⟩⟩

/-- behind the topics, and the store of their list into the command -/
theorem reader_tops (hPH : P ≠ H) (hP : W0.heap.size ≤ P) (hH : W0.heap.size ≤ H) (hPB : P < B0) (hHB : H < B0) {o : O} {p q : Option Int} {w w1 : World} {A : Option Addr} {c : Nat} {l : List ByteArray} (h : (readerV s W0 P H B0).Inv (o, p) w) (hr : Rdr P s q w1) (hg : w.grownBy w1 (some P))
    (ho : w1.ownsRow B0 9 1 (.slice A l.length c) l.length (texts l)) :
    (readerV s W0 P H B0).post ({ o with tops := l }, q) w (.returned (.tuple #[])) (w1.setCell ⟨H, 13, none⟩ (.slice A l.length c)) := by
  obtain ⟨hR, ⟨RA, TA, rc, tc, r1, r2, r3⟩, hb, hBz⟩ := h
  dsimp only at r1 r2 r3
  have e1 : w1.heap[H]? = _ := (hg.block H (at_lt r1) (fun e => hPH (Option.some.inj e).symm)).trans r1
  have e2 := heap_setCell_same _ H 13 _ _ (.slice A l.length c) e1
  obtain ⟨a, ha, ha2⟩ := hr
  have hB0 : Below W0.heap.size W0 w1 := hb.grown hg hb.size (fun j e => by have := Option.some.inj e; omega)
  refine ⟨rfl, ⟨⟨a, (heap_setCell_other _ ⟨H, 13, none⟩ P _ hPH).trans ha, ha2⟩, ⟨RA, A, rc, c, e2, ?_, ?_⟩, hB0.setCell (p := ⟨H, 13, none⟩) hH _, by simp; exact Nat.le_trans hBz hg.size⟩, by simp; exact hg.size, fun b hl hn => ⟨?_, hn⟩⟩
  · exact ownsRow_setCell_below (own_grown r2 hPB hg) (a := ⟨H, 13, none⟩) hHB _
  · exact ownsRow_setCell_below ho (a := ⟨H, 13, none⟩) hHB _
  · have n1 : b ≠ P := fun e => hn (.inl e)
    have n2 : b ≠ H := fun e => hn (.inr e)
    exact (heap_setCell_other _ ⟨H, 13, none⟩ b _ n2).trans (hg.block b hl (fun e => n1 (Option.some.inj e)))

set_option maxRecDepth 100000 in
set_option maxHeartbeats 4000000 in
theorem rd_13 (hPH : P ≠ H) (hP : W0.heap.size ≤ P) (hH : W0.heap.size ≤ H) (hPB : P < B0) (hHB : H < B0) (hs : s.size ≤ 140737488355328) (a : Value) (st : O × Option Int) (w : World) (h : (readerV s W0 P H B0).Inv st w) :
    Calls Tryz.prog 106 #[.pointer (some ⟨P, 0, none⟩), a, .pointer (some ⟨H, 13, none⟩)] w ((readerV s W0 P H B0).post (readK s false st 13) w) := by
  have HI := Lib.hid h
  obtain ⟨o, p⟩ := st
  obtain ⟨hR, ⟨RA, TA, rc, tc, r1, r2, r3⟩, hb, hBz⟩ := h
  have R1 := Lib.hid r1
  have HR := Lib.hid hR
  dsimp only at r1
  obtain ⟨n, q, hN⟩ : ∃ n q, rNum s 8 p = (n, q) := ⟨_, _, rfl⟩
  have hn8 := num_le hN
  have HN := Lib.hid hN
  have HE : Hid (readK s false (o, p) 13 = ({ o with tops := (rMany (rTxt s) q n).1 }, (rMany (rTxt s) q n).2)) := Lib.hid (by
    have : min n 9 = n := by omega
    simp [readK, hN, this])
  have HS := Lib.hid hs
  have HW : Hid (B0 ≤ w.heap.size) := Lib.hid hBz
  have hmk := make_tops n (by omega)
  clear hN hR r1 r2 r3 hb hBz hs
  go_enter Tryz.func106, Tryz.ntmps106
  go_wp2_with (go_at_call 12; refine (get_num P s 8 p q n _ (by have := HS.out; unfold maxLen; omega) (by omega) HN HR.out).mono ?_; rintro e w1 ⟨rfl, hr1, hg1⟩; have HR1 := Lib.hid hr1; have HG1 := Lib.hid hg1; clear hr1 hg1)
  clear hmk
  have hsz1 : w.heap.size ≤ w1.heap.size := HG1.out.size
  have hPl : P < w1.heap.size := HR1.out.lt
  go_loopw [13] (fun i wr => ∃ (k : Nat) (row : Array Value), k ≤ n ∧ i = .int .i64 k ∧ Hid (Rdr P s (rMany (rTxt s) q k).2 wr) ∧ Hid (w.grownBy wr (some P)) ∧ Hid (wr.heap[w1.heap.size]? = some (.cells row 9 (0, 0))) ∧ row.size = n ∧ Hid (row.toList.take k = texts (rMany (rTxt s) q k).1)) (fun i _ => n - (intOf i).toNat)
  case atStart => exact ⟨0, _, by omega, rfl, Lib.hid (HR1.out.below (one_box _)), Lib.hid (g_trans HG1.out (g_below (one_box _))), Lib.hid (heap_alloc_new w1 _), size_madeCells _ _, Lib.hid (by simp [rMany, texts])⟩
  case round =>
    obtain ⟨k, row, hk, rfl, HRK, HGK, hrow, hsz, htk⟩ := hrel
    by_cases hlt : k < n
    · obtain ⟨t, r, ht⟩ : ∃ t r, rTxt s (rMany (rTxt s) q k).2 = (t, r) := ⟨_, _, rfl⟩
      have HT := Lib.hid ht
      have HNX : Hid (rMany (rTxt s) q (k + 1) = ((rMany (rTxt s) q k).1 ++ [t], r)) := Lib.hid (by simp only [rMany, ht])
      have HSZ := Lib.hid hsz
      have hLr : w1.heap.size < wr.heap.size := at_lt hrow.out
      have k0 : (0 : Int) ≤ (k : Int) := by omega
      have kl : (k : Int) < (n : Int) := by omega
      clear ht
      go_wp2_with (go_at_call 41; refine (get_txt P s _ r t _ (by have := HS.out; omega) HT HRK.out).mono ?_; rintro e w2 ⟨rfl, hr2, hg2⟩; have hrow2 := (hg2.block w1.heap.size hLr (fun e => by have := Option.some.inj e; omega)).trans hrow.out; obtain ⟨v0, hv0⟩ := cell_in hrow2 (by omega : k < row.size); have f0 := frozen_of_row w2 w1.heap.size k _ _ hrow2; have HROW2 := Lib.hid hrow2; have HR2 := Lib.hid hr2; have HG2 := Lib.hid hg2; clear hrow2 hr2 hg2)
      obtain ⟨row', q1, q2, q3⟩ := texts_next (t := t) HROW2.out HSZ.out htk.out hlt
      go_roundw
      case rel =>
        refine ⟨k + 1, row', by omega, by go_num, Lib.hid ?_, Lib.hid ?_, Lib.hid q1, q2, Lib.hid ?_⟩
        · rw [HNX.out]
          obtain ⟨a', ha, ha2⟩ := HR2.out
          exact ⟨a', (heap_setCell_other _ ⟨w1.heap.size, k, none⟩ P _ (by show P ≠ w1.heap.size; omega)).trans ha, ha2⟩
        · exact g_store (g_trans HGK.out HG2.out) hsz1
        · rw [HNX.out]; exact q3
      case measure => simp [intOf]; omega
    · obtain rfl : k = n := by omega
      have e1 := (HGK.out.block H (at_lt R1.out) (fun e => hPH (Option.some.inj e).symm)).trans R1.out
      have y0 : wr.cell? ⟨H, 13, none⟩ = some _ := (cell_of_row _ _ 13 _ _ _ e1).trans rfl
      have f0 := frozen_of_row _ _ 13 _ _ e1
      have HSZ := Lib.hid hsz
      have HLEN := Lib.hid (many_len (rTxt s) q k)
      clear e1 hsz
      go_wp2_with fail
      go_end0
      rw [HE.out]
      have ho := own_tops hrow.out HSZ.out htk.out HLEN.out (by omega) (by have := HW.out; omega : B0 ≤ w1.heap.size)
      rw [HLEN.out] at ho
      have := reader_tops hPH hP hH hPB hHB HI.out HRK.out HGK.out (A := some ⟨w1.heap.size, 0, none⟩) (c := k) (l := (rMany (rTxt s) q k).1) (by rw [HLEN.out]; exact ho)
      rw [HLEN.out] at this
      exact this


end
end Go.Proofs.YtijofikpdhapoaaGreat.L4
