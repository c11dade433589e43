/-
  Contracts: the reader: a place in bytes, and whether something was wrong.
-/
import Derived.Test.YtijofikpdhapoaaGreatMReqRead
import Derived.Test.YtijofikpdhapoaaGreatRecGet
import Derived.Test.YtijofikpdhapoaaGreatMRecAll
import Derived.Test.YtijofikpdhapoaaGreatMText
import Derived.Deep.RegionHeld3
import Derived.Deep.QuietTactic
import Derived.BigQuiet
import Derived.Lib.Hide
namespace Go.Proofs.YtijofikpdhapoaaGreat.L4
open Go.RowKit
open L3

/-- a reader's block -/
def Rdr (P : Nat) (s : ByteArray) (p : Option Int) (w : World) : Prop := ∃ a : Int, w.heap[P]? = some (.cells #[.string s, .int .i64 a, .bool p.isNone] 47 (0, 0)) ∧ ∀ b, p = some b → a = b
/-- the place behind a step -/
def stepTo (p : Option Int) (to e : Int) : Option Int := match p with | none => none | some _ => if e = 0 then some to else none

theorem row_of {w : World} {g j : Nat} {cs : Array Value} {t : TypeId} {v : Value} (hg : w.heap[g]? = some (.cells cs t (0, 0))) (hv : cs[j]? = some v) : w.cell? ⟨g, j, none⟩ = some v := (cell_of_row w g j cs t _ hg).trans hv
theorem at_lt {w : World} {b : Nat} {x : Obj} (h : w.heap[b]? = some x) : b < w.heap.size := (Array.getElem?_eq_some_iff.1 h).1
theorem Rdr.below {P : Nat} {s : ByteArray} {p : Option Int} {w w' : World} (h : Rdr P s p w) (hb : Below w.heap.size w w') : Rdr P s p w' := by
  obtain ⟨a, h1, h2⟩ := h
  exact ⟨a, (hb.block P (at_lt h1)).trans h1, h2⟩
theorem Rdr.lt {P : Nat} {s : ByteArray} {p : Option Int} {w : World} (h : Rdr P s p w) : P < w.heap.size := by
  obtain ⟨a, h1, _⟩ := h
  exact at_lt h1
theorem g_trans {a b c : World} {r : Option Nat} (h : a.grownBy b r) (k : b.grownBy c r) : a.grownBy c r :=
  ⟨k.os.trans h.os, k.tape.trans h.tape, k.output.trans h.output, Nat.le_trans h.size k.size, fun i hi hr => (k.block i (Nat.lt_of_lt_of_le hi h.size) hr).trans (h.block i hi hr)⟩
theorem g_below {a b : World} {r : Option Nat} (h : Below a.heap.size a b) : a.grownBy b r := ⟨h.os, h.tape, h.output, h.size, fun i hi _ => h.block i hi⟩
theorem g_set {a : World} {P j : Nat} (v : Value) : a.grownBy (a.setCell ⟨P, j, none⟩ v) (some P) :=
  ⟨rfl, rfl, rfl, by simp, fun i _ hr => heap_setCell_other a ⟨P, j, none⟩ i v (fun e => hr (by rw [e]))⟩


set_option maxRecDepth 100000 in
set_option maxHeartbeats 1000000 in
theorem step_is (P : Nat) (s : ByteArray) (p : Option Int) (to e : Int) (w : World) (h : Rdr P s p w) :
    Calls Tryz.prog 32 #[.pointer (some ⟨P, 0, none⟩), .int .i64 to, .int .i64 e] w fun x w' => x = .returned (.bool (stepTo p to e).isSome) ∧ Rdr P s (stepTo p to e) w' ∧ w.grownBy w' (some P) := by
  obtain ⟨a, h1, h2⟩ := h
  have H1 := Lib.hid h1
  have x0 : w.cell? ⟨P, 0, none⟩ = some (.string s) := row_of h1 rfl
  have x1 : w.cell? ⟨P, 1, none⟩ = some (.int .i64 a) := row_of h1 rfl
  have x2 : w.cell? ⟨P, 2, none⟩ = some (.bool p.isNone) := row_of h1 rfl
  have f1 := frozen_of_row _ _ 1 _ _ h1
  have f2 := frozen_of_row _ _ 2 _ _ h1
  cases p with
  | none =>
    have x2 : w.cell? ⟨P, 2, none⟩ = some (.bool true) := x2
    clear h1 h2
    go_enter Tryz.func32, Tryz.ntmps32
    go_wp2_with fail
    go_ret
    exact ⟨rfl, ⟨a, heap_setCell_same _ P 2 _ _ (.bool true) H1.out, fun b q => by cases q⟩, g_set _⟩
  | some b =>
    have x2 : w.cell? ⟨P, 2, none⟩ = some (.bool false) := x2
    by_cases he : e = 0
    · subst he
      clear h1 h2
      go_enter Tryz.func32, Tryz.ntmps32
      go_wp2_with fail
      go_ret
      refine ⟨rfl, ⟨to, heap_setCell_same _ P 1 _ _ (.int .i64 to) (heap_setCell_same _ P 2 _ _ (.bool false) H1.out), fun b' q => ?_⟩, g_trans (g_set _) (g_set _)⟩
      simp [stepTo] at q
      exact q
    · have hne : (e != 0) = true := by simpa using he
      have E : Hid (stepTo (some b) to e = none) := Lib.hid (by simp [stepTo, he])
      clear h1 h2 he
      go_enter Tryz.func32, Tryz.ntmps32
      go_wp2_with fail
      go_ret
      rw [E.out]
      exact ⟨rfl, ⟨a, heap_setCell_same _ P 2 _ _ (.bool true) H1.out, fun b q => by cases q⟩, g_set _⟩


theorem step_num {s : ByteArray} {most n : Nat} {p : Option Int} {a to e : Int} (h2 : ∀ b, p = some b → a = b) (hg : V.get s a = (n, to, e)) : rNum s most p = (if (stepTo p to (if most < n then 2 else e)).isSome then n else 0, stepTo p to (if most < n then 2 else e)) := by
  cases p with
  | none => rfl
  | some b =>
    obtain rfl := h2 b rfl
    by_cases hm : most < n
    · have hm2 : ¬ n ≤ most := by omega
      simp [rNum, rd, stepTo, hg, hm]
    · have hm' : n ≤ most := by omega
      by_cases he : e = 0
      · subst he
        simp [rNum, rd, stepTo, hg, hm, hm']
      · simp [rNum, rd, stepTo, hg, hm, he]
theorem step_txt {s t : ByteArray} {p : Option Int} {a to e : Int} (h2 : ∀ b, p = some b → a = b) (hg : V.text s a 16 = (t, to, e)) : rTxt s p = (if (stepTo p to e).isSome then t else ⟨#[]⟩, stepTo p to e) := by
  cases p with
  | none => rfl
  | some b =>
    obtain rfl := h2 b rfl
    by_cases he : e = 0
    · subst he
      simp [rTxt, rd, stepTo, hg]
    · simp [rTxt, rd, stepTo, hg, he]
theorem step_rec {s : ByteArray} {r : R} {p : Option Int} {a to e : Int} (h2 : ∀ b, p = some b → a = b) (hg : getR s a = (r, to, e)) : rRec s p = (if (stepTo p to e).isSome then r else R.zero, stepTo p to e) := by
  cases p with
  | none => rfl
  | some b =>
    obtain rfl := h2 b rfl
    by_cases he : e = 0
    · subst he
      simp [rRec, rd, stepTo, hg]
    · simp [rRec, rd, stepTo, hg, he]
theorem step_bat {s : ByteArray} {r : Bt} {p : Option Int} {a to e : Int} (h2 : ∀ b, p = some b → a = b) (hg : parse s a = (r, to, e)) : rBat s p = (if (stepTo p to e).isSome then r else Bt.zero, stepTo p to e) := by
  cases p with
  | none => rfl
  | some b =>
    obtain rfl := h2 b rfl
    by_cases he : e = 0
    · subst he
      simp [rBat, rd, stepTo, hg]
    · simp [rBat, rd, stepTo, hg, he]

set_option maxRecDepth 100000 in
set_option maxHeartbeats 2000000 in
theorem get_num (P : Nat) (s : ByteArray) (most : Nat) (p q : Option Int) (n : Nat) (w : World) (hs : s.size ≤ maxLen) (hm : most ≤ 1099511627776) (HN : Hid (rNum s most p = (n, q))) (h : Rdr P s p w) :
    Calls Tryz.prog 12 #[.pointer (some ⟨P, 0, none⟩), .int .u64 most] w fun x w' => x = .returned (.int .i64 n) ∧ Rdr P s q w' ∧ w.grownBy w' (some P) := by
  have HR := Lib.hid h
  obtain ⟨a, h1, h2⟩ := h
  have H1 := Lib.hid h1
  have HLT := Lib.hid (at_lt h1)
  have x0 : w.cell? ⟨P, 0, none⟩ = some (.string s) := row_of h1 rfl
  have x1 : w.cell? ⟨P, 1, none⟩ = some (.int .i64 a) := row_of h1 rfl
  have HS : Hid (∀ w', Below w.heap.size w w' → (w'.cell? ⟨P, 0, none⟩ = some (.string s) ∧ w'.cell? ⟨P, 1, none⟩ = some (.int .i64 a)) ∧ Below w.heap.size w w') := Lib.hid (fun w' hb => ⟨⟨row_of ((hb.block P (at_lt h1)).trans h1) rfl, row_of ((hb.block P (at_lt h1)).trans h1) rfl⟩, hb⟩)
  obtain ⟨m, to, e, hg⟩ : ∃ m to e, V.get s a = (m, to, e) := ⟨_, _, _, rfl⟩
  have hN := HN.out
  rw [step_num h2 hg] at hN
  have HG := Lib.hid hg
  obtain ⟨y, hy⟩ : ∃ y, (stepTo p to (if most < m then 2 else e)).isSome = y := ⟨_, rfl⟩
  have hym : y = true → m ≤ most := fun q => by
    rw [← hy] at q
    by_cases hl : most < m
    · rw [if_pos hl] at q
      cases p <;> simp [stepTo] at q
    · omega
  rw [hy] at hN
  obtain ⟨hn, hq⟩ := Prod.mk.inj hN
  clear h1 h2 hg hN HN
  by_cases hmn : most < m
  · have c1 : (most : Int) < (m : Int) := by omega
    have hyf : y = false := by
      cases y
      · rfl
      · have := hym rfl; omega
    subst hyf
    rw [if_pos hmn] at hq hy
    have HQ := Lib.hid hq
    have HY := Lib.hid hy
    have HNN : Hid (0 = n) := Lib.hid hn
    clear hmn hn hq hy hym
    go_enter Tryz.func12, Tryz.ntmps12
    go_wp2_with fail
    go_region_held3 (fun w' => (w'.cell? ⟨P, 0, none⟩ = some (.string s) ∧ w'.cell? ⟨P, 1, none⟩ = some (.int .i64 a)) ∧ Below w.heap.size w w')
      (first | with_reducible assumption | exact HS.out _ (Below.refl _ _).drew | exact HB1.out)
      ((go_at_call 31; refine (get_is _ _ _ hs _ _ _ HG).mono ?_; rintro e w1 ⟨rfl, rfl⟩; have HB1 := Lib.hid (HS.out _ (Below.refl w.heap.size w).drew)))
    clear x0 x1
    go_wp2_with (go_at_call 32; refine (step_is P s p _ _ _ (HR.out.below HB1.out.2)).mono ?_; rintro x w2 ⟨rfl, hr2, hg2⟩; rw [HY.out])
    go_ret
    rw [HQ.out] at hr2
    exact ⟨congrArg Ending.returned (congrArg (Value.int .i64) (congrArg (Nat.cast : Nat → Int) HNN.out)), hr2, g_trans (g_below HB1.out.2) hg2⟩
  · have c1 : ¬ (most : Int) < (m : Int) := by omega
    have c2 : IntKind.i64.wrap (m : Int) = (m : Int) := by rw [IntKind.wrap_i64]; omega
    rw [if_neg hmn] at hq hy
    have HQ := Lib.hid hq
    have HY := Lib.hid hy
    cases y
    all_goals
      have HNN : Hid (_ = n) := Lib.hid hn
      clear hmn hn hq hy hym
      go_enter Tryz.func12, Tryz.ntmps12
      go_wp2_with fail
      go_region_held3 (fun w' => (w'.cell? ⟨P, 0, none⟩ = some (.string s) ∧ w'.cell? ⟨P, 1, none⟩ = some (.int .i64 a)) ∧ Below w.heap.size w w')
        (first | with_reducible assumption | exact HS.out _ (Below.refl _ _).drew | exact HB1.out)
        ((go_at_call 31; refine (get_is _ _ _ hs _ _ _ HG).mono ?_; rintro e w1 ⟨rfl, rfl⟩; have HB1 := Lib.hid (HS.out _ (Below.refl w.heap.size w).drew)))
      clear x0 x1
      go_wp2_with (go_at_call 32; refine (step_is P s p _ _ _ (HR.out.below HB1.out.2)).mono ?_; rintro x w2 ⟨rfl, hr2, hg2⟩; rw [HY.out])
      go_ret
      rw [HQ.out] at hr2
      exact ⟨congrArg Ending.returned (congrArg (Value.int .i64) (congrArg (Nat.cast : Nat → Int) HNN.out)), hr2, g_trans (g_below HB1.out.2) hg2⟩


set_option maxRecDepth 100000 in
set_option maxHeartbeats 2000000 in
theorem get_txt (P : Nat) (s : ByteArray) (p q : Option Int) (t : ByteArray) (w : World) (hs : s.size ≤ 281474976710656) (HN : Hid (rTxt s p = (t, q))) (h : Rdr P s p w) :
    Calls Tryz.prog 41 #[.pointer (some ⟨P, 0, none⟩)] w fun x w' => x = .returned (.string t) ∧ Rdr P s q w' ∧ w.grownBy w' (some P) := by
  have HR := Lib.hid h
  obtain ⟨a, h1, h2⟩ := h
  have H1 := Lib.hid h1
  have HLT := Lib.hid (at_lt h1)
  have x0 : w.cell? ⟨P, 0, none⟩ = some (.string s) := row_of h1 rfl
  have x1 : w.cell? ⟨P, 1, none⟩ = some (.int .i64 a) := row_of h1 rfl
  have HS : Hid (∀ w', Below w.heap.size w w' → (w'.cell? ⟨P, 0, none⟩ = some (.string s) ∧ w'.cell? ⟨P, 1, none⟩ = some (.int .i64 a)) ∧ Below w.heap.size w w') := Lib.hid (fun w' hb => ⟨⟨row_of ((hb.block P (at_lt h1)).trans h1) rfl, row_of ((hb.block P (at_lt h1)).trans h1) rfl⟩, hb⟩)
  obtain ⟨m, to, e, hg⟩ : ∃ m to e, V.text s a 16 = (m, to, e) := ⟨_, _, _, rfl⟩
  have hN := HN.out
  rw [step_txt h2 hg] at hN
  have HG := Lib.hid hg
  obtain ⟨y, hy⟩ : ∃ y, (stepTo p to e).isSome = y := ⟨_, rfl⟩
  rw [hy] at hN
  obtain ⟨hn, hq⟩ := Prod.mk.inj hN
  clear h1 h2 hg hN HN
  have HQ := Lib.hid hq
  have HY := Lib.hid hy
  cases y
  all_goals
    have HNN : Hid (_ = t) := Lib.hid hn
    clear hn hq hy
    go_enter Tryz.func41, Tryz.ntmps41
    go_wp2_with fail
    go_region_held3 (fun w' => (w'.cell? ⟨P, 0, none⟩ = some (.string s) ∧ w'.cell? ⟨P, 1, none⟩ = some (.int .i64 a)) ∧ Below w.heap.size w w')
      (first | with_reducible assumption | exact HS.out _ (Below.refl _ _).drew | exact HB1.out)
      ((go_at_call 71; refine (text_is _ _ _ _ hs (by omega) _ _ _ HG).mono ?_; rintro e w1 ⟨rfl, hb1⟩; have HB1 := Lib.hid (HS.out _ (((Below.refl w.heap.size w).drew).trans hb1)); clear hb1))
    clear x0 x1
    go_wp2_with (go_at_call 32; refine (step_is P s p _ _ _ (HR.out.below HB1.out.2)).mono ?_; rintro x w2 ⟨rfl, hr2, hg2⟩; rw [HY.out])
    go_ret
    rw [HQ.out] at hr2
    exact ⟨congrArg Ending.returned (congrArg Value.string HNN.out), hr2, g_trans (g_below HB1.out.2) hg2⟩


set_option maxRecDepth 100000 in
set_option maxHeartbeats 2000000 in
theorem get_done (P : Nat) (s : ByteArray) (p : Option Int) (w : World) (h : Rdr P s p w) :
    Calls Tryz.prog 14 #[.pointer (some ⟨P, 0, none⟩)] w fun x w' => x = .returned (.bool (decide (p = some (s.size : Int)))) ∧ Below w.heap.size w w' := by
  obtain ⟨a, h1, h2⟩ := h
  have x0 : w.cell? ⟨P, 0, none⟩ = some (.string s) := row_of h1 rfl
  have x1 : w.cell? ⟨P, 1, none⟩ = some (.int .i64 a) := row_of h1 rfl
  have x2 : w.cell? ⟨P, 2, none⟩ = some (.bool p.isNone) := row_of h1 rfl
  obtain ⟨v, hv⟩ : ∃ v, decide (p = some (s.size : Int)) = v := ⟨_, rfl⟩
  rw [hv]
  cases p with
  | none =>
    have x2 : w.cell? ⟨P, 2, none⟩ = some (.bool true) := x2
    have HV : Hid (false = v) := Lib.hid (by rw [← hv]; simp)
    clear h1 h2 hv
    go_enter Tryz.func14, Tryz.ntmps14
    go_wp2_with fail
    go_quiet (fail)
    go_wp2_with fail
    go_ret
    exact ⟨congrArg Ending.returned (congrArg Value.bool HV.out), drewN_below (Below.refl _ _) _⟩
  | some b =>
    have x2 : w.cell? ⟨P, 2, none⟩ = some (.bool false) := x2
    have hab : a = b := h2 b rfl
    have HV : Hid ((a == (s.size : Int)) = v) := Lib.hid (by rw [← hv, hab]; by_cases h : b = (s.size : Int) <;> simp [h])
    obtain ⟨u, hu⟩ : ∃ u, (a == (s.size : Int)) = u := ⟨_, rfl⟩
    have HU := Lib.hid hu
    clear h1 h2 hv hab
    go_enter Tryz.func14, Tryz.ntmps14
    go_wp2_with fail
    go_quiet (fail)
    go_wp2_with fail
    go_ret
    exact ⟨congrArg Ending.returned (congrArg Value.bool (HU.out.symm.trans HV.out)), drewN_below (Below.refl _ _) _⟩


end Go.Proofs.YtijofikpdhapoaaGreat.L4
