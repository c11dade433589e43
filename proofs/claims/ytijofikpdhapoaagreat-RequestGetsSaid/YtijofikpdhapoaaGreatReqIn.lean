/-
  Contracts: the document's In: a place in bytes, and whether something was wrong.
-/
import Derived.Test.YtijofikpdhapoaaGreatReqRd
import Derived.Test.YtijofikpdhapoaaGreatRecRget
namespace Go.Proofs.YtijofikpdhapoaaGreat.L4
open Go.RowKit
open L3

/-- an In's block -/
def RdrI (P : Nat) (s : ByteArray) (p : Option Int) (w : World) : Prop := ∃ a : Int, w.heap[P]? = some (.cells #[.string s, .int .i64 a, .bool p.isNone] 40 (0, 0)) ∧ ∀ b, p = some b → a = b
theorem RdrI.below {P : Nat} {s : ByteArray} {p : Option Int} {w w' : World} (h : RdrI P s p w) (hb : Below w.heap.size w w') : RdrI P s p w' := by
  obtain ⟨a, h1, h2⟩ := h
  exact ⟨a, (hb.block P (at_lt h1)).trans h1, h2⟩
theorem RdrI.lt {P : Nat} {s : ByteArray} {p : Option Int} {w : World} (h : RdrI P s p w) : P < w.heap.size := by
  obtain ⟨a, h1, _⟩ := h
  exact at_lt h1
theorem in_bad {P : Nat} {s : ByteArray} {a : Int} {b : Value} {w W : World} (h : w.heap[P]? = some (.cells #[.string s, .int .i64 a, b] 40 (0, 0))) (hb : Below w.heap.size w W) : RdrI P s none (W.setCell ⟨P, 2, none⟩ (.bool true)) ∧ w.grownBy (W.setCell ⟨P, 2, none⟩ (.bool true)) (some P) :=
  ⟨⟨a, heap_setCell_same _ P 2 _ _ (.bool true) ((hb.block P (at_lt h)).trans h), fun _ e => by cases e⟩, g_trans (g_below hb) (g_set _)⟩
theorem in_good {P : Nat} {s : ByteArray} {a to : Int} {w W : World} (h : w.heap[P]? = some (.cells #[.string s, .int .i64 a, .bool false] 40 (0, 0))) (hb : Below w.heap.size w W) : RdrI P s (some to) (W.setCell ⟨P, 1, none⟩ (.int .i64 to)) ∧ w.grownBy (W.setCell ⟨P, 1, none⟩ (.int .i64 to)) (some P) :=
  ⟨⟨to, heap_setCell_same _ P 1 _ _ (.int .i64 to) ((hb.block P (at_lt h)).trans h), fun _ e => Option.some.inj e⟩, g_trans (g_below hb) (g_set _)⟩
/-- the ways of a step -/
theorem step_ways (p : Option Int) (to e : Int) : (p = none ∧ stepTo p to e = none) ∨ (p.isNone = false ∧ e ≠ 0 ∧ stepTo p to e = none) ∨ (p.isNone = false ∧ e = 0 ∧ stepTo p to e = some to) := by
  cases p with
  | none => exact .inl ⟨rfl, rfl⟩
  | some _ =>
    by_cases h : e = 0
    · exact .inr (.inr ⟨rfl, h, by simp [stepTo, h]⟩)
    · exact .inr (.inl ⟨rfl, h, by simp [stepTo, h]⟩)

set_option maxRecDepth 100000 in
set_option maxHeartbeats 4000000 in
theorem in_num (P : Nat) (s : ByteArray) (p q : Option Int) (n : Nat) (w : World) (hs : s.size ≤ maxLen) (HN : Hid (rNum s 1099511627776 p = (n, q))) (h : RdrI P s p w) :
    Calls Tryz.prog 8 #[.pointer (some ⟨P, 0, none⟩)] w fun x w' => x = .returned (.int .i64 n) ∧ RdrI P s q w' ∧ w.grownBy w' (some P) := by
  have HR := Lib.hid h
  obtain ⟨a, h1, h2⟩ := h
  have H1 := Lib.hid h1
  have HLT := Lib.hid (at_lt h1)
  have x0 : w.cell? ⟨P, 0, none⟩ = some (.string s) := row_of h1 rfl
  have x1 : w.cell? ⟨P, 1, none⟩ = some (.int .i64 a) := row_of h1 rfl
  have x2 : w.cell? ⟨P, 2, none⟩ = some (.bool p.isNone) := row_of h1 rfl
  have f1 := frozen_of_row _ _ 1 _ _ h1
  have f2 := frozen_of_row _ _ 2 _ _ h1
  obtain ⟨m, to, e, hg⟩ : ∃ m to e, V.get s a = (m, to, e) := ⟨_, _, _, rfl⟩
  have hN := HN.out
  rw [step_num h2 hg] at hN
  have HG := Lib.hid hg
  clear h1 h2 hg HN
  rcases step_ways p to (if 1099511627776 < m then 2 else e) with ⟨rfl, hw⟩ | ⟨hp, hne, hw⟩ | ⟨hp, he, hw⟩
  · rw [hw] at hN
    obtain ⟨rfl, rfl⟩ := Prod.mk.inj hN
    clear hN hw
    have HS : Hid (∀ w', Below w.heap.size w w' → ((w'.cell? ⟨P, 0, none⟩ = some (.string s) ∧ w'.cell? ⟨P, 1, none⟩ = some (.int .i64 a) ∧ w'.cell? ⟨P, 2, none⟩ = some (.bool true)) ∧ Below w.heap.size w w')) := Lib.hid (fun w' hb => ⟨⟨row_of ((hb.block P HLT.out).trans H1.out) rfl, row_of ((hb.block P HLT.out).trans H1.out) rfl, row_of ((hb.block P HLT.out).trans H1.out) rfl⟩, hb⟩)
    have x2 : w.cell? ⟨P, 2, none⟩ = some (.bool true) := x2
    go_enter Tryz.func8, Tryz.ntmps8
    go_wp2_with fail
    go_region_held3 (fun w' => (w'.cell? ⟨P, 0, none⟩ = some (.string s) ∧ w'.cell? ⟨P, 1, none⟩ = some (.int .i64 a) ∧ w'.cell? ⟨P, 2, none⟩ = some (.bool true)) ∧ Below w.heap.size w w')
      (first | with_reducible assumption | exact HS.out _ (Below.refl _ _).drew | exact HB1.out)
      ((go_at_call 25; refine (refget_is _ _ _ hs _ _ _ HG).mono ?_; rintro e1 w1 ⟨rfl, rfl⟩; have HB1 := Lib.hid (HS.out _ (Below.refl w.heap.size w).drew)))
    go_wp2_with fail
    go_ret
    exact ⟨rfl, in_bad H1.out HB1.out.2⟩
  · rw [hw] at hN
    obtain ⟨rfl, rfl⟩ := Prod.mk.inj hN
    rw [hp] at x2
    have H1 : Hid (w.heap[P]? = some (.cells #[.string s, .int .i64 a, .bool false] 40 (0, 0))) := Lib.hid (by rw [← hp]; exact H1.out)
    clear hN hw hp
    have HS : Hid (∀ w', Below w.heap.size w w' → ((w'.cell? ⟨P, 0, none⟩ = some (.string s) ∧ w'.cell? ⟨P, 1, none⟩ = some (.int .i64 a) ∧ w'.cell? ⟨P, 2, none⟩ = some (.bool false)) ∧ Below w.heap.size w w')) := Lib.hid (fun w' hb => ⟨⟨row_of ((hb.block P HLT.out).trans H1.out) rfl, row_of ((hb.block P HLT.out).trans H1.out) rfl, row_of ((hb.block P HLT.out).trans H1.out) rfl⟩, hb⟩)
    by_cases he : e = 0
    · subst he
      have hm : (1099511627776 : Int) < (m : Int) := by
        by_cases q : 1099511627776 < m
        · omega
        · rw [if_neg q] at hne; exact absurd rfl hne
      clear hne
      go_enter Tryz.func8, Tryz.ntmps8
      go_wp2_with fail
      go_region_held3 (fun w' => (w'.cell? ⟨P, 0, none⟩ = some (.string s) ∧ w'.cell? ⟨P, 1, none⟩ = some (.int .i64 a) ∧ w'.cell? ⟨P, 2, none⟩ = some (.bool false)) ∧ Below w.heap.size w w')
        (first | with_reducible assumption | exact HS.out _ (Below.refl _ _).drew | exact HB1.out)
        ((go_at_call 25; refine (refget_is _ _ _ hs _ _ _ HG).mono ?_; rintro e1 w1 ⟨rfl, rfl⟩; have HB1 := Lib.hid (HS.out _ (Below.refl w.heap.size w).drew)))
      go_wp2_with fail
      go_ret
      exact ⟨rfl, in_bad H1.out HB1.out.2⟩
    · have hx : (e != 0) = true := by simpa using he
      clear hne he
      go_enter Tryz.func8, Tryz.ntmps8
      go_wp2_with fail
      go_region_held3 (fun w' => (w'.cell? ⟨P, 0, none⟩ = some (.string s) ∧ w'.cell? ⟨P, 1, none⟩ = some (.int .i64 a) ∧ w'.cell? ⟨P, 2, none⟩ = some (.bool false)) ∧ Below w.heap.size w w')
        (first | with_reducible assumption | exact HS.out _ (Below.refl _ _).drew | exact HB1.out)
        ((go_at_call 25; refine (refget_is _ _ _ hs _ _ _ HG).mono ?_; rintro e1 w1 ⟨rfl, rfl⟩; have HB1 := Lib.hid (HS.out _ (Below.refl w.heap.size w).drew)))
      go_wp2_with fail
      go_ret
      exact ⟨rfl, in_bad H1.out HB1.out.2⟩
  · rw [hw] at hN
    obtain ⟨hn, rfl⟩ := Prod.mk.inj hN
    have hm' : ¬ 1099511627776 < m := fun q => by rw [if_pos q] at he; exact absurd he (by decide)
    rw [if_neg hm'] at he
    subst he
    have hm : ¬ (1099511627776 : Int) < (m : Int) := by omega
    have c2 : IntKind.i64.wrap (m : Int) = (m : Int) := by rw [IntKind.wrap_i64]; omega
    have HNN : Hid (m = n) := Lib.hid hn
    rw [hp] at x2
    have H1 : Hid (w.heap[P]? = some (.cells #[.string s, .int .i64 a, .bool false] 40 (0, 0))) := Lib.hid (by rw [← hp]; exact H1.out)
    clear hN hw hp hn hm'
    have HS : Hid (∀ w', Below w.heap.size w w' → ((w'.cell? ⟨P, 0, none⟩ = some (.string s) ∧ w'.cell? ⟨P, 1, none⟩ = some (.int .i64 a) ∧ w'.cell? ⟨P, 2, none⟩ = some (.bool false)) ∧ Below w.heap.size w w')) := Lib.hid (fun w' hb => ⟨⟨row_of ((hb.block P HLT.out).trans H1.out) rfl, row_of ((hb.block P HLT.out).trans H1.out) rfl, row_of ((hb.block P HLT.out).trans H1.out) rfl⟩, hb⟩)
    go_enter Tryz.func8, Tryz.ntmps8
    go_wp2_with fail
    go_region_held3 (fun w' => (w'.cell? ⟨P, 0, none⟩ = some (.string s) ∧ w'.cell? ⟨P, 1, none⟩ = some (.int .i64 a) ∧ w'.cell? ⟨P, 2, none⟩ = some (.bool false)) ∧ Below w.heap.size w w')
      (first | with_reducible assumption | exact HS.out _ (Below.refl _ _).drew | exact HB1.out)
      ((go_at_call 25; refine (refget_is _ _ _ hs _ _ _ HG).mono ?_; rintro e1 w1 ⟨rfl, rfl⟩; have HB1 := Lib.hid (HS.out _ (Below.refl w.heap.size w).drew)))
    go_wp2_with fail
    go_ret
    exact ⟨congrArg Ending.returned (congrArg (Value.int .i64) (congrArg (Nat.cast : Nat → Int) HNN.out)), in_good H1.out HB1.out.2⟩

set_option maxRecDepth 100000 in
set_option maxHeartbeats 4000000 in
theorem in_txt (P : Nat) (s : ByteArray) (p q : Option Int) (t : ByteArray) (w : World) (hs : s.size ≤ 140737488355328) (HN : Hid (rTxt s p = (t, q))) (h : RdrI P s p w) :
    Calls Tryz.prog 26 #[.pointer (some ⟨P, 0, none⟩)] w fun x w' => x = .returned (.string t) ∧ RdrI P s q w' ∧ w.grownBy w' (some P) := by
  have HR := Lib.hid h
  obtain ⟨a, h1, h2⟩ := h
  have H1 := Lib.hid h1
  have HLT := Lib.hid (at_lt h1)
  have x0 : w.cell? ⟨P, 0, none⟩ = some (.string s) := row_of h1 rfl
  have x1 : w.cell? ⟨P, 1, none⟩ = some (.int .i64 a) := row_of h1 rfl
  have x2 : w.cell? ⟨P, 2, none⟩ = some (.bool p.isNone) := row_of h1 rfl
  have f1 := frozen_of_row _ _ 1 _ _ h1
  have f2 := frozen_of_row _ _ 2 _ _ h1
  obtain ⟨m, to, e, hg⟩ : ∃ m to e, V.text s a 16 = (m, to, e) := ⟨_, _, _, rfl⟩
  have hN := HN.out
  rw [step_txt h2 hg] at hN
  have HG := Lib.hid hg
  clear h1 h2 hg HN
  rcases step_ways p to e with ⟨rfl, hw⟩ | ⟨hp, hne, hw⟩ | ⟨hp, rfl, hw⟩
  · rw [hw] at hN
    obtain ⟨rfl, rfl⟩ := Prod.mk.inj hN
    clear hN hw
    have HS : Hid (∀ w', Below w.heap.size w w' → ((w'.cell? ⟨P, 0, none⟩ = some (.string s) ∧ w'.cell? ⟨P, 1, none⟩ = some (.int .i64 a) ∧ w'.cell? ⟨P, 2, none⟩ = some (.bool true)) ∧ Below w.heap.size w w')) := Lib.hid (fun w' hb => ⟨⟨row_of ((hb.block P HLT.out).trans H1.out) rfl, row_of ((hb.block P HLT.out).trans H1.out) rfl, row_of ((hb.block P HLT.out).trans H1.out) rfl⟩, hb⟩)
    have x2 : w.cell? ⟨P, 2, none⟩ = some (.bool true) := x2
    go_enter Tryz.func26, Tryz.ntmps26
    go_wp2_with fail
    go_region_held3 (fun w' => (w'.cell? ⟨P, 0, none⟩ = some (.string s) ∧ w'.cell? ⟨P, 1, none⟩ = some (.int .i64 a) ∧ w'.cell? ⟨P, 2, none⟩ = some (.bool true)) ∧ Below w.heap.size w w')
      (first | with_reducible assumption | exact HS.out _ (Below.refl _ _).drew | exact HB1.out)
      ((go_at_call 49; refine (rtextget_is _ _ _ _ (by omega) (by omega) _ _ _ HG).mono ?_; rintro e1 w1 ⟨rfl, hb1⟩; have HB1 := Lib.hid (HS.out _ (((Below.refl w.heap.size w).drew).trans hb1)); clear hb1))
    obtain ⟨⟨z0, z1, z2⟩, _⟩ := HB1.out
    have qz := (HB1.out.2.block P HLT.out).trans H1.out
    have g1 := frozen_of_row _ _ 1 _ _ qz
    have g2 := frozen_of_row _ _ 2 _ _ qz
    clear qz
    go_wp2_with fail
    go_ret
    exact ⟨rfl, in_bad H1.out HB1.out.2⟩
  · rw [hw] at hN
    obtain ⟨rfl, rfl⟩ := Prod.mk.inj hN
    rw [hp] at x2
    have H1 : Hid (w.heap[P]? = some (.cells #[.string s, .int .i64 a, .bool false] 40 (0, 0))) := Lib.hid (by rw [← hp]; exact H1.out)
    have hx : (e != 0) = true := by simpa using hne
    clear hN hw hp hne
    have HS : Hid (∀ w', Below w.heap.size w w' → ((w'.cell? ⟨P, 0, none⟩ = some (.string s) ∧ w'.cell? ⟨P, 1, none⟩ = some (.int .i64 a) ∧ w'.cell? ⟨P, 2, none⟩ = some (.bool false)) ∧ Below w.heap.size w w')) := Lib.hid (fun w' hb => ⟨⟨row_of ((hb.block P HLT.out).trans H1.out) rfl, row_of ((hb.block P HLT.out).trans H1.out) rfl, row_of ((hb.block P HLT.out).trans H1.out) rfl⟩, hb⟩)
    go_enter Tryz.func26, Tryz.ntmps26
    go_wp2_with fail
    go_region_held3 (fun w' => (w'.cell? ⟨P, 0, none⟩ = some (.string s) ∧ w'.cell? ⟨P, 1, none⟩ = some (.int .i64 a) ∧ w'.cell? ⟨P, 2, none⟩ = some (.bool false)) ∧ Below w.heap.size w w')
      (first | with_reducible assumption | exact HS.out _ (Below.refl _ _).drew | exact HB1.out)
      ((go_at_call 49; refine (rtextget_is _ _ _ _ (by omega) (by omega) _ _ _ HG).mono ?_; rintro e1 w1 ⟨rfl, hb1⟩; have HB1 := Lib.hid (HS.out _ (((Below.refl w.heap.size w).drew).trans hb1)); clear hb1))
    obtain ⟨⟨z0, z1, z2⟩, _⟩ := HB1.out
    have qz := (HB1.out.2.block P HLT.out).trans H1.out
    have g1 := frozen_of_row _ _ 1 _ _ qz
    have g2 := frozen_of_row _ _ 2 _ _ qz
    clear qz
    go_wp2_with fail
    go_ret
    exact ⟨rfl, in_bad H1.out HB1.out.2⟩
  · rw [hw] at hN
    obtain ⟨hn, rfl⟩ := Prod.mk.inj hN
    have HNN : Hid (m = t) := Lib.hid hn
    rw [hp] at x2
    have H1 : Hid (w.heap[P]? = some (.cells #[.string s, .int .i64 a, .bool false] 40 (0, 0))) := Lib.hid (by rw [← hp]; exact H1.out)
    clear hN hw hp hn
    have HS : Hid (∀ w', Below w.heap.size w w' → ((w'.cell? ⟨P, 0, none⟩ = some (.string s) ∧ w'.cell? ⟨P, 1, none⟩ = some (.int .i64 a) ∧ w'.cell? ⟨P, 2, none⟩ = some (.bool false)) ∧ Below w.heap.size w w')) := Lib.hid (fun w' hb => ⟨⟨row_of ((hb.block P HLT.out).trans H1.out) rfl, row_of ((hb.block P HLT.out).trans H1.out) rfl, row_of ((hb.block P HLT.out).trans H1.out) rfl⟩, hb⟩)
    go_enter Tryz.func26, Tryz.ntmps26
    go_wp2_with fail
    go_region_held3 (fun w' => (w'.cell? ⟨P, 0, none⟩ = some (.string s) ∧ w'.cell? ⟨P, 1, none⟩ = some (.int .i64 a) ∧ w'.cell? ⟨P, 2, none⟩ = some (.bool false)) ∧ Below w.heap.size w w')
      (first | with_reducible assumption | exact HS.out _ (Below.refl _ _).drew | exact HB1.out)
      ((go_at_call 49; refine (rtextget_is _ _ _ _ (by omega) (by omega) _ _ _ HG).mono ?_; rintro e1 w1 ⟨rfl, hb1⟩; have HB1 := Lib.hid (HS.out _ (((Below.refl w.heap.size w).drew).trans hb1)); clear hb1))
    obtain ⟨⟨z0, z1, z2⟩, _⟩ := HB1.out
    have qz := (HB1.out.2.block P HLT.out).trans H1.out
    have g1 := frozen_of_row _ _ 1 _ _ qz
    have g2 := frozen_of_row _ _ 2 _ _ qz
    clear qz
    go_wp2_with fail
    go_ret
    exact ⟨congrArg Ending.returned (congrArg Value.string HNN.out), in_good H1.out HB1.out.2⟩
end Go.Proofs.YtijofikpdhapoaaGreat.L4
