/-
  Contracts: Load.
-/
import Derived.Test.YtcpfihagcmadcaaOfList
namespace Go.Proofs.Ytcpfihagcmadcaa.L12
open Go.RowKit
open Go.Maps
open L3 L4

/-- what Load leaves -/
def LoadP (w : World) (l : List Mr) (x : Int) (e : Ending) (w' : World) : Prop :=
  Below w.heap.size w w' ∧ ((x ≠ 0 ∧ e = .returned (.tuple #[.pointer none, .int .i64 x])) ∨ (x = 0 ∧ Good l ∧ ∃ g, e = .returned (.tuple #[.pointer (some ⟨g, 0, none⟩), .int .i64 0]) ∧ TabM w.heap.size w' g l.length l))
/-- what lies between two rounds -/
structure Lod (w wr : World) (g b k : Nat) (l : List Mr) : Prop where
  ok : OkTo l k
  tab : Tab wr g b k (l.take k)
  hg : w.heap.size ≤ g
  hb : w.heap.size ≤ b
  bel : Below w.heap.size w wr
theorem load_last {l : List Mr} {k : Nat} {m : Mr} (h : OkTo l k) (hx : l[k]? = some m) (hr : 0 < k → ∀ y, l[k - 1]? = some y → befR y m = true) (hm : mayR m = true) : ∀ x, x ∈ l.take (k + 1) ↔ x = m ∨ (x ∈ l.take k ∧ ¬ SameR x m) := fun x => by
  have hk : k < l.length := (List.getElem?_eq_some_iff.1 hx).1
  have hG := (h.next (fun x hx' => by rw [hx] at hx'; injection hx' with hx'; subst hx'; exact ⟨hm, hr⟩)).good (k := k + 1) (by omega)
  rw [List.take_add_one, hx] at hG ⊢
  have hp := (List.pairwise_append.1 hG.sorted).2.2
  rw [List.mem_append]
  constructor
  · rintro (e | e)
    · exact .inr ⟨e, bef_off (hp x e m (by simp))⟩
    · exact .inl (by simpa using e)
  · rintro (e | ⟨e, _⟩)
    · exact .inr (by simp [e])
    · exact .inl e
theorem Lod.next {w wr w1 w2 : World} {g b k : Nat} {l : List Mr} {m : Mr} (h : Lod w wr g b k l) (hb1 : Below wr.heap.size wr w1) (hc : Tab w2 g b (k + 1) (l.take (k + 1))) (ho : Only [b] w1 w2) (hx : l[k]? = some m) (hm : mayR m = true) (hr : 0 < k → ∀ y, l[k - 1]? = some y → befR y m = true) : Lod w w2 g b (k + 1) l := by
  have h01 : Below w.heap.size w w1 := h.bel.trans (hb1.mono h.bel.size)
  exact ⟨h.ok.next (fun x hx' => by rw [hx] at hx'; injection hx' with hx'; subst hx'; exact ⟨hm, hr⟩), hc, h.hg, h.hb, h01.trans (ho.below h01.size (fun k hk => by rw [show k = b by simpa using hk]; exact h.hb))⟩
theorem load_no {l : List Mr} {x : Int} {k : Nat} (h : loadE l x) (hk : k < l.length) (hn : ¬ okAt l k) : x = 1 := by
  rcases h with ⟨_, h⟩ | ⟨h, _⟩
  · exact absurd (h k hk) hn
  · exact h
section
variable {W w1 w2 : World} {a0 a1 a2 a3 b0 b1 b2 b3 : Addr} {v0 v1 v2 v3 u0 u1 u2 u3 : Value}
theorem keep4 (h : (w1.cell? a0 = some v0 ∧ w1.cell? a1 = some v1 ∧ w1.cell? a2 = some v2 ∧ w1.cell? a3 = some v3) ∧ Below W.heap.size W w1) (hb : Below w1.heap.size w1 w2) :
    (w2.cell? a0 = some v0 ∧ w2.cell? a1 = some v1 ∧ w2.cell? a2 = some v2 ∧ w2.cell? a3 = some v3) ∧ Below W.heap.size W w2 :=
  ⟨⟨cell_at hb h.1.1, cell_at hb h.1.2.1, cell_at hb h.1.2.2.1, cell_at hb h.1.2.2.2⟩, h.2.trans (hb.mono h.2.size)⟩
theorem keep8 (h : ((w1.cell? a0 = some v0 ∧ w1.cell? a1 = some v1 ∧ w1.cell? a2 = some v2 ∧ w1.cell? a3 = some v3) ∧ (w1.cell? b0 = some u0 ∧ w1.cell? b1 = some u1 ∧ w1.cell? b2 = some u2 ∧ w1.cell? b3 = some u3)) ∧ Below W.heap.size W w1) (hb : Below w1.heap.size w1 w2) :
    ((w2.cell? a0 = some v0 ∧ w2.cell? a1 = some v1 ∧ w2.cell? a2 = some v2 ∧ w2.cell? a3 = some v3) ∧ (w2.cell? b0 = some u0 ∧ w2.cell? b1 = some u1 ∧ w2.cell? b2 = some u2 ∧ w2.cell? b3 = some u3)) ∧ Below W.heap.size W w2 :=
  ⟨⟨(keep4 ⟨h.1.1, h.2⟩ hb).1, (keep4 ⟨h.1.2, h.2⟩ hb).1⟩, h.2.trans (hb.mono h.2.size)⟩
end
/-- marks that are handed in -/
structure IsM (w : World) (A : Option Addr) (n : Nat) (l : List Mr) : Prop where
  rd : ReadsM w w.heap.size A l
  len : l.length = n
  n1 : n ≤ 1000000
  sz : ∀ m ∈ l, m.g.size ≤ 281474976710656 ∧ m.t.size ≤ 281474976710656 ∧ (Lit.int .i64 m.p).wf = true ∧ (Lit.int .i64 m.o).wf = true
theorem IsM.below {w w' : World} {A : Option Addr} {n : Nat} {l : List Mr} (h : IsM w A n l) (hb : Below w.heap.size w w') : IsM w' A n l := ⟨(h.rd.below hb).mono hb.size, h.len, h.n1, h.sz⟩

set_option maxRecDepth 100000 in
set_option maxHeartbeats 8000000 in
theorem load_is (w : World) (A : Option Addr) (n cap : Nat) (l : List Mr) (x : Int) (hE : Hid (IsM w A n l)) (HX : Hid (loadE l x)) :
    Calls Try.prog 21 #[.slice A n cap] w (LoadP w l x) := by
  have hn1 := hE.out.n1
  go_enter Try.func21, Try.ntmps21
  go_wp2_with (go_at_call 5; refine (new_is _).mono ?_; rintro e w1 ⟨g, rfl, ⟨b, hc1, hg1, hb1⟩, hbel1⟩)
  have HL0 : Hid (Lod w w1 g b 0 l) := Lib.hid ⟨fun i hi => absurd hi (by omega), by rw [List.take_zero]; exact hc1, hg1, hb1, hbel1⟩
  clear hc1 hg1 hb1 hbel1
  go_loopw [10] (fun i wr => ∃ k : Nat, k ≤ n ∧ i = .int .i64 k ∧ Hid (Lod w wr g b k l)) (fun i _ => n - (intOf i).toNat)
  case atStart => exact ⟨0, Nat.zero_le _, rfl, HL0⟩
  case round =>
    obtain ⟨k, hk, rfl, HL⟩ := hrel
    by_cases hlt : k < n
    · obtain ⟨ga, oo, rfl, hga, hcells⟩ := hE.out.rd (by rw [hE.out.len]; omega)
      obtain ⟨⟨gr, t, p, o⟩, hst⟩ : ∃ st, l[k]? = some st := ⟨l[k]'(by rw [hE.out.len]; exact hlt), List.getElem?_eq_getElem _⟩
      obtain ⟨c0, c1, c2, c3⟩ := hcells k _ hst
      have d0 := cell_at HL.out.bel c0
      have d1 := cell_at HL.out.bel c1
      have d2 := cell_at HL.out.bel c2
      have d3 := cell_at HL.out.bel c3
      dsimp only at d0 d1 d2 d3
      obtain ⟨z0, z1, z2, z3⟩ := hE.out.sz _ (List.mem_of_getElem? hst)
      dsimp only at z0 z1 z2 z3
      have HP := Lib.hid z2
      have HO := Lib.hid z3
      have HZ0 : Hid (gr.size ≤ maxLen) := Lib.hid (by unfold maxLen; omega)
      have HZ1 : Hid (t.size ≤ maxLen) := Lib.hid (by unfold maxLen; omega)
      have k0 : (0 : Int) ≤ (k : Int) := by omega
      have kl : (k : Int) < (n : Int) := by omega
      have hk1 : k ≤ 1000000 := by omega
      have HST := Lib.hid hst
      have HKN : Hid (k < l.length) := Lib.hid (by rw [hE.out.len]; exact hlt)
      have HGT := Lib.hid hcells
      have ltA : ga < wr.heap.size := Nat.lt_of_lt_of_le hga HL.out.bel.size
      obtain ⟨b0, b1, b2, b3⟩ := row4 (box_row wr gr t p o)
      have hbW := one_box' (w := wr) (.cells #[.string gr, .string t, .int .i64 p, .int .i64 o] 32)
      obtain ⟨H, hH⟩ : ∃ H, wr.heap.size = H := ⟨_, rfl⟩
      obtain ⟨W, hW⟩ : ∃ W, wr.alloc (.cells #[.string gr, .string t, .int .i64 p, .int .i64 o] 32) = W := ⟨_, rfl⟩
      rw [hW] at b0 b1 b2 b3 hbW
      rw [hH] at b0 b1 b2 b3
      have HWW := Lib.hid hbW
      have HBW : Hid (Below w.heap.size w W) := Lib.hid (HL.out.bel.trans (hbW.mono HL.out.bel.size))
      have HFI : Hid (Fits (l.take k)) := Lib.hid (HL.out.ok.good (Nat.le_of_lt HKN.out)).fits
      clear hst hcells c0 c1 c2 c3 z2 z3
      obtain ⟨v, hv⟩ : ∃ v, mayR ⟨gr, t, p, o⟩ = v := ⟨_, rfl⟩
      have HV := Lib.hid hv
      have FIT : ∀ W', Calls Try.prog 23 #[.agg #[.string gr, .string t, .int .i64 p, .int .i64 o]] W' fun e w' => e = .returned (.bool v) ∧ Below W'.heap.size W' w' := fun W' => fits_is gr t p o v W' HZ0 HZ1 HV
      go_wp2_with fail
      clear d0 d1 d2 d3 hbW hW
      cases v with
      | false =>
        have HX1 : Hid (x = 1) := Lib.hid (load_no HX.out HKN.out (fun q => by have := (q _ HST.out).1; rw [hv] at this; cases this))
        clear hv
        have BB := Lib.hid (And.intro b0 (And.intro b1 (And.intro b2 b3)))
        clear b0 b1 b2 b3
        refine wp_region_held_drew (S := fun w' => (w'.cell? ⟨H, 0, none⟩ = some (.string gr) ∧ w'.cell? ⟨H, 1, none⟩ = some (.string t) ∧ w'.cell? ⟨H, 2, none⟩ = some (.int .i64 p) ∧ w'.cell? ⟨H, 3, none⟩ = some (.int .i64 o)) ∧ Below W.heap.size W w') (by kernel_rfl) (keep4 ⟨BB.out, Below.refl _ _⟩ (Below.refl _ _).drew) (fun hHeld => ?_)
        refine wpAnyH_take (i := 0) (oi := ?o1) (v := ?v1) ?a1 (by kernel_rfl) (by kernel_rfl) (by kernel_rfl) ?q1 (Or.inl ⟨?g1, ?y1⟩) (by assumption) ?r1; (case' a1 => (simp only [List.getElem?_toArray, List.getElem?_cons_zero]; rfl)); (case' q1 => (exact fun _ _ _ h => h)); (case' g1 => rfl); (case' y1 => (intro w hSw; (try dsimp only at hSw); go_simp; try with_reducible rfl)); (case' r1 => (try simp only [Act.put, List.setIfInBounds_toArray, List.set_cons_zero, List.set_cons_succ]))
        refine wpAnyH_ready (rs := [1]) (by kernel_rfl) (by simp) ?_
        refine AllReadyH.cons (o := ?o2) ?a2 (fun K hK => ?s2) ?m2; (case' a2 => (simp only [List.getElem?_toArray, List.getElem?_cons_zero, List.getElem?_cons_succ]; rfl))
        case s2 =>
          go_simp
          go_at_call 23
          refine (FIT _).mono ?_
          rintro e wn ⟨rfl, hbn⟩
          go_wp2_with fail
          refine hK.out _ _ (keep4 hHeld hbn) (fun hHeld => ?_)
          clear hK K
          (try simp only [Act.put, List.setIfInBounds_toArray, List.set_cons_zero, List.set_cons_succ])
          refine wpAnyH_take (i := 2) (oi := ?o3) (v := ?v3) ?a3 (by kernel_rfl) (by kernel_rfl) (by kernel_rfl) ?q3 (Or.inl ⟨?g3, ?y3⟩) (by assumption) ?r3; (case' a3 => (simp only [List.getElem?_toArray, List.getElem?_cons_zero, List.getElem?_cons_succ]; rfl)); (case' q3 => (exact fun _ _ _ h => h)); (case' g3 => rfl); (case' y3 => (intro w hSw; (try dsimp only at hSw); go_simp; try with_reducible rfl)); (case' r3 => (try simp only [Act.put, List.setIfInBounds_toArray, List.set_cons_zero, List.set_cons_succ]))
          refine wpAnyH_take (i := 3) (oi := ?o4) (v := ?v4) ?a4 (by kernel_rfl) (by kernel_rfl) (by kernel_rfl) ?q4 (Or.inl ⟨?g4, ?y4⟩) (by assumption) ?r4; (case' a4 => (simp only [List.getElem?_toArray, List.getElem?_cons_zero, List.getElem?_cons_succ]; rfl)); (case' q4 => (exact fun _ _ _ h => h)); (case' g4 => rfl); (case' y4 => (intro w hSw; (try dsimp only at hSw); go_simp; try with_reducible rfl)); (case' r4 => (try simp only [Act.put, List.setIfInBounds_toArray, List.set_cons_zero, List.set_cons_succ]))
          refine wpAnyH_take (i := 4) (oi := ?o5) (v := undef) ?a5 (by kernel_rfl) (by kernel_rfl) (by kernel_rfl) ?q5 (Or.inr ⟨?g5, rfl⟩) (by assumption) ?r5; (case' a5 => (simp only [List.getElem?_toArray, List.getElem?_cons_zero, List.getElem?_cons_succ]; rfl)); (case' q5 => (exact fun _ _ _ h => h)); (case' g5 => rfl); (case' r5 => (try simp only [Act.put, List.setIfInBounds_toArray, List.set_cons_zero, List.set_cons_succ]))
          refine wpAnyH_take (i := 5) (oi := ?o6) (v := undef) ?a6 (by kernel_rfl) (by kernel_rfl) (by kernel_rfl) ?q6 (Or.inr ⟨?g6, rfl⟩) (by assumption) ?r6; (case' a6 => (simp only [List.getElem?_toArray, List.getElem?_cons_zero, List.getElem?_cons_succ]; rfl)); (case' q6 => (exact fun _ _ _ h => h)); (case' g6 => rfl); (case' r6 => (try simp only [Act.put, List.setIfInBounds_toArray, List.set_cons_zero, List.set_cons_succ]))
          refine wpAnyH_take (i := 6) (oi := ?o7) (v := undef) ?a7 (by kernel_rfl) (by kernel_rfl) (by kernel_rfl) ?q7 (Or.inr ⟨?g7, rfl⟩) (by assumption) ?r7; (case' a7 => (simp only [List.getElem?_toArray, List.getElem?_cons_zero, List.getElem?_cons_succ]; rfl)); (case' q7 => (exact fun _ _ _ h => h)); (case' g7 => rfl); (case' r7 => (try simp only [Act.put, List.setIfInBounds_toArray, List.set_cons_zero, List.set_cons_succ]))
          refine wpAnyH_take (i := 7) (oi := ?o8) (v := undef) ?a8 (by kernel_rfl) (by kernel_rfl) (by kernel_rfl) ?q8 (Or.inr ⟨?g8, rfl⟩) (by assumption) ?r8; (case' a8 => (simp only [List.getElem?_toArray, List.getElem?_cons_zero, List.getElem?_cons_succ]; rfl)); (case' q8 => (exact fun _ _ _ h => h)); (case' g8 => rfl); (case' r8 => (try simp only [Act.put, List.setIfInBounds_toArray, List.set_cons_zero, List.set_cons_succ]))
          refine wpAnyH_take (i := 8) (oi := ?o9) (v := undef) ?a9 (by kernel_rfl) (by kernel_rfl) (by kernel_rfl) ?q9 (Or.inr ⟨?g9, rfl⟩) (by assumption) ?r9; (case' a9 => (simp only [List.getElem?_toArray, List.getElem?_cons_zero, List.getElem?_cons_succ]; rfl)); (case' q9 => (exact fun _ _ _ h => h)); (case' g9 => rfl); (case' r9 => (try simp only [Act.put, List.setIfInBounds_toArray, List.set_cons_zero, List.set_cons_succ]))
          refine wpAnyH_take (i := 9) (oi := ?o10) (v := undef) ?a10 (by kernel_rfl) (by kernel_rfl) (by kernel_rfl) ?q10 (Or.inr ⟨?g10, rfl⟩) (by assumption) ?r10; (case' a10 => (simp only [List.getElem?_toArray, List.getElem?_cons_zero, List.getElem?_cons_succ]; rfl)); (case' q10 => (exact fun _ _ _ h => h)); (case' g10 => rfl); (case' r10 => (try simp only [Act.put, List.setIfInBounds_toArray, List.set_cons_zero, List.set_cons_succ]))
          refine wpAnyH_take (i := 10) (oi := ?o11) (v := undef) ?a11 (by kernel_rfl) (by kernel_rfl) (by kernel_rfl) ?q11 (Or.inr ⟨?g11, rfl⟩) (by assumption) ?r11; (case' a11 => (simp only [List.getElem?_toArray, List.getElem?_cons_zero, List.getElem?_cons_succ]; rfl)); (case' q11 => (exact fun _ _ _ h => h)); (case' g11 => rfl); (case' r11 => (try simp only [Act.put, List.setIfInBounds_toArray, List.set_cons_zero, List.set_cons_succ]))
          refine wpAnyH_take (i := 11) (oi := ?o12) (v := undef) ?a12 (by kernel_rfl) (by kernel_rfl) (by kernel_rfl) ?q12 (Or.inr ⟨?g12, rfl⟩) (by assumption) ?r12; (case' a12 => (simp only [List.getElem?_toArray, List.getElem?_cons_zero, List.getElem?_cons_succ]; rfl)); (case' q12 => (exact fun _ _ _ h => h)); (case' g12 => rfl); (case' r12 => (try simp only [Act.put, List.setIfInBounds_toArray, List.set_cons_zero, List.set_cons_succ]))
          refine wpAnyH_take (i := 12) (oi := ?o13) (v := undef) ?a13 (by kernel_rfl) (by kernel_rfl) (by kernel_rfl) ?q13 (Or.inr ⟨?g13, rfl⟩) (by assumption) ?r13; (case' a13 => (simp only [List.getElem?_toArray, List.getElem?_cons_zero, List.getElem?_cons_succ]; rfl)); (case' q13 => (exact fun _ _ _ h => h)); (case' g13 => rfl); (case' r13 => (try simp only [Act.put, List.setIfInBounds_toArray, List.set_cons_zero, List.set_cons_succ]))
          refine wpAnyH_take (i := 13) (oi := ?o14) (v := undef) ?a14 (by kernel_rfl) (by kernel_rfl) (by kernel_rfl) ?q14 (Or.inr ⟨?g14, rfl⟩) (by assumption) ?r14; (case' a14 => (simp only [List.getElem?_toArray, List.getElem?_cons_zero, List.getElem?_cons_succ]; rfl)); (case' q14 => (exact fun _ _ _ h => h)); (case' g14 => rfl); (case' r14 => (try simp only [Act.put, List.setIfInBounds_toArray, List.set_cons_zero, List.set_cons_succ]))
          refine wpAnyH_take (i := 14) (oi := ?o15) (v := undef) ?a15 (by kernel_rfl) (by kernel_rfl) (by kernel_rfl) ?q15 (Or.inr ⟨?g15, rfl⟩) (by assumption) ?r15; (case' a15 => (simp only [List.getElem?_toArray, List.getElem?_cons_zero, List.getElem?_cons_succ]; rfl)); (case' q15 => (exact fun _ _ _ h => h)); (case' g15 => rfl); (case' r15 => (try simp only [Act.put, List.setIfInBounds_toArray, List.set_cons_zero, List.set_cons_succ]))
          refine wpAnyH_take (i := 15) (oi := ?o16) (v := undef) ?a16 (by kernel_rfl) (by kernel_rfl) (by kernel_rfl) ?q16 (Or.inr ⟨?g16, rfl⟩) (by assumption) ?r16; (case' a16 => (simp only [List.getElem?_toArray, List.getElem?_cons_zero, List.getElem?_cons_succ]; rfl)); (case' q16 => (exact fun _ _ _ h => h)); (case' g16 => rfl); (case' r16 => (try simp only [Act.put, List.setIfInBounds_toArray, List.set_cons_zero, List.set_cons_succ]))
          refine wpAnyH_take (i := 16) (oi := ?o17) (v := ?v17) ?a17 (by kernel_rfl) (by kernel_rfl) (by kernel_rfl) ?q17 (Or.inl ⟨?g17, ?y17⟩) (by assumption) ?r17; (case' a17 => (simp only [List.getElem?_toArray, List.getElem?_cons_zero, List.getElem?_cons_succ]; rfl)); (case' q17 => (exact fun _ _ _ h => h)); (case' g17 => rfl); (case' y17 => (intro w hSw; (try dsimp only at hSw); go_simp; try with_reducible rfl)); (case' r17 => (try simp only [Act.put, List.setIfInBounds_toArray, List.set_cons_zero, List.set_cons_succ]))
          refine wpAnyH_done (by kernel_rfl) ?_ _
          have HWN := Lib.hid hHeld.2
          clear hHeld
          go_wp2_with fail
          go_ret2
          exact ⟨HBW.out.trans (HWN.out.mono HBW.out.size), .inl ⟨by rw [HX1.out]; decide, by rw [HX1.out]; rfl⟩⟩
        exact AllReadyH.nil
      | true =>
        have HMAY := Lib.hid hv
        clear hv
        have BB := Lib.hid (And.intro b0 (And.intro b1 (And.intro b2 b3)))
        clear b0 b1 b2 b3
        by_cases hk0 : k = 0
        · have h0 : decide ((0 : Int) < (k : Int)) = false := decide_eq_false (by omega)
          have HR : Hid (0 < k → ∀ y, l[k - 1]? = some y → befR y ⟨gr, t, p, o⟩ = true) := Lib.hid (fun q => absurd q (by omega))
          have h0n : decide (0 < k) = false := decide_eq_false (by omega)
          have h0' : ¬ (0 : Int) < (k : Int) := by omega
          have h0n' : ¬ 0 < k := by omega
          have HMEM := Lib.hid (load_last HL.out.ok HST.out HR.out HMAY.out)
          clear hk0
          refine wp_region_held_drew (S := fun w' => (w'.cell? ⟨H, 0, none⟩ = some (.string gr) ∧ w'.cell? ⟨H, 1, none⟩ = some (.string t) ∧ w'.cell? ⟨H, 2, none⟩ = some (.int .i64 p) ∧ w'.cell? ⟨H, 3, none⟩ = some (.int .i64 o)) ∧ Below W.heap.size W w') (by kernel_rfl) (keep4 ⟨BB.out, Below.refl _ _⟩ (Below.refl _ _).drew) (fun hHeld => ?_)
          refine wpAnyH_take (i := 0) (oi := ?o18) (v := ?v18) ?a18 (by kernel_rfl) (by kernel_rfl) (by kernel_rfl) ?q18 (Or.inl ⟨?g18, ?y18⟩) (by assumption) ?r18; (case' a18 => (simp only [List.getElem?_toArray, List.getElem?_cons_zero]; rfl)); (case' q18 => (exact fun _ _ _ h => h)); (case' g18 => rfl); (case' y18 => (intro w hSw; (try dsimp only at hSw); go_simp; try with_reducible rfl)); (case' r18 => (try simp only [Act.put, List.setIfInBounds_toArray, List.set_cons_zero, List.set_cons_succ]))
          refine wpAnyH_ready (rs := [1]) (by kernel_rfl) (by simp) ?_
          refine AllReadyH.cons (o := ?o19) ?a19 (fun K hK => ?s19) ?m19; (case' a19 => (simp only [List.getElem?_toArray, List.getElem?_cons_zero, List.getElem?_cons_succ]; rfl))
          case s19 =>
            go_simp
            go_at_call 23
            refine (FIT _).mono ?_
            rintro e wn ⟨rfl, hbn⟩
            go_wp2_with fail
            refine hK.out _ _ (keep4 hHeld hbn) (fun hHeld => ?_)
            clear hK K
            (try simp only [Act.put, List.setIfInBounds_toArray, List.set_cons_zero, List.set_cons_succ])
            refine wpAnyH_take (i := 2) (oi := ?o20) (v := ?v20) ?a20 (by kernel_rfl) (by kernel_rfl) (by kernel_rfl) ?q20 (Or.inl ⟨?g20, ?y20⟩) (by assumption) ?r20; (case' a20 => (simp only [List.getElem?_toArray, List.getElem?_cons_zero, List.getElem?_cons_succ]; rfl)); (case' q20 => (exact fun _ _ _ h => h)); (case' g20 => rfl); (case' y20 => (intro w hSw; (try dsimp only at hSw); go_simp; try with_reducible rfl)); (case' r20 => (try simp only [Act.put, List.setIfInBounds_toArray, List.set_cons_zero, List.set_cons_succ]))
            refine wpAnyH_take (i := 3) (oi := ?o21) (v := ?v21) ?a21 (by kernel_rfl) (by kernel_rfl) (by kernel_rfl) ?q21 (Or.inl ⟨?g21, ?y21⟩) (by assumption) ?r21; (case' a21 => (simp only [List.getElem?_toArray, List.getElem?_cons_zero, List.getElem?_cons_succ]; rfl)); (case' q21 => (exact fun _ _ _ h => h)); (case' g21 => rfl); (case' y21 => (intro w hSw; (try dsimp only at hSw); go_simp; try with_reducible rfl)); (case' r21 => (try simp only [Act.put, List.setIfInBounds_toArray, List.set_cons_zero, List.set_cons_succ]))
            refine wpAnyH_take (i := 4) (oi := ?o22) (v := ?v22) ?a22 (by kernel_rfl) (by kernel_rfl) (by kernel_rfl) ?q22 (Or.inl ⟨?g22, ?y22⟩) (by assumption) ?r22; (case' a22 => (simp only [List.getElem?_toArray, List.getElem?_cons_zero, List.getElem?_cons_succ]; rfl)); (case' q22 => (exact fun _ _ _ h => h)); (case' g22 => rfl); (case' y22 => (intro w hSw; (try dsimp only at hSw); go_simp; try with_reducible rfl)); (case' r22 => (try simp only [Act.put, List.setIfInBounds_toArray, List.set_cons_zero, List.set_cons_succ]))
            refine wpAnyH_take (i := 5) (oi := ?o23) (v := ?v23) ?a23 (by kernel_rfl) (by kernel_rfl) (by kernel_rfl) ?q23 (Or.inl ⟨?g23, ?y23⟩) (by assumption) ?r23; (case' a23 => (simp only [List.getElem?_toArray, List.getElem?_cons_zero, List.getElem?_cons_succ]; rfl)); (case' q23 => (exact fun _ _ _ h => h)); (case' g23 => rfl); (case' y23 => (intro w hSw; (try dsimp only at hSw); go_simp; try with_reducible rfl)); (case' r23 => (try simp only [Act.put, List.setIfInBounds_toArray, List.set_cons_zero, List.set_cons_succ]))
            refine wpAnyH_take (i := 6) (oi := ?o24) (v := ?v24) ?a24 (by kernel_rfl) (by kernel_rfl) (by kernel_rfl) ?q24 (Or.inl ⟨?g24, ?y24⟩) (by assumption) ?r24; (case' a24 => (simp only [List.getElem?_toArray, List.getElem?_cons_zero, List.getElem?_cons_succ]; rfl)); (case' q24 => (exact fun _ _ _ h => h)); (case' g24 => rfl); (case' y24 => (intro w hSw; (try dsimp only at hSw); go_simp; try with_reducible rfl)); (case' r24 => (try simp only [Act.put, List.setIfInBounds_toArray, List.set_cons_zero, List.set_cons_succ]))
            refine wpAnyH_take (i := 7) (oi := ?o25) (v := undef) ?a25 (by kernel_rfl) (by kernel_rfl) (by kernel_rfl) ?q25 (Or.inr ⟨?g25, rfl⟩) (by assumption) ?r25; (case' a25 => (simp only [List.getElem?_toArray, List.getElem?_cons_zero, List.getElem?_cons_succ]; rfl)); (case' q25 => (exact fun _ _ _ h => h)); (case' g25 => rfl); (case' r25 => (try simp only [Act.put, List.setIfInBounds_toArray, List.set_cons_zero, List.set_cons_succ]))
            refine wpAnyH_take (i := 8) (oi := ?o26) (v := undef) ?a26 (by kernel_rfl) (by kernel_rfl) (by kernel_rfl) ?q26 (Or.inr ⟨?g26, rfl⟩) (by assumption) ?r26; (case' a26 => (simp only [List.getElem?_toArray, List.getElem?_cons_zero, List.getElem?_cons_succ]; rfl)); (case' q26 => (exact fun _ _ _ h => h)); (case' g26 => rfl); (case' r26 => (try simp only [Act.put, List.setIfInBounds_toArray, List.set_cons_zero, List.set_cons_succ]))
            refine wpAnyH_take (i := 9) (oi := ?o27) (v := undef) ?a27 (by kernel_rfl) (by kernel_rfl) (by kernel_rfl) ?q27 (Or.inr ⟨?g27, rfl⟩) (by assumption) ?r27; (case' a27 => (simp only [List.getElem?_toArray, List.getElem?_cons_zero, List.getElem?_cons_succ]; rfl)); (case' q27 => (exact fun _ _ _ h => h)); (case' g27 => rfl); (case' r27 => (try simp only [Act.put, List.setIfInBounds_toArray, List.set_cons_zero, List.set_cons_succ]))
            refine wpAnyH_take (i := 10) (oi := ?o28) (v := undef) ?a28 (by kernel_rfl) (by kernel_rfl) (by kernel_rfl) ?q28 (Or.inr ⟨?g28, rfl⟩) (by assumption) ?r28; (case' a28 => (simp only [List.getElem?_toArray, List.getElem?_cons_zero, List.getElem?_cons_succ]; rfl)); (case' q28 => (exact fun _ _ _ h => h)); (case' g28 => rfl); (case' r28 => (try simp only [Act.put, List.setIfInBounds_toArray, List.set_cons_zero, List.set_cons_succ]))
            refine wpAnyH_take (i := 11) (oi := ?o29) (v := undef) ?a29 (by kernel_rfl) (by kernel_rfl) (by kernel_rfl) ?q29 (Or.inr ⟨?g29, rfl⟩) (by assumption) ?r29; (case' a29 => (simp only [List.getElem?_toArray, List.getElem?_cons_zero, List.getElem?_cons_succ]; rfl)); (case' q29 => (exact fun _ _ _ h => h)); (case' g29 => rfl); (case' r29 => (try simp only [Act.put, List.setIfInBounds_toArray, List.set_cons_zero, List.set_cons_succ]))
            refine wpAnyH_take (i := 12) (oi := ?o30) (v := undef) ?a30 (by kernel_rfl) (by kernel_rfl) (by kernel_rfl) ?q30 (Or.inr ⟨?g30, rfl⟩) (by assumption) ?r30; (case' a30 => (simp only [List.getElem?_toArray, List.getElem?_cons_zero, List.getElem?_cons_succ]; rfl)); (case' q30 => (exact fun _ _ _ h => h)); (case' g30 => rfl); (case' r30 => (try simp only [Act.put, List.setIfInBounds_toArray, List.set_cons_zero, List.set_cons_succ]))
            refine wpAnyH_take (i := 13) (oi := ?o31) (v := undef) ?a31 (by kernel_rfl) (by kernel_rfl) (by kernel_rfl) ?q31 (Or.inr ⟨?g31, rfl⟩) (by assumption) ?r31; (case' a31 => (simp only [List.getElem?_toArray, List.getElem?_cons_zero, List.getElem?_cons_succ]; rfl)); (case' q31 => (exact fun _ _ _ h => h)); (case' g31 => rfl); (case' r31 => (try simp only [Act.put, List.setIfInBounds_toArray, List.set_cons_zero, List.set_cons_succ]))
            refine wpAnyH_take (i := 14) (oi := ?o32) (v := undef) ?a32 (by kernel_rfl) (by kernel_rfl) (by kernel_rfl) ?q32 (Or.inr ⟨?g32, rfl⟩) (by assumption) ?r32; (case' a32 => (simp only [List.getElem?_toArray, List.getElem?_cons_zero, List.getElem?_cons_succ]; rfl)); (case' q32 => (exact fun _ _ _ h => h)); (case' g32 => rfl); (case' r32 => (try simp only [Act.put, List.setIfInBounds_toArray, List.set_cons_zero, List.set_cons_succ]))
            refine wpAnyH_take (i := 15) (oi := ?o33) (v := ?v33) ?a33 (by kernel_rfl) (by kernel_rfl) (by kernel_rfl) ?q33 (Or.inl ⟨?g33, ?y33⟩) (by assumption) ?r33; (case' a33 => (simp only [List.getElem?_toArray, List.getElem?_cons_zero, List.getElem?_cons_succ]; rfl)); (case' q33 => (exact fun _ _ _ h => h)); (case' g33 => rfl); (case' y33 => (intro w hSw; (try dsimp only at hSw); go_simp; try with_reducible rfl)); (case' r33 => (try simp only [Act.put, List.setIfInBounds_toArray, List.set_cons_zero, List.set_cons_succ]))
            refine wpAnyH_take (i := 16) (oi := ?o34) (v := ?v34) ?a34 (by kernel_rfl) (by kernel_rfl) (by kernel_rfl) ?q34 (Or.inl ⟨?g34, ?y34⟩) (by assumption) ?r34; (case' a34 => (simp only [List.getElem?_toArray, List.getElem?_cons_zero, List.getElem?_cons_succ]; rfl)); (case' q34 => (exact fun _ _ _ h => h)); (case' g34 => rfl); (case' y34 => (intro w hSw; (try dsimp only at hSw); go_simp; try with_reducible rfl)); (case' r34 => (try simp only [Act.put, List.setIfInBounds_toArray, List.set_cons_zero, List.set_cons_succ]))
            refine wpAnyH_done (by kernel_rfl) ?_ _
            have HWN := Lib.hid hHeld.2
            obtain ⟨y0, y1, y2, y3⟩ := hHeld.1
            clear hHeld
            have HT2 := Lib.hid (HL.out.tab.below (HWW.out.trans (HWN.out.mono HWW.out.size)))
            go_wp2_with (go_at_call 24; refine (keep_is gr t p o HT2 hk1 z0 z1 HP HO HFI HMEM).mono ?_; rintro e w3 ⟨rfl, ht3, ho3⟩; have HL3 := Lib.hid (HL.out.next (HWW.out.trans (HWN.out.mono HWW.out.size)) ht3 ho3 HST.out HMAY.out HR.out); clear ht3 ho3)
            go_roundw
            case rel => exact ⟨k + 1, by omega, by go_num, HL3⟩
            case measure => simp [intOf]; omega
          exact AllReadyH.nil
        · obtain ⟨j, hj⟩ : ∃ j, k = j + 1 := ⟨k - 1, by omega⟩
          obtain ⟨⟨g2, t2, p2, o2⟩, hpr⟩ : ∃ pr, l[j]? = some pr := ⟨l[j]'(by have := HKN.out; omega), List.getElem?_eq_getElem _⟩
          obtain ⟨f0, f1, f2, f3⟩ := HGT.out j _ hpr
          have HPR : Hid (l[k - 1]? = some ⟨g2, t2, p2, o2⟩) := Lib.hid (by rw [show k - 1 = j by omega]; exact hpr)
          have PP := Lib.hid (And.intro (cell_at HBW.out f0) (And.intro (cell_at HBW.out f1) (And.intro (cell_at HBW.out f2) (cell_at HBW.out f3))))
          dsimp only at PP
          have i1 : IntKind.i64.wrap ((k : Int) - 1) = (k : Int) - 1 := by rw [IntKind.wrap_i64]; omega
          have j0 : (0 : Int) ≤ (k : Int) - 1 := by omega
          have j1 : (k : Int) - 1 < (n : Int) := by omega
          have j2 : (0 : Int) < (k : Int) := by omega
          have j4 : 0 < k := by omega
          have j5 : (1 : Int) ≤ (k : Int) := by omega
          have j6 : 1 ≤ k := by omega
          have j7 : (k : Int) ≤ (n : Int) := by omega
          have j3 : ((k : Int) - 1).toNat = j := by omega
          have j9 : decide ((0 : Int) < (k : Int)) = true := decide_eq_true (by omega)
          have j10 : decide (0 < k) = true := decide_eq_true (by omega)
          obtain ⟨r, hr⟩ : ∃ r, ordR ⟨g2, t2, p2, o2⟩ ⟨gr, t, p, o⟩ = r := ⟨_, rfl⟩
          have HRR := Lib.hid hr
          have ORD : ∀ W', Calls Try.prog 29 #[.agg #[.string g2, .string t2, .int .i64 p2, .int .i64 o2], .agg #[.string gr, .string t, .int .i64 p, .int .i64 o]] W' fun e w' => e = .returned (.int .i64 r) ∧ Below W'.heap.size W' w' := fun W' => (order_is ⟨g2, t2, p2, o2⟩ ⟨gr, t, p, o⟩ r W' HRR).mono fun e w' ⟨h1, h2⟩ => ⟨h1, h2.below⟩
          clear f0 f1 f2 f3 hpr hk0 hj
          by_cases hb : r < 0
          · have HR : Hid (0 < k → ∀ y, l[k - 1]? = some y → befR y ⟨gr, t, p, o⟩ = true) := Lib.hid (fun _ y hy => by rw [HPR.out] at hy; injection hy with hy; subst hy; unfold befR; rw [hr]; exact decide_eq_true hb)
            have HMEM := Lib.hid (load_last HL.out.ok HST.out HR.out HMAY.out)
            have r1 : decide (0 ≤ r) = false := decide_eq_false (by omega)
            have r2 : ¬ 0 ≤ r := by omega
            clear hb hr
            refine wp_region_held_drew (S := fun w' => ((w'.cell? ⟨H, 0, none⟩ = some (.string gr) ∧ w'.cell? ⟨H, 1, none⟩ = some (.string t) ∧ w'.cell? ⟨H, 2, none⟩ = some (.int .i64 p) ∧ w'.cell? ⟨H, 3, none⟩ = some (.int .i64 o)) ∧ (w'.cell? ⟨ga, oo + j * 4, none⟩ = some (.string g2) ∧ w'.cell? ⟨ga, oo + j * 4 + 1, none⟩ = some (.string t2) ∧ w'.cell? ⟨ga, oo + j * 4 + 2, none⟩ = some (.int .i64 p2) ∧ w'.cell? ⟨ga, oo + j * 4 + 3, none⟩ = some (.int .i64 o2))) ∧ Below W.heap.size W w') (by kernel_rfl) (keep8 ⟨⟨BB.out, PP.out⟩, Below.refl _ _⟩ (Below.refl _ _).drew) (fun hHeld => ?_)
            refine wpAnyH_take (i := 0) (oi := ?o35) (v := ?v35) ?a35 (by kernel_rfl) (by kernel_rfl) (by kernel_rfl) ?q35 (Or.inl ⟨?g35, ?y35⟩) (by assumption) ?r35; (case' a35 => (simp only [List.getElem?_toArray, List.getElem?_cons_zero]; rfl)); (case' q35 => (exact fun _ _ _ h => h)); (case' g35 => rfl); (case' y35 => (intro w hSw; (try dsimp only at hSw); go_simp; try with_reducible rfl)); (case' r35 => (try simp only [Act.put, List.setIfInBounds_toArray, List.set_cons_zero, List.set_cons_succ]))
            refine wpAnyH_ready (rs := [1]) (by kernel_rfl) (by simp) ?_
            refine AllReadyH.cons (o := ?o36) ?a36 (fun K hK => ?s36) ?m36; (case' a36 => (simp only [List.getElem?_toArray, List.getElem?_cons_zero, List.getElem?_cons_succ]; rfl))
            case s36 =>
              go_simp
              go_at_call 23
              refine (FIT _).mono ?_
              rintro e wn ⟨rfl, hbn⟩
              go_wp2_with fail
              refine hK.out _ _ (keep8 hHeld hbn) (fun hHeld => ?_)
              clear hK K
              (try simp only [Act.put, List.setIfInBounds_toArray, List.set_cons_zero, List.set_cons_succ])
              refine wpAnyH_take (i := 2) (oi := ?o37) (v := ?v37) ?a37 (by kernel_rfl) (by kernel_rfl) (by kernel_rfl) ?q37 (Or.inl ⟨?g37, ?y37⟩) (by assumption) ?r37; (case' a37 => (simp only [List.getElem?_toArray, List.getElem?_cons_zero, List.getElem?_cons_succ]; rfl)); (case' q37 => (exact fun _ _ _ h => h)); (case' g37 => rfl); (case' y37 => (intro w hSw; (try dsimp only at hSw); go_simp; try with_reducible rfl)); (case' r37 => (try simp only [Act.put, List.setIfInBounds_toArray, List.set_cons_zero, List.set_cons_succ]))
              refine wpAnyH_take (i := 3) (oi := ?o38) (v := ?v38) ?a38 (by kernel_rfl) (by kernel_rfl) (by kernel_rfl) ?q38 (Or.inl ⟨?g38, ?y38⟩) (by assumption) ?r38; (case' a38 => (simp only [List.getElem?_toArray, List.getElem?_cons_zero, List.getElem?_cons_succ]; rfl)); (case' q38 => (exact fun _ _ _ h => h)); (case' g38 => rfl); (case' y38 => (intro w hSw; (try dsimp only at hSw); go_simp; try with_reducible rfl)); (case' r38 => (try simp only [Act.put, List.setIfInBounds_toArray, List.set_cons_zero, List.set_cons_succ]))
              refine wpAnyH_take (i := 4) (oi := ?o39) (v := ?v39) ?a39 (by kernel_rfl) (by kernel_rfl) (by kernel_rfl) ?q39 (Or.inl ⟨?g39, ?y39⟩) (by assumption) ?r39; (case' a39 => (simp only [List.getElem?_toArray, List.getElem?_cons_zero, List.getElem?_cons_succ]; rfl)); (case' q39 => (exact fun _ _ _ h => h)); (case' g39 => rfl); (case' y39 => (intro w hSw; (try dsimp only at hSw); go_simp; try with_reducible rfl)); (case' r39 => (try simp only [Act.put, List.setIfInBounds_toArray, List.set_cons_zero, List.set_cons_succ]))
              refine wpAnyH_take (i := 5) (oi := ?o40) (v := ?v40) ?a40 (by kernel_rfl) (by kernel_rfl) (by kernel_rfl) ?q40 (Or.inl ⟨?g40, ?y40⟩) (by assumption) ?r40; (case' a40 => (simp only [List.getElem?_toArray, List.getElem?_cons_zero, List.getElem?_cons_succ]; rfl)); (case' q40 => (exact fun _ _ _ h => h)); (case' g40 => rfl); (case' y40 => (intro w hSw; (try dsimp only at hSw); go_simp; try with_reducible rfl)); (case' r40 => (try simp only [Act.put, List.setIfInBounds_toArray, List.set_cons_zero, List.set_cons_succ]))
              refine wpAnyH_take (i := 6) (oi := ?o41) (v := ?v41) ?a41 (by kernel_rfl) (by kernel_rfl) (by kernel_rfl) ?q41 (Or.inl ⟨?g41, ?y41⟩) (by assumption) ?r41; (case' a41 => (simp only [List.getElem?_toArray, List.getElem?_cons_zero, List.getElem?_cons_succ]; rfl)); (case' q41 => (exact fun _ _ _ h => h)); (case' g41 => rfl); (case' y41 => (intro w hSw; (try dsimp only at hSw); go_simp; try with_reducible rfl)); (case' r41 => (try simp only [Act.put, List.setIfInBounds_toArray, List.set_cons_zero, List.set_cons_succ]))
              refine wpAnyH_take (i := 7) (oi := ?o42) (v := ?v42) ?a42 (by kernel_rfl) (by kernel_rfl) (by kernel_rfl) ?q42 (Or.inl ⟨?g42, ?y42⟩) (by assumption) ?r42; (case' a42 => (simp only [List.getElem?_toArray, List.getElem?_cons_zero, List.getElem?_cons_succ]; rfl)); (case' q42 => (exact fun _ _ _ h => h)); (case' g42 => rfl); (case' y42 => (intro w hSw; (try dsimp only at hSw); go_simp; try with_reducible rfl)); (case' r42 => (try simp only [Act.put, List.setIfInBounds_toArray, List.set_cons_zero, List.set_cons_succ]))
              refine wpAnyH_take (i := 8) (oi := ?o43) (v := ?v43) ?a43 (by kernel_rfl) (by kernel_rfl) (by kernel_rfl) ?q43 (Or.inl ⟨?g43, ?y43⟩) (by assumption) ?r43; (case' a43 => (simp only [List.getElem?_toArray, List.getElem?_cons_zero, List.getElem?_cons_succ]; rfl)); (case' q43 => (exact fun _ _ _ h => h)); (case' g43 => rfl); (case' y43 => (intro w hSw; (try dsimp only at hSw); go_simp; try with_reducible rfl)); (case' r43 => (try simp only [Act.put, List.setIfInBounds_toArray, List.set_cons_zero, List.set_cons_succ]))
              refine wpAnyH_take (i := 9) (oi := ?o44) (v := ?v44) ?a44 (by kernel_rfl) (by kernel_rfl) (by kernel_rfl) ?q44 (Or.inl ⟨?g44, ?y44⟩) (by assumption) ?r44; (case' a44 => (simp only [List.getElem?_toArray, List.getElem?_cons_zero, List.getElem?_cons_succ]; rfl)); (case' q44 => (exact fun _ _ _ h => h)); (case' g44 => rfl); (case' y44 => (intro w hSw; (try dsimp only at hSw); go_simp; try with_reducible rfl)); (case' r44 => (try simp only [Act.put, List.setIfInBounds_toArray, List.set_cons_zero, List.set_cons_succ]))
              refine wpAnyH_take (i := 10) (oi := ?o45) (v := ?v45) ?a45 (by kernel_rfl) (by kernel_rfl) (by kernel_rfl) ?q45 (Or.inl ⟨?g45, ?y45⟩) (by assumption) ?r45; (case' a45 => (simp only [List.getElem?_toArray, List.getElem?_cons_zero, List.getElem?_cons_succ]; rfl)); (case' q45 => (exact fun _ _ _ h => h)); (case' g45 => rfl); (case' y45 => (intro w hSw; (try dsimp only at hSw); go_simp; try with_reducible rfl)); (case' r45 => (try simp only [Act.put, List.setIfInBounds_toArray, List.set_cons_zero, List.set_cons_succ]))
              refine wpAnyH_take (i := 11) (oi := ?o46) (v := ?v46) ?a46 (by kernel_rfl) (by kernel_rfl) (by kernel_rfl) ?q46 (Or.inl ⟨?g46, ?y46⟩) (by assumption) ?r46; (case' a46 => (simp only [List.getElem?_toArray, List.getElem?_cons_zero, List.getElem?_cons_succ]; rfl)); (case' q46 => (exact fun _ _ _ h => h)); (case' g46 => rfl); (case' y46 => (intro w hSw; (try dsimp only at hSw); go_simp; try with_reducible rfl)); (case' r46 => (try simp only [Act.put, List.setIfInBounds_toArray, List.set_cons_zero, List.set_cons_succ]))
              refine wpAnyH_take (i := 12) (oi := ?o47) (v := ?v47) ?a47 (by kernel_rfl) (by kernel_rfl) (by kernel_rfl) ?q47 (Or.inl ⟨?g47, ?y47⟩) (by assumption) ?r47; (case' a47 => (simp only [List.getElem?_toArray, List.getElem?_cons_zero, List.getElem?_cons_succ]; rfl)); (case' q47 => (exact fun _ _ _ h => h)); (case' g47 => rfl); (case' y47 => (intro w hSw; (try dsimp only at hSw); go_simp; try with_reducible rfl)); (case' r47 => (try simp only [Act.put, List.setIfInBounds_toArray, List.set_cons_zero, List.set_cons_succ]))
              refine wpAnyH_ready (rs := [13]) (by kernel_rfl) (by simp) ?_
              refine AllReadyH.cons (o := ?o48) ?a48 (fun K hK => ?s48) ?m48; (case' a48 => (simp only [List.getElem?_toArray, List.getElem?_cons_zero, List.getElem?_cons_succ]; rfl))
              case s48 =>
                go_simp
                go_at_call 29
                refine (ORD _).mono ?_
                rintro e wn ⟨rfl, hbn⟩
                go_wp2_with fail
                refine hK.out _ _ (keep8 hHeld hbn) (fun hHeld => ?_)
                clear hK K
                (try simp only [Act.put, List.setIfInBounds_toArray, List.set_cons_zero, List.set_cons_succ])
                refine wpAnyH_take (i := 14) (oi := ?o49) (v := ?v49) ?a49 (by kernel_rfl) (by kernel_rfl) (by kernel_rfl) ?q49 (Or.inl ⟨?g49, ?y49⟩) (by assumption) ?r49; (case' a49 => (simp only [List.getElem?_toArray, List.getElem?_cons_zero, List.getElem?_cons_succ]; rfl)); (case' q49 => (exact fun _ _ _ h => h)); (case' g49 => rfl); (case' y49 => (intro w hSw; (try dsimp only at hSw); go_simp; try with_reducible rfl)); (case' r49 => (try simp only [Act.put, List.setIfInBounds_toArray, List.set_cons_zero, List.set_cons_succ]))
                refine wpAnyH_take (i := 15) (oi := ?o50) (v := ?v50) ?a50 (by kernel_rfl) (by kernel_rfl) (by kernel_rfl) ?q50 (Or.inl ⟨?g50, ?y50⟩) (by assumption) ?r50; (case' a50 => (simp only [List.getElem?_toArray, List.getElem?_cons_zero, List.getElem?_cons_succ]; rfl)); (case' q50 => (exact fun _ _ _ h => h)); (case' g50 => rfl); (case' y50 => (intro w hSw; (try dsimp only at hSw); go_simp; try with_reducible rfl)); (case' r50 => (try simp only [Act.put, List.setIfInBounds_toArray, List.set_cons_zero, List.set_cons_succ]))
                refine wpAnyH_take (i := 16) (oi := ?o51) (v := ?v51) ?a51 (by kernel_rfl) (by kernel_rfl) (by kernel_rfl) ?q51 (Or.inl ⟨?g51, ?y51⟩) (by assumption) ?r51; (case' a51 => (simp only [List.getElem?_toArray, List.getElem?_cons_zero, List.getElem?_cons_succ]; rfl)); (case' q51 => (exact fun _ _ _ h => h)); (case' g51 => rfl); (case' y51 => (intro w hSw; (try dsimp only at hSw); go_simp; try with_reducible rfl)); (case' r51 => (try simp only [Act.put, List.setIfInBounds_toArray, List.set_cons_zero, List.set_cons_succ]))
                refine wpAnyH_done (by kernel_rfl) ?_ _
                have HWN := Lib.hid hHeld.2
                obtain ⟨y0, y1, y2, y3⟩ := hHeld.1.1
                clear hHeld
                have HT2 := Lib.hid (HL.out.tab.below (HWW.out.trans (HWN.out.mono HWW.out.size)))
                go_wp2_with (go_at_call 24; refine (keep_is gr t p o HT2 hk1 z0 z1 HP HO HFI HMEM).mono ?_; rintro e w3 ⟨rfl, ht3, ho3⟩; have HL3 := Lib.hid (HL.out.next (HWW.out.trans (HWN.out.mono HWW.out.size)) ht3 ho3 HST.out HMAY.out HR.out); clear ht3 ho3)
                go_roundw
                case rel => exact ⟨k + 1, by omega, by go_num, HL3⟩
                case measure => simp [intOf]; omega
              exact AllReadyH.nil
            exact AllReadyH.nil
          · have HX1 : Hid (x = 1) := Lib.hid (load_no HX.out HKN.out (fun q => by have := (q _ HST.out).2 (by omega) _ HPR.out; unfold befR at this; rw [hr, decide_eq_true_iff] at this; omega))
            have r1 : decide (0 ≤ r) = true := decide_eq_true (by omega)
            have r2 : 0 ≤ r := by omega
            clear hb hr
            refine wp_region_held_drew (S := fun w' => ((w'.cell? ⟨H, 0, none⟩ = some (.string gr) ∧ w'.cell? ⟨H, 1, none⟩ = some (.string t) ∧ w'.cell? ⟨H, 2, none⟩ = some (.int .i64 p) ∧ w'.cell? ⟨H, 3, none⟩ = some (.int .i64 o)) ∧ (w'.cell? ⟨ga, oo + j * 4, none⟩ = some (.string g2) ∧ w'.cell? ⟨ga, oo + j * 4 + 1, none⟩ = some (.string t2) ∧ w'.cell? ⟨ga, oo + j * 4 + 2, none⟩ = some (.int .i64 p2) ∧ w'.cell? ⟨ga, oo + j * 4 + 3, none⟩ = some (.int .i64 o2))) ∧ Below W.heap.size W w') (by kernel_rfl) (keep8 ⟨⟨BB.out, PP.out⟩, Below.refl _ _⟩ (Below.refl _ _).drew) (fun hHeld => ?_)
            refine wpAnyH_take (i := 0) (oi := ?o52) (v := ?v52) ?a52 (by kernel_rfl) (by kernel_rfl) (by kernel_rfl) ?q52 (Or.inl ⟨?g52, ?y52⟩) (by assumption) ?r52; (case' a52 => (simp only [List.getElem?_toArray, List.getElem?_cons_zero]; rfl)); (case' q52 => (exact fun _ _ _ h => h)); (case' g52 => rfl); (case' y52 => (intro w hSw; (try dsimp only at hSw); go_simp; try with_reducible rfl)); (case' r52 => (try simp only [Act.put, List.setIfInBounds_toArray, List.set_cons_zero, List.set_cons_succ]))
            refine wpAnyH_ready (rs := [1]) (by kernel_rfl) (by simp) ?_
            refine AllReadyH.cons (o := ?o53) ?a53 (fun K hK => ?s53) ?m53; (case' a53 => (simp only [List.getElem?_toArray, List.getElem?_cons_zero, List.getElem?_cons_succ]; rfl))
            case s53 =>
              go_simp
              go_at_call 23
              refine (FIT _).mono ?_
              rintro e wn ⟨rfl, hbn⟩
              go_wp2_with fail
              refine hK.out _ _ (keep8 hHeld hbn) (fun hHeld => ?_)
              clear hK K
              (try simp only [Act.put, List.setIfInBounds_toArray, List.set_cons_zero, List.set_cons_succ])
              refine wpAnyH_take (i := 2) (oi := ?o54) (v := ?v54) ?a54 (by kernel_rfl) (by kernel_rfl) (by kernel_rfl) ?q54 (Or.inl ⟨?g54, ?y54⟩) (by assumption) ?r54; (case' a54 => (simp only [List.getElem?_toArray, List.getElem?_cons_zero, List.getElem?_cons_succ]; rfl)); (case' q54 => (exact fun _ _ _ h => h)); (case' g54 => rfl); (case' y54 => (intro w hSw; (try dsimp only at hSw); go_simp; try with_reducible rfl)); (case' r54 => (try simp only [Act.put, List.setIfInBounds_toArray, List.set_cons_zero, List.set_cons_succ]))
              refine wpAnyH_take (i := 3) (oi := ?o55) (v := ?v55) ?a55 (by kernel_rfl) (by kernel_rfl) (by kernel_rfl) ?q55 (Or.inl ⟨?g55, ?y55⟩) (by assumption) ?r55; (case' a55 => (simp only [List.getElem?_toArray, List.getElem?_cons_zero, List.getElem?_cons_succ]; rfl)); (case' q55 => (exact fun _ _ _ h => h)); (case' g55 => rfl); (case' y55 => (intro w hSw; (try dsimp only at hSw); go_simp; try with_reducible rfl)); (case' r55 => (try simp only [Act.put, List.setIfInBounds_toArray, List.set_cons_zero, List.set_cons_succ]))
              refine wpAnyH_take (i := 4) (oi := ?o56) (v := ?v56) ?a56 (by kernel_rfl) (by kernel_rfl) (by kernel_rfl) ?q56 (Or.inl ⟨?g56, ?y56⟩) (by assumption) ?r56; (case' a56 => (simp only [List.getElem?_toArray, List.getElem?_cons_zero, List.getElem?_cons_succ]; rfl)); (case' q56 => (exact fun _ _ _ h => h)); (case' g56 => rfl); (case' y56 => (intro w hSw; (try dsimp only at hSw); go_simp; try with_reducible rfl)); (case' r56 => (try simp only [Act.put, List.setIfInBounds_toArray, List.set_cons_zero, List.set_cons_succ]))
              refine wpAnyH_take (i := 5) (oi := ?o57) (v := ?v57) ?a57 (by kernel_rfl) (by kernel_rfl) (by kernel_rfl) ?q57 (Or.inl ⟨?g57, ?y57⟩) (by assumption) ?r57; (case' a57 => (simp only [List.getElem?_toArray, List.getElem?_cons_zero, List.getElem?_cons_succ]; rfl)); (case' q57 => (exact fun _ _ _ h => h)); (case' g57 => rfl); (case' y57 => (intro w hSw; (try dsimp only at hSw); go_simp; try with_reducible rfl)); (case' r57 => (try simp only [Act.put, List.setIfInBounds_toArray, List.set_cons_zero, List.set_cons_succ]))
              refine wpAnyH_take (i := 6) (oi := ?o58) (v := ?v58) ?a58 (by kernel_rfl) (by kernel_rfl) (by kernel_rfl) ?q58 (Or.inl ⟨?g58, ?y58⟩) (by assumption) ?r58; (case' a58 => (simp only [List.getElem?_toArray, List.getElem?_cons_zero, List.getElem?_cons_succ]; rfl)); (case' q58 => (exact fun _ _ _ h => h)); (case' g58 => rfl); (case' y58 => (intro w hSw; (try dsimp only at hSw); go_simp; try with_reducible rfl)); (case' r58 => (try simp only [Act.put, List.setIfInBounds_toArray, List.set_cons_zero, List.set_cons_succ]))
              refine wpAnyH_take (i := 7) (oi := ?o59) (v := ?v59) ?a59 (by kernel_rfl) (by kernel_rfl) (by kernel_rfl) ?q59 (Or.inl ⟨?g59, ?y59⟩) (by assumption) ?r59; (case' a59 => (simp only [List.getElem?_toArray, List.getElem?_cons_zero, List.getElem?_cons_succ]; rfl)); (case' q59 => (exact fun _ _ _ h => h)); (case' g59 => rfl); (case' y59 => (intro w hSw; (try dsimp only at hSw); go_simp; try with_reducible rfl)); (case' r59 => (try simp only [Act.put, List.setIfInBounds_toArray, List.set_cons_zero, List.set_cons_succ]))
              refine wpAnyH_take (i := 8) (oi := ?o60) (v := ?v60) ?a60 (by kernel_rfl) (by kernel_rfl) (by kernel_rfl) ?q60 (Or.inl ⟨?g60, ?y60⟩) (by assumption) ?r60; (case' a60 => (simp only [List.getElem?_toArray, List.getElem?_cons_zero, List.getElem?_cons_succ]; rfl)); (case' q60 => (exact fun _ _ _ h => h)); (case' g60 => rfl); (case' y60 => (intro w hSw; (try dsimp only at hSw); go_simp; try with_reducible rfl)); (case' r60 => (try simp only [Act.put, List.setIfInBounds_toArray, List.set_cons_zero, List.set_cons_succ]))
              refine wpAnyH_take (i := 9) (oi := ?o61) (v := ?v61) ?a61 (by kernel_rfl) (by kernel_rfl) (by kernel_rfl) ?q61 (Or.inl ⟨?g61, ?y61⟩) (by assumption) ?r61; (case' a61 => (simp only [List.getElem?_toArray, List.getElem?_cons_zero, List.getElem?_cons_succ]; rfl)); (case' q61 => (exact fun _ _ _ h => h)); (case' g61 => rfl); (case' y61 => (intro w hSw; (try dsimp only at hSw); go_simp; try with_reducible rfl)); (case' r61 => (try simp only [Act.put, List.setIfInBounds_toArray, List.set_cons_zero, List.set_cons_succ]))
              refine wpAnyH_take (i := 10) (oi := ?o62) (v := ?v62) ?a62 (by kernel_rfl) (by kernel_rfl) (by kernel_rfl) ?q62 (Or.inl ⟨?g62, ?y62⟩) (by assumption) ?r62; (case' a62 => (simp only [List.getElem?_toArray, List.getElem?_cons_zero, List.getElem?_cons_succ]; rfl)); (case' q62 => (exact fun _ _ _ h => h)); (case' g62 => rfl); (case' y62 => (intro w hSw; (try dsimp only at hSw); go_simp; try with_reducible rfl)); (case' r62 => (try simp only [Act.put, List.setIfInBounds_toArray, List.set_cons_zero, List.set_cons_succ]))
              refine wpAnyH_take (i := 11) (oi := ?o63) (v := ?v63) ?a63 (by kernel_rfl) (by kernel_rfl) (by kernel_rfl) ?q63 (Or.inl ⟨?g63, ?y63⟩) (by assumption) ?r63; (case' a63 => (simp only [List.getElem?_toArray, List.getElem?_cons_zero, List.getElem?_cons_succ]; rfl)); (case' q63 => (exact fun _ _ _ h => h)); (case' g63 => rfl); (case' y63 => (intro w hSw; (try dsimp only at hSw); go_simp; try with_reducible rfl)); (case' r63 => (try simp only [Act.put, List.setIfInBounds_toArray, List.set_cons_zero, List.set_cons_succ]))
              refine wpAnyH_take (i := 12) (oi := ?o64) (v := ?v64) ?a64 (by kernel_rfl) (by kernel_rfl) (by kernel_rfl) ?q64 (Or.inl ⟨?g64, ?y64⟩) (by assumption) ?r64; (case' a64 => (simp only [List.getElem?_toArray, List.getElem?_cons_zero, List.getElem?_cons_succ]; rfl)); (case' q64 => (exact fun _ _ _ h => h)); (case' g64 => rfl); (case' y64 => (intro w hSw; (try dsimp only at hSw); go_simp; try with_reducible rfl)); (case' r64 => (try simp only [Act.put, List.setIfInBounds_toArray, List.set_cons_zero, List.set_cons_succ]))
              refine wpAnyH_ready (rs := [13]) (by kernel_rfl) (by simp) ?_
              refine AllReadyH.cons (o := ?o65) ?a65 (fun K hK => ?s65) ?m65; (case' a65 => (simp only [List.getElem?_toArray, List.getElem?_cons_zero, List.getElem?_cons_succ]; rfl))
              case s65 =>
                go_simp
                go_at_call 29
                refine (ORD _).mono ?_
                rintro e wn ⟨rfl, hbn⟩
                go_wp2_with fail
                refine hK.out _ _ (keep8 hHeld hbn) (fun hHeld => ?_)
                clear hK K
                (try simp only [Act.put, List.setIfInBounds_toArray, List.set_cons_zero, List.set_cons_succ])
                refine wpAnyH_take (i := 14) (oi := ?o66) (v := ?v66) ?a66 (by kernel_rfl) (by kernel_rfl) (by kernel_rfl) ?q66 (Or.inl ⟨?g66, ?y66⟩) (by assumption) ?r66; (case' a66 => (simp only [List.getElem?_toArray, List.getElem?_cons_zero, List.getElem?_cons_succ]; rfl)); (case' q66 => (exact fun _ _ _ h => h)); (case' g66 => rfl); (case' y66 => (intro w hSw; (try dsimp only at hSw); go_simp; try with_reducible rfl)); (case' r66 => (try simp only [Act.put, List.setIfInBounds_toArray, List.set_cons_zero, List.set_cons_succ]))
                refine wpAnyH_take (i := 15) (oi := ?o67) (v := ?v67) ?a67 (by kernel_rfl) (by kernel_rfl) (by kernel_rfl) ?q67 (Or.inl ⟨?g67, ?y67⟩) (by assumption) ?r67; (case' a67 => (simp only [List.getElem?_toArray, List.getElem?_cons_zero, List.getElem?_cons_succ]; rfl)); (case' q67 => (exact fun _ _ _ h => h)); (case' g67 => rfl); (case' y67 => (intro w hSw; (try dsimp only at hSw); go_simp; try with_reducible rfl)); (case' r67 => (try simp only [Act.put, List.setIfInBounds_toArray, List.set_cons_zero, List.set_cons_succ]))
                refine wpAnyH_take (i := 16) (oi := ?o68) (v := ?v68) ?a68 (by kernel_rfl) (by kernel_rfl) (by kernel_rfl) ?q68 (Or.inl ⟨?g68, ?y68⟩) (by assumption) ?r68; (case' a68 => (simp only [List.getElem?_toArray, List.getElem?_cons_zero, List.getElem?_cons_succ]; rfl)); (case' q68 => (exact fun _ _ _ h => h)); (case' g68 => rfl); (case' y68 => (intro w hSw; (try dsimp only at hSw); go_simp; try with_reducible rfl)); (case' r68 => (try simp only [Act.put, List.setIfInBounds_toArray, List.set_cons_zero, List.set_cons_succ]))
                refine wpAnyH_done (by kernel_rfl) ?_ _
                have HWN := Lib.hid hHeld.2
                clear hHeld
                go_wp2_with fail
                go_ret2
                exact ⟨HBW.out.trans (HWN.out.mono HBW.out.size), .inl ⟨by rw [HX1.out]; decide, by rw [HX1.out]; rfl⟩⟩
              exact AllReadyH.nil
            exact AllReadyH.nil
    · obtain rfl : k = n := by omega
      have htk : l.take k = l := List.take_of_length_le (by rw [hE.out.len]; exact Nat.le_refl _)
      have hlen := hE.out.len
      have hok : OkTo l l.length := by have h1 := HL.out.ok; rwa [← hlen] at h1
      have HGOOD : Hid (Good l) := Lib.hid (by have := hok.good (Nat.le_refl _); rwa [List.take_length] at this)
      have HX0 : Hid (x = 0) := Lib.hid (by
        rcases HX.out with ⟨q, _⟩ | ⟨_, q⟩
        · exact q
        · exact absurd hok q)
      have HF : Hid (Tab wr g b l.length l) := Lib.hid (by have h1 := HL.out.tab; rw [htk] at h1; rw [hlen]; exact h1)
      clear htk hlen hok
      go_wp2_with fail
      go_ret2
      exact ⟨HL.out.bel, .inr ⟨HX0.out, HGOOD.out, g, rfl, b, HF.out, HL.out.hg, HL.out.hb⟩⟩
end Go.Proofs.Ytcpfihagcmadcaa.L12
