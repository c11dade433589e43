/-
  Contracts: Load.
-/
import Derived.Test.YtidgifnnkaheeaaGpSeat
import Derived.Deep.QuietTactic
import Derived.BigQuiet
import Derived.Deep.AppendLies
import Derived.Test.YtidgifnnkaheeaaAsProg
import Derived.Test.YtidgifnnkaheeaaAsFacts
namespace Go.Proofs.Ytidgifnnkaheeaa.L11
open Go.RowKit
open Go.Maps
open L3 L4 L9 L10

/-- a slice that reads as seats -/
def ReadsE (w : World) (A : Option Addr) (l : List Se) : Prop :=
  0 < l.length → ∃ g, A = some ⟨g, 0, none⟩ ∧ g < w.heap.size ∧ ∀ i s, l[i]? = some s → ∃ At ct, RowT w At ct s.m.ts ∧ w.cell? ⟨g, i * 4, none⟩ = some (.string s.m.name) ∧ w.cell? ⟨g, i * 4 + 1, none⟩ = some (.slice At s.m.ts.length ct) ∧ w.cell? ⟨g, i * 4 + 2, none⟩ = some (.int .i64 s.tm) ∧ w.cell? ⟨g, i * 4 + 3, none⟩ = some (.int .i64 s.sn)
theorem ReadsE.below {w w' : World} {A : Option Addr} {l : List Se} (h : ReadsE w A l) (hb : Below w.heap.size w w') : ReadsE w' A l := fun h0 => by
  obtain ⟨g, e, hg, hc⟩ := h h0
  refine ⟨g, e, Nat.lt_of_lt_of_le hg hb.size, fun i s hs => ?_⟩
  obtain ⟨At, ct, hr, c0, c1, c2, c3⟩ := hc i s hs
  exact ⟨At, ct, hr.below hb, cell_b hb c0, cell_b hb c1, cell_b hb c2, cell_b hb c3⟩
/-- seats that are handed in -/
structure IsE (w : World) (A : Option Addr) (n : Nat) (l : List Se) : Prop where
  rd : ReadsE w A l
  len : l.length = n
  n1 : n ≤ 1000000
  sz : ∀ s ∈ l, s.m.name.size ≤ 281474976710656 ∧ s.m.ts.length ≤ 1000000 ∧ ∀ x ∈ s.m.ts, x.size ≤ 281474976710656
theorem IsE.below {w w' : World} {A : Option Addr} {n : Nat} {l : List Se} (h : IsE w A n l) (hb : Below w.heap.size w w') : IsE w' A n l := ⟨h.rd.below hb, h.len, h.n1, h.sz⟩
/-- what Load leaves -/
def LoadP (w : World) (G : Int) (r : Bool) (l : List Se) (x : Int) (e : Ending) (w' : World) : Prop :=
  Below w.heap.size w w' ∧ ((x ≠ 0 ∧ e = .returned (.tuple #[.pointer none, .int .i64 x])) ∨ (x = 0 ∧ GoodG G l ∧ ∃ g b, e = .returned (.tuple #[.pointer (some ⟨g, 0, none⟩), .int .i64 0]) ∧ Gp w' g b l.length G r l ∧ w.heap.size ≤ g ∧ w.heap.size ≤ b))
/-- what lies between two rounds -/
structure Lod (w wr : World) (g b k : Nat) (G : Int) (r : Bool) (l : List Se) : Prop where
  ok : OkToS l k
  gp : Gp wr g b k G r (l.take k)
  hg : w.heap.size ≤ g
  hb : w.heap.size ≤ b
  bel : Below w.heap.size w wr
theorem Lod.next {w wr w1 w2 : World} {g b k : Nat} {G : Int} {r : Bool} {l : List Se} {s : Se} (h : Lod w wr g b k G r l) (hb1 : Below wr.heap.size wr w1) (hc : Gp w2 g b (k + 1) G r (putS (l.take k) s)) (ho : Only [b] w1 w2) (hx : l[k]? = some s) (hk : k < l.length) (hm : mayS s = true) (hr : 0 < k → ∀ y, l[k - 1]? = some y → lessB y.m.name s.m.name = true) : Lod w w2 g b (k + 1) G r l := by
  rw [load_next h.ok hk hx hr] at hc
  have h01 : Below w.heap.size w w1 := h.bel.trans (hb1.mono h.bel.size)
  exact ⟨h.ok.next (fun x hx' => by rw [hx] at hx'; injection hx' with hx'; subst hx'; exact ⟨hm, hr⟩), hc, h.hg, h.hb, h01.trans (ho.below h01.size (fun k hk => by rw [show k = b by simpa using hk]; exact h.hb))⟩
theorem keep5b {W w1 w2 : World} {a0 a1 a2 a3 a4 : Addr} {v0 v1 v2 v3 v4 : Value} (h : (w1.cell? a0 = some v0 ∧ w1.cell? a1 = some v1 ∧ w1.cell? a2 = some v2 ∧ w1.cell? a3 = some v3 ∧ w1.cell? a4 = some v4) ∧ Below W.heap.size W w1) (hb : Below w1.heap.size w1 w2) :
    (w2.cell? a0 = some v0 ∧ w2.cell? a1 = some v1 ∧ w2.cell? a2 = some v2 ∧ w2.cell? a3 = some v3 ∧ w2.cell? a4 = some v4) ∧ Below W.heap.size W w2 :=
  ⟨⟨cell_b hb h.1.1, cell_b hb h.1.2.1, cell_b hb h.1.2.2.1, cell_b hb h.1.2.2.2.1, cell_b hb h.1.2.2.2.2⟩, h.2.trans (hb.mono h.2.size)⟩
theorem keep5c {W : World} {a0 a1 a2 a3 a4 : Addr} {v0 v1 v2 v3 v4 : Value} (h : W.cell? a0 = some v0 ∧ W.cell? a1 = some v1 ∧ W.cell? a2 = some v2 ∧ W.cell? a3 = some v3 ∧ W.cell? a4 = some v4) :
    (W.drew.cell? a0 = some v0 ∧ W.drew.cell? a1 = some v1 ∧ W.drew.cell? a2 = some v2 ∧ W.drew.cell? a3 = some v3 ∧ W.drew.cell? a4 = some v4) ∧ Below W.heap.size W W.drew := keep5b ⟨h, Below.refl _ _⟩ ((Below.refl _ _).drew)
set_option maxRecDepth 100000 in
set_option maxHeartbeats 8000000 in
theorem load_is (w : World) (G : Int) (r : Bool) (A : Option Addr) (n cap : Nat) (l : List Se) (x : Int) (hE : Hid (IsE w A n l)) (HX : Hid (loadG G l x)) :
    Calls Try.prog 54 #[.int .i64 G, .bool r, .slice A n cap] w (LoadP w G r l x) := by
  have hn1 := hE.out.n1
  by_cases h8 : 8 < n
  · have hx := loadG_big HX.out (by rw [hE.out.len]; exact h8)
    subst hx
    have q1 : (8 : Int) < (n : Int) := by omega
    clear h8
    go_enter Try.func54, Try.ntmps54
    go_wp2_with fail
    go_ret2
    exact ⟨Below.refl _ _, .inl ⟨by decide, rfl⟩⟩
  · have q1 : ¬ (8 : Int) < (n : Int) := by omega
    have q2 : (n : Int) ≤ 8 := by omega
    have H8 : Hid (l.length ≤ 8) := Lib.hid (by rw [hE.out.len]; omega)
    clear h8
    cases hw : wB G with
    | false =>
      have hx := loadG_gen HX.out H8.out hw
      subst hx
      have HW := Lib.hid hw
      clear hw
      go_enter Try.func54, Try.ntmps54
      go_wp2_with (go_at_call 55; refine (within_is G _ _ HW).mono ?_; rintro e w3 ⟨rfl, hw3⟩; obtain rfl := hw3.symm)
      go_ret2
      exact ⟨Below.refl _ _, .inl ⟨by decide, rfl⟩⟩
    | true =>
      have HW := Lib.hid hw
      have hmm := @run_makeMap Try.prog
      have b1 := one_box' (w := w) (.map #[] 0)
      have e1 : (w.alloc (.map #[] 0)).heap.size = w.heap.size + 1 := by simp
      obtain ⟨W1, hW1⟩ : ∃ W, (w.alloc (.map #[] 0)).alloc (.cells #[.int .i64 G, .bool r, .map (some w.heap.size)] 88) = W := ⟨_, rfl⟩
      have HG1 : Hid (Lod w W1 (w.heap.size + 1) w.heap.size 0 G r l) := Lib.hid (by
        subst hW1
        refine ⟨fun i hi => absurd hi (by omega), ?_, by omega, Nat.le_refl _, b1.alloc b1.size _⟩
        rw [List.take_zero]
        exact ⟨by rw [← e1]; exact heap_alloc_new _ _, (isGrp_made w).below (one_box' _)⟩)
      clear hw b1
      go_enter Try.func54, Try.ntmps54
      go_wp2_with (go_at_call 55; refine (within_is G _ _ HW).mono ?_; rintro e w3 ⟨rfl, hw3⟩; obtain rfl := hw3.symm)
      clear hmm e1 hW1
      obtain ⟨g, hg⟩ : ∃ g, w.heap.size + 1 = g := ⟨_, rfl⟩
      obtain ⟨b, hb⟩ : ∃ b, w.heap.size = b := ⟨_, rfl⟩
      rw [hg, hb] at HG1
      try rw [hg]
      try rw [hb]
      clear hg hb
      go_loopw [24] (fun i wr => ∃ k : Nat, k ≤ n ∧ i = .int .i64 k ∧ Hid (Lod w wr g b k G r l)) (fun i _ => n - (intOf i).toNat)
      case atStart => exact ⟨0, Nat.zero_le _, rfl, HG1⟩
      case round =>
        obtain ⟨k, hk, rfl, HL⟩ := hrel
        by_cases hlt : k < n
        · obtain ⟨ga, rfl, hga, hcells⟩ := hE.out.rd (by rw [hE.out.len]; omega)
          obtain ⟨s, hst⟩ : ∃ st, l[k]? = some st := ⟨l[k]'(by rw [hE.out.len]; exact hlt), List.getElem?_eq_getElem _⟩
          obtain ⟨At, ct, hrt, c0, c1, c2, c3⟩ := hcells k s hst
          have d0 := cell_b HL.out.bel c0
          have d1 := cell_b HL.out.bel c1
          have d2 := cell_b HL.out.bel c2
          have d3 := cell_b HL.out.bel c3
          obtain ⟨z0, z1, z2⟩ := hE.out.sz s (List.mem_of_getElem? hst)
          obtain ⟨nm, hnm⟩ : ∃ nm, s.m.name = nm := ⟨_, rfl⟩
          obtain ⟨tn, htn⟩ : ∃ tn, s.m.ts.length = tn := ⟨_, rfl⟩
          obtain ⟨tm, htm⟩ : ∃ nm, s.tm = nm := ⟨_, rfl⟩
          obtain ⟨sn, hsn⟩ : ∃ nm, s.sn = nm := ⟨_, rfl⟩
          have HS : Hid (s.m.name = nm ∧ s.m.ts.length = tn ∧ s.tm = tm ∧ s.sn = sn) := Lib.hid ⟨hnm, htn, htm, hsn⟩
          rw [hnm] at d0
          rw [htn] at d1 z1
          rw [htm] at d2
          rw [hsn] at d3
          have htn1 := z1
          have HZ : Hid (s.m.name.size ≤ 281474976710656 ∧ ∀ x ∈ s.m.ts, x.size ≤ 281474976710656) := Lib.hid ⟨z0, z2⟩
          have HSE : Hid (SeSz s) := Lib.hid ⟨by unfold maxLen; omega, by rw [htn]; unfold maxLen; omega, fun x hx => by have := z2 x hx; unfold maxLen; omega⟩
          have k0 : (0 : Int) ≤ (k : Int) := by omega
          have kl : (k : Int) < (n : Int) := by omega
          have hk1 : k ≤ 1000000 := by omega
          have HST := Lib.hid hst
          have HKN : Hid (k < l.length) := Lib.hid (by rw [hE.out.len]; exact hlt)
          have HGT := Lib.hid hcells
          have HRT := Lib.hid hrt
          have ltA : ga < wr.heap.size := Nat.lt_of_lt_of_le hga HL.out.bel.size
          obtain ⟨⟨b0, b1, b2, b3⟩, hbW⟩ := box_se (w := wr) (a := nm) (A := At) (n := tn) (c := ct) (t := tm) (e := sn)
          obtain ⟨H, hH⟩ : ∃ H, wr.heap.size = H := ⟨_, rfl⟩
          obtain ⟨W, hW⟩ : ∃ W, wr.alloc (.cells #[.string nm, .slice At tn ct, .int .i64 tm, .int .i64 sn] 47) = W := ⟨_, rfl⟩
          rw [hW] at b0 b1 b2 b3 hbW
          rw [hH] at b0 b1 b2 b3
          have HWW := Lib.hid hbW
          have HBW : Hid (Below w.heap.size w W) := Lib.hid (HL.out.bel.trans (hbW.mono HL.out.bel.size))
          clear hst hcells hrt c0 c1 c2 c3 z0 z1 z2 hnm htn htm hsn
          have HVV : ∃ v, mayS s = v := ⟨_, rfl⟩
          obtain ⟨v, hv⟩ := HVV
          have HV := Lib.hid hv
          have FIT : ∀ W', Below W.heap.size W W' → Calls Try.prog 47 #[.agg #[.string nm, .slice At tn ct, .int .i64 tm, .int .i64 sn]] W' fun e w' => e = .returned (.bool v) ∧ Below W'.heap.size W' w' := fun W' hb => fits_is s nm At tn ct tm sn v W' HS (Lib.hid (HRT.out.below (HBW.out.trans (hb.mono HBW.out.size))).row) HSE HV
          go_wp2_with fail
          clear d0 d1 d2 d3 hbW hW
          cases v with
          | false =>
            have HX1 : Hid (x = 1) := Lib.hid (loadG_bad HX.out H8.out (load_badS HKN.out (fun q => by have := (q s HST.out).1; rw [hv] at this; cases this)))
            clear hv
            obtain ⟨gp, hgp⟩ : ∃ gp, H = gp := ⟨_, rfl⟩
            obtain ⟨op, hop⟩ : ∃ op : Nat, 0 = op := ⟨_, rfl⟩
            obtain ⟨pr, hpr⟩ : ∃ pr, nm = pr := ⟨_, rfl⟩
            have BB := Lib.hid (And.intro b0 (And.intro b1 (And.intro b2 (And.intro b3 (show W.cell? ⟨gp, op, none⟩ = some (.string pr) from (by rw [← hgp, ← hop, ← hpr]; exact b0))))))
            clear b0 b1 b2 b3 hgp hop hpr
            refine wp_region_held_drew (S := fun w' => (w'.cell? ⟨H, 0, none⟩ = some (.string nm) ∧ w'.cell? ⟨H, 1, none⟩ = some (.slice At tn ct) ∧ w'.cell? ⟨H, 2, none⟩ = some (.int .i64 tm) ∧ w'.cell? ⟨H, 3, none⟩ = some (.int .i64 sn) ∧ w'.cell? ⟨gp, op, none⟩ = some (.string pr)) ∧ Below W.heap.size W w') (by kernel_rfl) (keep5c BB.out) (fun hHeld => ?_)
            refine wpAnyH_take (i := 0) (oi := ?o1) (v := ?v1) ?a1 (by kernel_rfl) (by kernel_rfl) (by kernel_rfl) ?q1 (Or.inl ⟨?g1, ?y1⟩) (by assumption) ?r1; (case' a1 => (simp only [List.getElem?_toArray, List.getElem?_cons_zero]; rfl)); (case' q1 => (exact fun _ _ _ h => h)); (case' g1 => rfl); (case' y1 => (intro w hSw; (try dsimp only at hSw); go_simp; try with_reducible rfl)); (case' r1 => (try simp only [Act.put, List.setIfInBounds_toArray, List.set_cons_zero, List.set_cons_succ]))
            refine wpAnyH_ready (rs := [1]) (by kernel_rfl) (by simp) ?_
            refine AllReadyH.cons (o := ?o2) ?a2 (fun K hK => ?s2) ?m2; (case' a2 => (simp only [List.getElem?_toArray, List.getElem?_cons_zero, List.getElem?_cons_succ]; rfl))
            case s2 =>
              go_simp
              go_at_call 47
              refine (FIT _ hHeld.2).mono ?_
              rintro e wn ⟨rfl, hbn⟩
              go_wp2_with fail
              refine hK.out _ _ (keep5b hHeld hbn) (fun hHeld => ?_)
              clear hK K
              (try simp only [Act.put, List.setIfInBounds_toArray, List.set_cons_zero, List.set_cons_succ])
              refine wpAnyH_take (i := 2) (oi := ?o3) (v := ?v3) ?a3 (by kernel_rfl) (by kernel_rfl) (by kernel_rfl) ?q3 (Or.inl ⟨?g3, ?y3⟩) (by assumption) ?r3; (case' a3 => (simp only [List.getElem?_toArray, List.getElem?_cons_zero, List.getElem?_cons_succ]; rfl)); (case' q3 => (exact fun _ _ _ h => h)); (case' g3 => rfl); (case' y3 => (intro w hSw; (try dsimp only at hSw); go_simp; try with_reducible rfl)); (case' r3 => (try simp only [Act.put, List.setIfInBounds_toArray, List.set_cons_zero, List.set_cons_succ]))
              refine wpAnyH_take (i := 3) (oi := ?o4) (v := ?v4) ?a4 (by kernel_rfl) (by kernel_rfl) (by kernel_rfl) ?q4 (Or.inl ⟨?g4, ?y4⟩) (by assumption) ?r4; (case' a4 => (simp only [List.getElem?_toArray, List.getElem?_cons_zero, List.getElem?_cons_succ]; rfl)); (case' q4 => (exact fun _ _ _ h => h)); (case' g4 => rfl); (case' y4 => (intro w hSw; (try dsimp only at hSw); go_simp; try with_reducible rfl)); (case' r4 => (try simp only [Act.put, List.setIfInBounds_toArray, List.set_cons_zero, List.set_cons_succ]))
              refine wpAnyH_take (i := 4) (oi := ?o5) (v := undef) ?a5 (by kernel_rfl) (by kernel_rfl) (by kernel_rfl) ?q5 (Or.inr ⟨?g5, rfl⟩) (by assumption) ?r5; (case' a5 => (simp only [List.getElem?_toArray, List.getElem?_cons_zero, List.getElem?_cons_succ]; rfl)); (case' q5 => (exact fun _ _ _ h => h)); (case' g5 => rfl); (case' r5 => (try simp only [Act.put, List.setIfInBounds_toArray, List.set_cons_zero, List.set_cons_succ]))
              refine wpAnyH_take (i := 5) (oi := ?o6) (v := undef) ?a6 (by kernel_rfl) (by kernel_rfl) (by kernel_rfl) ?q6 (Or.inr ⟨?g6, rfl⟩) (by assumption) ?r6; (case' a6 => (simp only [List.getElem?_toArray, List.getElem?_cons_zero, List.getElem?_cons_succ]; rfl)); (case' q6 => (exact fun _ _ _ h => h)); (case' g6 => rfl); (case' r6 => (try simp only [Act.put, List.setIfInBounds_toArray, List.set_cons_zero, List.set_cons_succ]))
              refine wpAnyH_take (i := 6) (oi := ?o7) (v := undef) ?a7 (by kernel_rfl) (by kernel_rfl) (by kernel_rfl) ?q7 (Or.inr ⟨?g7, rfl⟩) (by assumption) ?r7; (case' a7 => (simp only [List.getElem?_toArray, List.getElem?_cons_zero, List.getElem?_cons_succ]; rfl)); (case' q7 => (exact fun _ _ _ h => h)); (case' g7 => rfl); (case' r7 => (try simp only [Act.put, List.setIfInBounds_toArray, List.set_cons_zero, List.set_cons_succ]))
              refine wpAnyH_take (i := 7) (oi := ?o8) (v := undef) ?a8 (by kernel_rfl) (by kernel_rfl) (by kernel_rfl) ?q8 (Or.inr ⟨?g8, rfl⟩) (by assumption) ?r8; (case' a8 => (simp only [List.getElem?_toArray, List.getElem?_cons_zero, List.getElem?_cons_succ]; rfl)); (case' q8 => (exact fun _ _ _ h => h)); (case' g8 => rfl); (case' r8 => (try simp only [Act.put, List.setIfInBounds_toArray, List.set_cons_zero, List.set_cons_succ]))
              refine wpAnyH_take (i := 8) (oi := ?o9) (v := undef) ?a9 (by kernel_rfl) (by kernel_rfl) (by kernel_rfl) ?q9 (Or.inr ⟨?g9, rfl⟩) (by assumption) ?r9; (case' a9 => (simp only [List.getElem?_toArray, List.getElem?_cons_zero, List.getElem?_cons_succ]; rfl)); (case' q9 => (exact fun _ _ _ h => h)); (case' g9 => rfl); (case' r9 => (try simp only [Act.put, List.setIfInBounds_toArray, List.set_cons_zero, List.set_cons_succ]))
              refine wpAnyH_take (i := 9) (oi := ?o10) (v := undef) ?a10 (by kernel_rfl) (by kernel_rfl) (by kernel_rfl) ?q10 (Or.inr ⟨?g10, rfl⟩) (by assumption) ?r10; (case' a10 => (simp only [List.getElem?_toArray, List.getElem?_cons_zero, List.getElem?_cons_succ]; rfl)); (case' q10 => (exact fun _ _ _ h => h)); (case' g10 => rfl); (case' r10 => (try simp only [Act.put, List.setIfInBounds_toArray, List.set_cons_zero, List.set_cons_succ]))
              refine wpAnyH_take (i := 10) (oi := ?o11) (v := undef) ?a11 (by kernel_rfl) (by kernel_rfl) (by kernel_rfl) ?q11 (Or.inr ⟨?g11, rfl⟩) (by assumption) ?r11; (case' a11 => (simp only [List.getElem?_toArray, List.getElem?_cons_zero, List.getElem?_cons_succ]; rfl)); (case' q11 => (exact fun _ _ _ h => h)); (case' g11 => rfl); (case' r11 => (try simp only [Act.put, List.setIfInBounds_toArray, List.set_cons_zero, List.set_cons_succ]))
              refine wpAnyH_take (i := 11) (oi := ?o12) (v := undef) ?a12 (by kernel_rfl) (by kernel_rfl) (by kernel_rfl) ?q12 (Or.inr ⟨?g12, rfl⟩) (by assumption) ?r12; (case' a12 => (simp only [List.getElem?_toArray, List.getElem?_cons_zero, List.getElem?_cons_succ]; rfl)); (case' q12 => (exact fun _ _ _ h => h)); (case' g12 => rfl); (case' r12 => (try simp only [Act.put, List.setIfInBounds_toArray, List.set_cons_zero, List.set_cons_succ]))
              refine wpAnyH_take (i := 12) (oi := ?o13) (v := undef) ?a13 (by kernel_rfl) (by kernel_rfl) (by kernel_rfl) ?q13 (Or.inr ⟨?g13, rfl⟩) (by assumption) ?r13; (case' a13 => (simp only [List.getElem?_toArray, List.getElem?_cons_zero, List.getElem?_cons_succ]; rfl)); (case' q13 => (exact fun _ _ _ h => h)); (case' g13 => rfl); (case' r13 => (try simp only [Act.put, List.setIfInBounds_toArray, List.set_cons_zero, List.set_cons_succ]))
              refine wpAnyH_take (i := 13) (oi := ?o14) (v := undef) ?a14 (by kernel_rfl) (by kernel_rfl) (by kernel_rfl) ?q14 (Or.inr ⟨?g14, rfl⟩) (by assumption) ?r14; (case' a14 => (simp only [List.getElem?_toArray, List.getElem?_cons_zero, List.getElem?_cons_succ]; rfl)); (case' q14 => (exact fun _ _ _ h => h)); (case' g14 => rfl); (case' r14 => (try simp only [Act.put, List.setIfInBounds_toArray, List.set_cons_zero, List.set_cons_succ]))
              refine wpAnyH_take (i := 14) (oi := ?o15) (v := undef) ?a15 (by kernel_rfl) (by kernel_rfl) (by kernel_rfl) ?q15 (Or.inr ⟨?g15, rfl⟩) (by assumption) ?r15; (case' a15 => (simp only [List.getElem?_toArray, List.getElem?_cons_zero, List.getElem?_cons_succ]; rfl)); (case' q15 => (exact fun _ _ _ h => h)); (case' g15 => rfl); (case' r15 => (try simp only [Act.put, List.setIfInBounds_toArray, List.set_cons_zero, List.set_cons_succ]))
              refine wpAnyH_take (i := 15) (oi := ?o16) (v := undef) ?a16 (by kernel_rfl) (by kernel_rfl) (by kernel_rfl) ?q16 (Or.inr ⟨?g16, rfl⟩) (by assumption) ?r16; (case' a16 => (simp only [List.getElem?_toArray, List.getElem?_cons_zero, List.getElem?_cons_succ]; rfl)); (case' q16 => (exact fun _ _ _ h => h)); (case' g16 => rfl); (case' r16 => (try simp only [Act.put, List.setIfInBounds_toArray, List.set_cons_zero, List.set_cons_succ]))
              refine wpAnyH_take (i := 16) (oi := ?o17) (v := undef) ?a17 (by kernel_rfl) (by kernel_rfl) (by kernel_rfl) ?q17 (Or.inr ⟨?g17, rfl⟩) (by assumption) ?r17; (case' a17 => (simp only [List.getElem?_toArray, List.getElem?_cons_zero, List.getElem?_cons_succ]; rfl)); (case' q17 => (exact fun _ _ _ h => h)); (case' g17 => rfl); (case' r17 => (try simp only [Act.put, List.setIfInBounds_toArray, List.set_cons_zero, List.set_cons_succ]))
              refine wpAnyH_take (i := 17) (oi := ?o18) (v := undef) ?a18 (by kernel_rfl) (by kernel_rfl) (by kernel_rfl) ?q18 (Or.inr ⟨?g18, rfl⟩) (by assumption) ?r18; (case' a18 => (simp only [List.getElem?_toArray, List.getElem?_cons_zero, List.getElem?_cons_succ]; rfl)); (case' q18 => (exact fun _ _ _ h => h)); (case' g18 => rfl); (case' r18 => (try simp only [Act.put, List.setIfInBounds_toArray, List.set_cons_zero, List.set_cons_succ]))
              refine wpAnyH_take (i := 18) (oi := ?o19) (v := undef) ?a19 (by kernel_rfl) (by kernel_rfl) (by kernel_rfl) ?q19 (Or.inr ⟨?g19, rfl⟩) (by assumption) ?r19; (case' a19 => (simp only [List.getElem?_toArray, List.getElem?_cons_zero, List.getElem?_cons_succ]; rfl)); (case' q19 => (exact fun _ _ _ h => h)); (case' g19 => rfl); (case' r19 => (try simp only [Act.put, List.setIfInBounds_toArray, List.set_cons_zero, List.set_cons_succ]))
              refine wpAnyH_take (i := 19) (oi := ?o20) (v := ?v20) ?a20 (by kernel_rfl) (by kernel_rfl) (by kernel_rfl) ?q20 (Or.inl ⟨?g20, ?y20⟩) (by assumption) ?r20; (case' a20 => (simp only [List.getElem?_toArray, List.getElem?_cons_zero, List.getElem?_cons_succ]; rfl)); (case' q20 => (exact fun _ _ _ h => h)); (case' g20 => rfl); (case' y20 => (intro w hSw; (try dsimp only at hSw); go_simp; try with_reducible rfl)); (case' r20 => (try simp only [Act.put, List.setIfInBounds_toArray, List.set_cons_zero, List.set_cons_succ]))
              refine wpAnyH_done (by kernel_rfl) ?_ _
              have HWN := Lib.hid hHeld.2
              clear hHeld
              go_wp2_with fail
              go_ret2
              exact ⟨HBW.out.trans (HWN.out.mono HBW.out.size), .inl ⟨by rw [HX1.out]; decide, by rw [HX1.out]; rfl⟩⟩
            exact AllReadyH.nil
          | true =>
            have HMAY := Lib.hid hv
            clear hv
            by_cases hk0 : k = 0
            · have h0 : decide ((0 : Int) < (k : Int)) = false := decide_eq_false (by omega)
              have HR : Hid (0 < k → ∀ y, l[k - 1]? = some y → lessB y.m.name s.m.name = true) := Lib.hid (fun q => absurd q (by omega))
              have h0n : decide (0 < k) = false := decide_eq_false (by omega)
              have h0' : ¬ (0 : Int) < (k : Int) := by omega
              have h0n' : ¬ 0 < k := by omega
              clear hk0
              obtain ⟨gp, hgp⟩ : ∃ gp, H = gp := ⟨_, rfl⟩
              obtain ⟨op, hop⟩ : ∃ op : Nat, 0 = op := ⟨_, rfl⟩
              obtain ⟨pr, hpr⟩ : ∃ pr, nm = pr := ⟨_, rfl⟩
              have BB := Lib.hid (And.intro b0 (And.intro b1 (And.intro b2 (And.intro b3 (show W.cell? ⟨gp, op, none⟩ = some (.string pr) from (by rw [← hgp, ← hop, ← hpr]; exact b0))))))
              clear b0 b1 b2 b3 hgp hop hpr
              refine wp_region_held_drew (S := fun w' => (w'.cell? ⟨H, 0, none⟩ = some (.string nm) ∧ w'.cell? ⟨H, 1, none⟩ = some (.slice At tn ct) ∧ w'.cell? ⟨H, 2, none⟩ = some (.int .i64 tm) ∧ w'.cell? ⟨H, 3, none⟩ = some (.int .i64 sn) ∧ w'.cell? ⟨gp, op, none⟩ = some (.string pr)) ∧ Below W.heap.size W w') (by kernel_rfl) (keep5c BB.out) (fun hHeld => ?_)
              refine wpAnyH_take (i := 0) (oi := ?o21) (v := ?v21) ?a21 (by kernel_rfl) (by kernel_rfl) (by kernel_rfl) ?q21 (Or.inl ⟨?g21, ?y21⟩) (by assumption) ?r21; (case' a21 => (simp only [List.getElem?_toArray, List.getElem?_cons_zero]; rfl)); (case' q21 => (exact fun _ _ _ h => h)); (case' g21 => rfl); (case' y21 => (intro w hSw; (try dsimp only at hSw); go_simp; try with_reducible rfl)); (case' r21 => (try simp only [Act.put, List.setIfInBounds_toArray, List.set_cons_zero, List.set_cons_succ]))
              refine wpAnyH_ready (rs := [1]) (by kernel_rfl) (by simp) ?_
              refine AllReadyH.cons (o := ?o22) ?a22 (fun K hK => ?s22) ?m22; (case' a22 => (simp only [List.getElem?_toArray, List.getElem?_cons_zero, List.getElem?_cons_succ]; rfl))
              case s22 =>
                go_simp
                go_at_call 47
                refine (FIT _ hHeld.2).mono ?_
                rintro e wn ⟨rfl, hbn⟩
                go_wp2_with fail
                refine hK.out _ _ (keep5b hHeld hbn) (fun hHeld => ?_)
                clear hK K
                (try simp only [Act.put, List.setIfInBounds_toArray, List.set_cons_zero, List.set_cons_succ])
                refine wpAnyH_take (i := 2) (oi := ?o23) (v := ?v23) ?a23 (by kernel_rfl) (by kernel_rfl) (by kernel_rfl) ?q23 (Or.inl ⟨?g23, ?y23⟩) (by assumption) ?r23; (case' a23 => (simp only [List.getElem?_toArray, List.getElem?_cons_zero, List.getElem?_cons_succ]; rfl)); (case' q23 => (exact fun _ _ _ h => h)); (case' g23 => rfl); (case' y23 => (intro w hSw; (try dsimp only at hSw); go_simp; try with_reducible rfl)); (case' r23 => (try simp only [Act.put, List.setIfInBounds_toArray, List.set_cons_zero, List.set_cons_succ]))
                refine wpAnyH_take (i := 3) (oi := ?o24) (v := ?v24) ?a24 (by kernel_rfl) (by kernel_rfl) (by kernel_rfl) ?q24 (Or.inl ⟨?g24, ?y24⟩) (by assumption) ?r24; (case' a24 => (simp only [List.getElem?_toArray, List.getElem?_cons_zero, List.getElem?_cons_succ]; rfl)); (case' q24 => (exact fun _ _ _ h => h)); (case' g24 => rfl); (case' y24 => (intro w hSw; (try dsimp only at hSw); go_simp; try with_reducible rfl)); (case' r24 => (try simp only [Act.put, List.setIfInBounds_toArray, List.set_cons_zero, List.set_cons_succ]))
                refine wpAnyH_take (i := 4) (oi := ?o25) (v := ?v25) ?a25 (by kernel_rfl) (by kernel_rfl) (by kernel_rfl) ?q25 (Or.inl ⟨?g25, ?y25⟩) (by assumption) ?r25; (case' a25 => (simp only [List.getElem?_toArray, List.getElem?_cons_zero, List.getElem?_cons_succ]; rfl)); (case' q25 => (exact fun _ _ _ h => h)); (case' g25 => rfl); (case' y25 => (intro w hSw; (try dsimp only at hSw); go_simp; try with_reducible rfl)); (case' r25 => (try simp only [Act.put, List.setIfInBounds_toArray, List.set_cons_zero, List.set_cons_succ]))
                refine wpAnyH_take (i := 5) (oi := ?o26) (v := ?v26) ?a26 (by kernel_rfl) (by kernel_rfl) (by kernel_rfl) ?q26 (Or.inl ⟨?g26, ?y26⟩) (by assumption) ?r26; (case' a26 => (simp only [List.getElem?_toArray, List.getElem?_cons_zero, List.getElem?_cons_succ]; rfl)); (case' q26 => (exact fun _ _ _ h => h)); (case' g26 => rfl); (case' y26 => (intro w hSw; (try dsimp only at hSw); go_simp; try with_reducible rfl)); (case' r26 => (try simp only [Act.put, List.setIfInBounds_toArray, List.set_cons_zero, List.set_cons_succ]))
                refine wpAnyH_take (i := 6) (oi := ?o27) (v := ?v27) ?a27 (by kernel_rfl) (by kernel_rfl) (by kernel_rfl) ?q27 (Or.inl ⟨?g27, ?y27⟩) (by assumption) ?r27; (case' a27 => (simp only [List.getElem?_toArray, List.getElem?_cons_zero, List.getElem?_cons_succ]; rfl)); (case' q27 => (exact fun _ _ _ h => h)); (case' g27 => rfl); (case' y27 => (intro w hSw; (try dsimp only at hSw); go_simp; try with_reducible rfl)); (case' r27 => (try simp only [Act.put, List.setIfInBounds_toArray, List.set_cons_zero, List.set_cons_succ]))
                refine wpAnyH_take (i := 7) (oi := ?o28) (v := undef) ?a28 (by kernel_rfl) (by kernel_rfl) (by kernel_rfl) ?q28 (Or.inr ⟨?g28, rfl⟩) (by assumption) ?r28; (case' a28 => (simp only [List.getElem?_toArray, List.getElem?_cons_zero, List.getElem?_cons_succ]; rfl)); (case' q28 => (exact fun _ _ _ h => h)); (case' g28 => rfl); (case' r28 => (try simp only [Act.put, List.setIfInBounds_toArray, List.set_cons_zero, List.set_cons_succ]))
                refine wpAnyH_take (i := 8) (oi := ?o29) (v := undef) ?a29 (by kernel_rfl) (by kernel_rfl) (by kernel_rfl) ?q29 (Or.inr ⟨?g29, rfl⟩) (by assumption) ?r29; (case' a29 => (simp only [List.getElem?_toArray, List.getElem?_cons_zero, List.getElem?_cons_succ]; rfl)); (case' q29 => (exact fun _ _ _ h => h)); (case' g29 => rfl); (case' r29 => (try simp only [Act.put, List.setIfInBounds_toArray, List.set_cons_zero, List.set_cons_succ]))
                refine wpAnyH_take (i := 9) (oi := ?o30) (v := undef) ?a30 (by kernel_rfl) (by kernel_rfl) (by kernel_rfl) ?q30 (Or.inr ⟨?g30, rfl⟩) (by assumption) ?r30; (case' a30 => (simp only [List.getElem?_toArray, List.getElem?_cons_zero, List.getElem?_cons_succ]; rfl)); (case' q30 => (exact fun _ _ _ h => h)); (case' g30 => rfl); (case' r30 => (try simp only [Act.put, List.setIfInBounds_toArray, List.set_cons_zero, List.set_cons_succ]))
                refine wpAnyH_take (i := 10) (oi := ?o31) (v := undef) ?a31 (by kernel_rfl) (by kernel_rfl) (by kernel_rfl) ?q31 (Or.inr ⟨?g31, rfl⟩) (by assumption) ?r31; (case' a31 => (simp only [List.getElem?_toArray, List.getElem?_cons_zero, List.getElem?_cons_succ]; rfl)); (case' q31 => (exact fun _ _ _ h => h)); (case' g31 => rfl); (case' r31 => (try simp only [Act.put, List.setIfInBounds_toArray, List.set_cons_zero, List.set_cons_succ]))
                refine wpAnyH_take (i := 11) (oi := ?o32) (v := undef) ?a32 (by kernel_rfl) (by kernel_rfl) (by kernel_rfl) ?q32 (Or.inr ⟨?g32, rfl⟩) (by assumption) ?r32; (case' a32 => (simp only [List.getElem?_toArray, List.getElem?_cons_zero, List.getElem?_cons_succ]; rfl)); (case' q32 => (exact fun _ _ _ h => h)); (case' g32 => rfl); (case' r32 => (try simp only [Act.put, List.setIfInBounds_toArray, List.set_cons_zero, List.set_cons_succ]))
                refine wpAnyH_take (i := 12) (oi := ?o33) (v := undef) ?a33 (by kernel_rfl) (by kernel_rfl) (by kernel_rfl) ?q33 (Or.inr ⟨?g33, rfl⟩) (by assumption) ?r33; (case' a33 => (simp only [List.getElem?_toArray, List.getElem?_cons_zero, List.getElem?_cons_succ]; rfl)); (case' q33 => (exact fun _ _ _ h => h)); (case' g33 => rfl); (case' r33 => (try simp only [Act.put, List.setIfInBounds_toArray, List.set_cons_zero, List.set_cons_succ]))
                refine wpAnyH_take (i := 13) (oi := ?o34) (v := undef) ?a34 (by kernel_rfl) (by kernel_rfl) (by kernel_rfl) ?q34 (Or.inr ⟨?g34, rfl⟩) (by assumption) ?r34; (case' a34 => (simp only [List.getElem?_toArray, List.getElem?_cons_zero, List.getElem?_cons_succ]; rfl)); (case' q34 => (exact fun _ _ _ h => h)); (case' g34 => rfl); (case' r34 => (try simp only [Act.put, List.setIfInBounds_toArray, List.set_cons_zero, List.set_cons_succ]))
                refine wpAnyH_take (i := 14) (oi := ?o35) (v := undef) ?a35 (by kernel_rfl) (by kernel_rfl) (by kernel_rfl) ?q35 (Or.inr ⟨?g35, rfl⟩) (by assumption) ?r35; (case' a35 => (simp only [List.getElem?_toArray, List.getElem?_cons_zero, List.getElem?_cons_succ]; rfl)); (case' q35 => (exact fun _ _ _ h => h)); (case' g35 => rfl); (case' r35 => (try simp only [Act.put, List.setIfInBounds_toArray, List.set_cons_zero, List.set_cons_succ]))
                refine wpAnyH_take (i := 15) (oi := ?o36) (v := undef) ?a36 (by kernel_rfl) (by kernel_rfl) (by kernel_rfl) ?q36 (Or.inr ⟨?g36, rfl⟩) (by assumption) ?r36; (case' a36 => (simp only [List.getElem?_toArray, List.getElem?_cons_zero, List.getElem?_cons_succ]; rfl)); (case' q36 => (exact fun _ _ _ h => h)); (case' g36 => rfl); (case' r36 => (try simp only [Act.put, List.setIfInBounds_toArray, List.set_cons_zero, List.set_cons_succ]))
                refine wpAnyH_take (i := 16) (oi := ?o37) (v := undef) ?a37 (by kernel_rfl) (by kernel_rfl) (by kernel_rfl) ?q37 (Or.inr ⟨?g37, rfl⟩) (by assumption) ?r37; (case' a37 => (simp only [List.getElem?_toArray, List.getElem?_cons_zero, List.getElem?_cons_succ]; rfl)); (case' q37 => (exact fun _ _ _ h => h)); (case' g37 => rfl); (case' r37 => (try simp only [Act.put, List.setIfInBounds_toArray, List.set_cons_zero, List.set_cons_succ]))
                refine wpAnyH_take (i := 17) (oi := ?o38) (v := undef) ?a38 (by kernel_rfl) (by kernel_rfl) (by kernel_rfl) ?q38 (Or.inr ⟨?g38, rfl⟩) (by assumption) ?r38; (case' a38 => (simp only [List.getElem?_toArray, List.getElem?_cons_zero, List.getElem?_cons_succ]; rfl)); (case' q38 => (exact fun _ _ _ h => h)); (case' g38 => rfl); (case' r38 => (try simp only [Act.put, List.setIfInBounds_toArray, List.set_cons_zero, List.set_cons_succ]))
                refine wpAnyH_take (i := 18) (oi := ?o39) (v := ?v39) ?a39 (by kernel_rfl) (by kernel_rfl) (by kernel_rfl) ?q39 (Or.inl ⟨?g39, ?y39⟩) (by assumption) ?r39; (case' a39 => (simp only [List.getElem?_toArray, List.getElem?_cons_zero, List.getElem?_cons_succ]; rfl)); (case' q39 => (exact fun _ _ _ h => h)); (case' g39 => rfl); (case' y39 => (intro w hSw; (try dsimp only at hSw); go_simp; try with_reducible rfl)); (case' r39 => (try simp only [Act.put, List.setIfInBounds_toArray, List.set_cons_zero, List.set_cons_succ]))
                refine wpAnyH_take (i := 19) (oi := ?o40) (v := ?v40) ?a40 (by kernel_rfl) (by kernel_rfl) (by kernel_rfl) ?q40 (Or.inl ⟨?g40, ?y40⟩) (by assumption) ?r40; (case' a40 => (simp only [List.getElem?_toArray, List.getElem?_cons_zero, List.getElem?_cons_succ]; rfl)); (case' q40 => (exact fun _ _ _ h => h)); (case' g40 => rfl); (case' y40 => (intro w hSw; (try dsimp only at hSw); go_simp; try with_reducible rfl)); (case' r40 => (try simp only [Act.put, List.setIfInBounds_toArray, List.set_cons_zero, List.set_cons_succ]))
                refine wpAnyH_done (by kernel_rfl) ?_ _
                have HWN := Lib.hid hHeld.2
                obtain ⟨⟨y0, y1, y2, y3, -⟩, -⟩ := hHeld
                have HG2 := Lib.hid (HL.out.gp.below (HWW.out.trans (HWN.out.mono HWW.out.size)))
                go_wp2_with (go_at_call 49; refine (seat_is s nm At tm sn HG2 hk1 HS (Lib.hid (HRT.out.below (HBW.out.trans (HWN.out.mono HBW.out.size)))) HZ htn1).mono ?_; rintro e w3 ⟨rfl, hg3, ho3⟩; have HL3 := Lib.hid (HL.out.next (HWW.out.trans (HWN.out.mono HWW.out.size)) hg3 ho3 HST.out HKN.out HMAY.out HR.out); clear hg3 ho3)
                go_roundw
                case rel => exact ⟨k + 1, by omega, by go_num, HL3⟩
                case measure => simp [intOf]; omega
              exact AllReadyH.nil
            · obtain ⟨j, hj⟩ : ∃ j, k = j + 1 := ⟨k - 1, by omega⟩
              obtain ⟨sp, hpr⟩ : ∃ pr, l[j]? = some pr := ⟨l[j]'(by have := HKN.out; omega), List.getElem?_eq_getElem _⟩
              obtain ⟨_, _, _, f0, _⟩ := HGT.out j _ hpr
              obtain ⟨pr, hprn⟩ : ∃ nm, sp.m.name = nm := ⟨_, rfl⟩
              rw [hprn] at f0
              have g0 := cell_b HBW.out f0
              have HPR : Hid (l[k - 1]? = some sp) := Lib.hid (by rw [show k - 1 = j by omega]; exact hpr)
              have i1 : IntKind.i64.wrap ((k : Int) - 1) = (k : Int) - 1 := by rw [IntKind.wrap_i64]; omega
              have j0 : (0 : Int) ≤ (k : Int) - 1 := by omega
              have j1 : (k : Int) - 1 < (n : Int) := by omega
              have j2 : (0 : Int) < (k : Int) := by omega
              have j4 : 0 < k := by omega
              have j5 : (1 : Int) ≤ (k : Int) := by omega
              have j6 : 1 ≤ k := by omega
              have j7 : (k : Int) ≤ (n : Int) := by omega
              have j3 : ((k : Int) - 1).toNat = j := by omega
              have j9 : decide ((0 : Int) < (k : Int)) = true := decide_eq_true (by omega)
              have j10 : decide (0 < k) = true := decide_eq_true (by omega)
              have hleq := leq_less nm pr
              have HPN : Hid (sp.m.name = pr) := Lib.hid hprn
              have BB := Lib.hid (And.intro b0 (And.intro b1 (And.intro b2 (And.intro b3 g0))))
              clear b0 b1 b2 b3 g0 f0 hpr hk0 hprn
              cases hb : lessB pr nm with
              | true =>
                have HR : Hid (0 < k → ∀ y, l[k - 1]? = some y → lessB y.m.name s.m.name = true) := Lib.hid (fun _ y hy => by rw [HPR.out] at hy; injection hy with hy; subst hy; rw [HPN.out, HS.out.1]; exact hb)
                rw [hb] at hleq
                have q3 : Op.bytesLess nm.toList pr.toList = false := (Bool.or_eq_false_iff.1 hleq).1
                have q4 : (nm.toList == pr.toList) = false := (Bool.or_eq_false_iff.1 hleq).2
                clear hb hleq hj
                refine wp_region_held_drew (S := fun w' => (w'.cell? ⟨H, 0, none⟩ = some (.string nm) ∧ w'.cell? ⟨H, 1, none⟩ = some (.slice At tn ct) ∧ w'.cell? ⟨H, 2, none⟩ = some (.int .i64 tm) ∧ w'.cell? ⟨H, 3, none⟩ = some (.int .i64 sn) ∧ w'.cell? ⟨ga, j * 4, none⟩ = some (.string pr)) ∧ Below W.heap.size W w') (by kernel_rfl) (keep5c BB.out) (fun hHeld => ?_)
                refine wpAnyH_take (i := 0) (oi := ?o41) (v := ?v41) ?a41 (by kernel_rfl) (by kernel_rfl) (by kernel_rfl) ?q41 (Or.inl ⟨?g41, ?y41⟩) (by assumption) ?r41; (case' a41 => (simp only [List.getElem?_toArray, List.getElem?_cons_zero]; rfl)); (case' q41 => (exact fun _ _ _ h => h)); (case' g41 => rfl); (case' y41 => (intro w hSw; (try dsimp only at hSw); go_simp; try with_reducible rfl)); (case' r41 => (try simp only [Act.put, List.setIfInBounds_toArray, List.set_cons_zero, List.set_cons_succ]))
                refine wpAnyH_ready (rs := [1]) (by kernel_rfl) (by simp) ?_
                refine AllReadyH.cons (o := ?o42) ?a42 (fun K hK => ?s42) ?m42; (case' a42 => (simp only [List.getElem?_toArray, List.getElem?_cons_zero, List.getElem?_cons_succ]; rfl))
                case s42 =>
                  go_simp
                  go_at_call 47
                  refine (FIT _ hHeld.2).mono ?_
                  rintro e wn ⟨rfl, hbn⟩
                  go_wp2_with fail
                  refine hK.out _ _ (keep5b hHeld hbn) (fun hHeld => ?_)
                  clear hK K
                  (try simp only [Act.put, List.setIfInBounds_toArray, List.set_cons_zero, List.set_cons_succ])
                  refine wpAnyH_take (i := 2) (oi := ?o43) (v := ?v43) ?a43 (by kernel_rfl) (by kernel_rfl) (by kernel_rfl) ?q43 (Or.inl ⟨?g43, ?y43⟩) (by assumption) ?r43; (case' a43 => (simp only [List.getElem?_toArray, List.getElem?_cons_zero, List.getElem?_cons_succ]; rfl)); (case' q43 => (exact fun _ _ _ h => h)); (case' g43 => rfl); (case' y43 => (intro w hSw; (try dsimp only at hSw); go_simp; try with_reducible rfl)); (case' r43 => (try simp only [Act.put, List.setIfInBounds_toArray, List.set_cons_zero, List.set_cons_succ]))
                  refine wpAnyH_take (i := 3) (oi := ?o44) (v := ?v44) ?a44 (by kernel_rfl) (by kernel_rfl) (by kernel_rfl) ?q44 (Or.inl ⟨?g44, ?y44⟩) (by assumption) ?r44; (case' a44 => (simp only [List.getElem?_toArray, List.getElem?_cons_zero, List.getElem?_cons_succ]; rfl)); (case' q44 => (exact fun _ _ _ h => h)); (case' g44 => rfl); (case' y44 => (intro w hSw; (try dsimp only at hSw); go_simp; try with_reducible rfl)); (case' r44 => (try simp only [Act.put, List.setIfInBounds_toArray, List.set_cons_zero, List.set_cons_succ]))
                  refine wpAnyH_take (i := 4) (oi := ?o45) (v := ?v45) ?a45 (by kernel_rfl) (by kernel_rfl) (by kernel_rfl) ?q45 (Or.inl ⟨?g45, ?y45⟩) (by assumption) ?r45; (case' a45 => (simp only [List.getElem?_toArray, List.getElem?_cons_zero, List.getElem?_cons_succ]; rfl)); (case' q45 => (exact fun _ _ _ h => h)); (case' g45 => rfl); (case' y45 => (intro w hSw; (try dsimp only at hSw); go_simp; try with_reducible rfl)); (case' r45 => (try simp only [Act.put, List.setIfInBounds_toArray, List.set_cons_zero, List.set_cons_succ]))
                  refine wpAnyH_take (i := 5) (oi := ?o46) (v := ?v46) ?a46 (by kernel_rfl) (by kernel_rfl) (by kernel_rfl) ?q46 (Or.inl ⟨?g46, ?y46⟩) (by assumption) ?r46; (case' a46 => (simp only [List.getElem?_toArray, List.getElem?_cons_zero, List.getElem?_cons_succ]; rfl)); (case' q46 => (exact fun _ _ _ h => h)); (case' g46 => rfl); (case' y46 => (intro w hSw; (try dsimp only at hSw); go_simp; try with_reducible rfl)); (case' r46 => (try simp only [Act.put, List.setIfInBounds_toArray, List.set_cons_zero, List.set_cons_succ]))
                  refine wpAnyH_take (i := 6) (oi := ?o47) (v := ?v47) ?a47 (by kernel_rfl) (by kernel_rfl) (by kernel_rfl) ?q47 (Or.inl ⟨?g47, ?y47⟩) (by assumption) ?r47; (case' a47 => (simp only [List.getElem?_toArray, List.getElem?_cons_zero, List.getElem?_cons_succ]; rfl)); (case' q47 => (exact fun _ _ _ h => h)); (case' g47 => rfl); (case' y47 => (intro w hSw; (try dsimp only at hSw); go_simp; try with_reducible rfl)); (case' r47 => (try simp only [Act.put, List.setIfInBounds_toArray, List.set_cons_zero, List.set_cons_succ]))
                  refine wpAnyH_take (i := 7) (oi := ?o48) (v := ?v48) ?a48 (by kernel_rfl) (by kernel_rfl) (by kernel_rfl) ?q48 (Or.inl ⟨?g48, ?y48⟩) (by assumption) ?r48; (case' a48 => (simp only [List.getElem?_toArray, List.getElem?_cons_zero, List.getElem?_cons_succ]; rfl)); (case' q48 => (exact fun _ _ _ h => h)); (case' g48 => rfl); (case' y48 => (intro w hSw; (try dsimp only at hSw); go_simp; try with_reducible rfl)); (case' r48 => (try simp only [Act.put, List.setIfInBounds_toArray, List.set_cons_zero, List.set_cons_succ]))
                  refine wpAnyH_take (i := 8) (oi := ?o49) (v := ?v49) ?a49 (by kernel_rfl) (by kernel_rfl) (by kernel_rfl) ?q49 (Or.inl ⟨?g49, ?y49⟩) (by assumption) ?r49; (case' a49 => (simp only [List.getElem?_toArray, List.getElem?_cons_zero, List.getElem?_cons_succ]; rfl)); (case' q49 => (exact fun _ _ _ h => h)); (case' g49 => rfl); (case' y49 => (intro w hSw; (try dsimp only at hSw); go_simp; try with_reducible rfl)); (case' r49 => (try simp only [Act.put, List.setIfInBounds_toArray, List.set_cons_zero, List.set_cons_succ]))
                  refine wpAnyH_take (i := 9) (oi := ?o50) (v := ?v50) ?a50 (by kernel_rfl) (by kernel_rfl) (by kernel_rfl) ?q50 (Or.inl ⟨?g50, ?y50⟩) (by assumption) ?r50; (case' a50 => (simp only [List.getElem?_toArray, List.getElem?_cons_zero, List.getElem?_cons_succ]; rfl)); (case' q50 => (exact fun _ _ _ h => h)); (case' g50 => rfl); (case' y50 => (intro w hSw; (try dsimp only at hSw); go_simp; try with_reducible rfl)); (case' r50 => (try simp only [Act.put, List.setIfInBounds_toArray, List.set_cons_zero, List.set_cons_succ]))
                  refine wpAnyH_take (i := 10) (oi := ?o51) (v := ?v51) ?a51 (by kernel_rfl) (by kernel_rfl) (by kernel_rfl) ?q51 (Or.inl ⟨?g51, ?y51⟩) (by assumption) ?r51; (case' a51 => (simp only [List.getElem?_toArray, List.getElem?_cons_zero, List.getElem?_cons_succ]; rfl)); (case' q51 => (exact fun _ _ _ h => h)); (case' g51 => rfl); (case' y51 => (intro w hSw; (try dsimp only at hSw); go_simp; try with_reducible rfl)); (case' r51 => (try simp only [Act.put, List.setIfInBounds_toArray, List.set_cons_zero, List.set_cons_succ]))
                  refine wpAnyH_take (i := 11) (oi := ?o52) (v := ?v52) ?a52 (by kernel_rfl) (by kernel_rfl) (by kernel_rfl) ?q52 (Or.inl ⟨?g52, ?y52⟩) (by assumption) ?r52; (case' a52 => (simp only [List.getElem?_toArray, List.getElem?_cons_zero, List.getElem?_cons_succ]; rfl)); (case' q52 => (exact fun _ _ _ h => h)); (case' g52 => rfl); (case' y52 => (intro w hSw; (try dsimp only at hSw); go_simp; try with_reducible rfl)); (case' r52 => (try simp only [Act.put, List.setIfInBounds_toArray, List.set_cons_zero, List.set_cons_succ]))
                  refine wpAnyH_take (i := 12) (oi := ?o53) (v := ?v53) ?a53 (by kernel_rfl) (by kernel_rfl) (by kernel_rfl) ?q53 (Or.inl ⟨?g53, ?y53⟩) (by assumption) ?r53; (case' a53 => (simp only [List.getElem?_toArray, List.getElem?_cons_zero, List.getElem?_cons_succ]; rfl)); (case' q53 => (exact fun _ _ _ h => h)); (case' g53 => rfl); (case' y53 => (intro w hSw; (try dsimp only at hSw); go_simp; try with_reducible rfl)); (case' r53 => (try simp only [Act.put, List.setIfInBounds_toArray, List.set_cons_zero, List.set_cons_succ]))
                  refine wpAnyH_take (i := 13) (oi := ?o54) (v := ?v54) ?a54 (by kernel_rfl) (by kernel_rfl) (by kernel_rfl) ?q54 (Or.inl ⟨?g54, ?y54⟩) (by assumption) ?r54; (case' a54 => (simp only [List.getElem?_toArray, List.getElem?_cons_zero, List.getElem?_cons_succ]; rfl)); (case' q54 => (exact fun _ _ _ h => h)); (case' g54 => rfl); (case' y54 => (intro w hSw; (try dsimp only at hSw); go_simp; try with_reducible rfl)); (case' r54 => (try simp only [Act.put, List.setIfInBounds_toArray, List.set_cons_zero, List.set_cons_succ]))
                  refine wpAnyH_take (i := 14) (oi := ?o55) (v := ?v55) ?a55 (by kernel_rfl) (by kernel_rfl) (by kernel_rfl) ?q55 (Or.inl ⟨?g55, ?y55⟩) (by assumption) ?r55; (case' a55 => (simp only [List.getElem?_toArray, List.getElem?_cons_zero, List.getElem?_cons_succ]; rfl)); (case' q55 => (exact fun _ _ _ h => h)); (case' g55 => rfl); (case' y55 => (intro w hSw; (try dsimp only at hSw); go_simp; try with_reducible rfl)); (case' r55 => (try simp only [Act.put, List.setIfInBounds_toArray, List.set_cons_zero, List.set_cons_succ]))
                  refine wpAnyH_take (i := 15) (oi := ?o56) (v := ?v56) ?a56 (by kernel_rfl) (by kernel_rfl) (by kernel_rfl) ?q56 (Or.inl ⟨?g56, ?y56⟩) (by assumption) ?r56; (case' a56 => (simp only [List.getElem?_toArray, List.getElem?_cons_zero, List.getElem?_cons_succ]; rfl)); (case' q56 => (exact fun _ _ _ h => h)); (case' g56 => rfl); (case' y56 => (intro w hSw; (try dsimp only at hSw); go_simp; try with_reducible rfl)); (case' r56 => (try simp only [Act.put, List.setIfInBounds_toArray, List.set_cons_zero, List.set_cons_succ]))
                  refine wpAnyH_take (i := 16) (oi := ?o57) (v := ?v57) ?a57 (by kernel_rfl) (by kernel_rfl) (by kernel_rfl) ?q57 (Or.inl ⟨?g57, ?y57⟩) (by assumption) ?r57; (case' a57 => (simp only [List.getElem?_toArray, List.getElem?_cons_zero, List.getElem?_cons_succ]; rfl)); (case' q57 => (exact fun _ _ _ h => h)); (case' g57 => rfl); (case' y57 => (intro w hSw; (try dsimp only at hSw); go_simp; try with_reducible rfl)); (case' r57 => (try simp only [Act.put, List.setIfInBounds_toArray, List.set_cons_zero, List.set_cons_succ]))
                  refine wpAnyH_take (i := 17) (oi := ?o58) (v := ?v58) ?a58 (by kernel_rfl) (by kernel_rfl) (by kernel_rfl) ?q58 (Or.inl ⟨?g58, ?y58⟩) (by assumption) ?r58; (case' a58 => (simp only [List.getElem?_toArray, List.getElem?_cons_zero, List.getElem?_cons_succ]; rfl)); (case' q58 => (exact fun _ _ _ h => h)); (case' g58 => rfl); (case' y58 => (intro w hSw; (try dsimp only at hSw); go_simp; try with_reducible rfl)); (case' r58 => (try simp only [Act.put, List.setIfInBounds_toArray, List.set_cons_zero, List.set_cons_succ]))
                  refine wpAnyH_take (i := 18) (oi := ?o59) (v := ?v59) ?a59 (by kernel_rfl) (by kernel_rfl) (by kernel_rfl) ?q59 (Or.inl ⟨?g59, ?y59⟩) (by assumption) ?r59; (case' a59 => (simp only [List.getElem?_toArray, List.getElem?_cons_zero, List.getElem?_cons_succ]; rfl)); (case' q59 => (exact fun _ _ _ h => h)); (case' g59 => rfl); (case' y59 => (intro w hSw; (try dsimp only at hSw); go_simp; try with_reducible rfl)); (case' r59 => (try simp only [Act.put, List.setIfInBounds_toArray, List.set_cons_zero, List.set_cons_succ]))
                  refine wpAnyH_take (i := 19) (oi := ?o60) (v := ?v60) ?a60 (by kernel_rfl) (by kernel_rfl) (by kernel_rfl) ?q60 (Or.inl ⟨?g60, ?y60⟩) (by assumption) ?r60; (case' a60 => (simp only [List.getElem?_toArray, List.getElem?_cons_zero, List.getElem?_cons_succ]; rfl)); (case' q60 => (exact fun _ _ _ h => h)); (case' g60 => rfl); (case' y60 => (intro w hSw; (try dsimp only at hSw); go_simp; try with_reducible rfl)); (case' r60 => (try simp only [Act.put, List.setIfInBounds_toArray, List.set_cons_zero, List.set_cons_succ]))
                  refine wpAnyH_done (by kernel_rfl) ?_ _
                  have HWN := Lib.hid hHeld.2
                  obtain ⟨⟨y0, y1, y2, y3, -⟩, -⟩ := hHeld
                  have HG2 := Lib.hid (HL.out.gp.below (HWW.out.trans (HWN.out.mono HWW.out.size)))
                  go_wp2_with (go_at_call 49; refine (seat_is s nm At tm sn HG2 hk1 HS (Lib.hid (HRT.out.below (HBW.out.trans (HWN.out.mono HBW.out.size)))) HZ htn1).mono ?_; rintro e w3 ⟨rfl, hg3, ho3⟩; have HL3 := Lib.hid (HL.out.next (HWW.out.trans (HWN.out.mono HWW.out.size)) hg3 ho3 HST.out HKN.out HMAY.out HR.out); clear hg3 ho3)
                  go_roundw
                  case rel => exact ⟨k + 1, by omega, by go_num, HL3⟩
                  case measure => simp [intOf]; omega
                exact AllReadyH.nil
              | false =>
                have HX1 : Hid (x = 1) := Lib.hid (loadG_bad HX.out H8.out (load_badS HKN.out (fun q => by have := (q s HST.out).2 (by omega) sp HPR.out; rw [HPN.out, HS.out.1, hb] at this; cases this)))
                rw [hb] at hleq
                have qq : Op.bytesLess nm.toList pr.toList = true ∨ (Op.bytesLess nm.toList pr.toList = false ∧ (nm.toList == pr.toList) = true) := by
                  cases e : Op.bytesLess nm.toList pr.toList with
                  | true => exact .inl rfl
                  | false => rw [e] at hleq; exact .inr ⟨rfl, hleq⟩
                clear hb hleq hj
                rcases qq with q3 | ⟨q3, q4⟩
                ·
                  refine wp_region_held_drew (S := fun w' => (w'.cell? ⟨H, 0, none⟩ = some (.string nm) ∧ w'.cell? ⟨H, 1, none⟩ = some (.slice At tn ct) ∧ w'.cell? ⟨H, 2, none⟩ = some (.int .i64 tm) ∧ w'.cell? ⟨H, 3, none⟩ = some (.int .i64 sn) ∧ w'.cell? ⟨ga, j * 4, none⟩ = some (.string pr)) ∧ Below W.heap.size W w') (by kernel_rfl) (keep5c BB.out) (fun hHeld => ?_)
                  refine wpAnyH_take (i := 0) (oi := ?o61) (v := ?v61) ?a61 (by kernel_rfl) (by kernel_rfl) (by kernel_rfl) ?q61 (Or.inl ⟨?g61, ?y61⟩) (by assumption) ?r61; (case' a61 => (simp only [List.getElem?_toArray, List.getElem?_cons_zero]; rfl)); (case' q61 => (exact fun _ _ _ h => h)); (case' g61 => rfl); (case' y61 => (intro w hSw; (try dsimp only at hSw); go_simp; try with_reducible rfl)); (case' r61 => (try simp only [Act.put, List.setIfInBounds_toArray, List.set_cons_zero, List.set_cons_succ]))
                  refine wpAnyH_ready (rs := [1]) (by kernel_rfl) (by simp) ?_
                  refine AllReadyH.cons (o := ?o62) ?a62 (fun K hK => ?s62) ?m62; (case' a62 => (simp only [List.getElem?_toArray, List.getElem?_cons_zero, List.getElem?_cons_succ]; rfl))
                  case s62 =>
                    go_simp
                    go_at_call 47
                    refine (FIT _ hHeld.2).mono ?_
                    rintro e wn ⟨rfl, hbn⟩
                    go_wp2_with fail
                    refine hK.out _ _ (keep5b hHeld hbn) (fun hHeld => ?_)
                    clear hK K
                    (try simp only [Act.put, List.setIfInBounds_toArray, List.set_cons_zero, List.set_cons_succ])
                    refine wpAnyH_take (i := 2) (oi := ?o63) (v := ?v63) ?a63 (by kernel_rfl) (by kernel_rfl) (by kernel_rfl) ?q63 (Or.inl ⟨?g63, ?y63⟩) (by assumption) ?r63; (case' a63 => (simp only [List.getElem?_toArray, List.getElem?_cons_zero, List.getElem?_cons_succ]; rfl)); (case' q63 => (exact fun _ _ _ h => h)); (case' g63 => rfl); (case' y63 => (intro w hSw; (try dsimp only at hSw); go_simp; try with_reducible rfl)); (case' r63 => (try simp only [Act.put, List.setIfInBounds_toArray, List.set_cons_zero, List.set_cons_succ]))
                    refine wpAnyH_take (i := 3) (oi := ?o64) (v := ?v64) ?a64 (by kernel_rfl) (by kernel_rfl) (by kernel_rfl) ?q64 (Or.inl ⟨?g64, ?y64⟩) (by assumption) ?r64; (case' a64 => (simp only [List.getElem?_toArray, List.getElem?_cons_zero, List.getElem?_cons_succ]; rfl)); (case' q64 => (exact fun _ _ _ h => h)); (case' g64 => rfl); (case' y64 => (intro w hSw; (try dsimp only at hSw); go_simp; try with_reducible rfl)); (case' r64 => (try simp only [Act.put, List.setIfInBounds_toArray, List.set_cons_zero, List.set_cons_succ]))
                    refine wpAnyH_take (i := 4) (oi := ?o65) (v := ?v65) ?a65 (by kernel_rfl) (by kernel_rfl) (by kernel_rfl) ?q65 (Or.inl ⟨?g65, ?y65⟩) (by assumption) ?r65; (case' a65 => (simp only [List.getElem?_toArray, List.getElem?_cons_zero, List.getElem?_cons_succ]; rfl)); (case' q65 => (exact fun _ _ _ h => h)); (case' g65 => rfl); (case' y65 => (intro w hSw; (try dsimp only at hSw); go_simp; try with_reducible rfl)); (case' r65 => (try simp only [Act.put, List.setIfInBounds_toArray, List.set_cons_zero, List.set_cons_succ]))
                    refine wpAnyH_take (i := 5) (oi := ?o66) (v := ?v66) ?a66 (by kernel_rfl) (by kernel_rfl) (by kernel_rfl) ?q66 (Or.inl ⟨?g66, ?y66⟩) (by assumption) ?r66; (case' a66 => (simp only [List.getElem?_toArray, List.getElem?_cons_zero, List.getElem?_cons_succ]; rfl)); (case' q66 => (exact fun _ _ _ h => h)); (case' g66 => rfl); (case' y66 => (intro w hSw; (try dsimp only at hSw); go_simp; try with_reducible rfl)); (case' r66 => (try simp only [Act.put, List.setIfInBounds_toArray, List.set_cons_zero, List.set_cons_succ]))
                    refine wpAnyH_take (i := 6) (oi := ?o67) (v := ?v67) ?a67 (by kernel_rfl) (by kernel_rfl) (by kernel_rfl) ?q67 (Or.inl ⟨?g67, ?y67⟩) (by assumption) ?r67; (case' a67 => (simp only [List.getElem?_toArray, List.getElem?_cons_zero, List.getElem?_cons_succ]; rfl)); (case' q67 => (exact fun _ _ _ h => h)); (case' g67 => rfl); (case' y67 => (intro w hSw; (try dsimp only at hSw); go_simp; try with_reducible rfl)); (case' r67 => (try simp only [Act.put, List.setIfInBounds_toArray, List.set_cons_zero, List.set_cons_succ]))
                    refine wpAnyH_take (i := 7) (oi := ?o68) (v := ?v68) ?a68 (by kernel_rfl) (by kernel_rfl) (by kernel_rfl) ?q68 (Or.inl ⟨?g68, ?y68⟩) (by assumption) ?r68; (case' a68 => (simp only [List.getElem?_toArray, List.getElem?_cons_zero, List.getElem?_cons_succ]; rfl)); (case' q68 => (exact fun _ _ _ h => h)); (case' g68 => rfl); (case' y68 => (intro w hSw; (try dsimp only at hSw); go_simp; try with_reducible rfl)); (case' r68 => (try simp only [Act.put, List.setIfInBounds_toArray, List.set_cons_zero, List.set_cons_succ]))
                    refine wpAnyH_take (i := 8) (oi := ?o69) (v := ?v69) ?a69 (by kernel_rfl) (by kernel_rfl) (by kernel_rfl) ?q69 (Or.inl ⟨?g69, ?y69⟩) (by assumption) ?r69; (case' a69 => (simp only [List.getElem?_toArray, List.getElem?_cons_zero, List.getElem?_cons_succ]; rfl)); (case' q69 => (exact fun _ _ _ h => h)); (case' g69 => rfl); (case' y69 => (intro w hSw; (try dsimp only at hSw); go_simp; try with_reducible rfl)); (case' r69 => (try simp only [Act.put, List.setIfInBounds_toArray, List.set_cons_zero, List.set_cons_succ]))
                    refine wpAnyH_take (i := 9) (oi := ?o70) (v := ?v70) ?a70 (by kernel_rfl) (by kernel_rfl) (by kernel_rfl) ?q70 (Or.inl ⟨?g70, ?y70⟩) (by assumption) ?r70; (case' a70 => (simp only [List.getElem?_toArray, List.getElem?_cons_zero, List.getElem?_cons_succ]; rfl)); (case' q70 => (exact fun _ _ _ h => h)); (case' g70 => rfl); (case' y70 => (intro w hSw; (try dsimp only at hSw); go_simp; try with_reducible rfl)); (case' r70 => (try simp only [Act.put, List.setIfInBounds_toArray, List.set_cons_zero, List.set_cons_succ]))
                    refine wpAnyH_take (i := 10) (oi := ?o71) (v := ?v71) ?a71 (by kernel_rfl) (by kernel_rfl) (by kernel_rfl) ?q71 (Or.inl ⟨?g71, ?y71⟩) (by assumption) ?r71; (case' a71 => (simp only [List.getElem?_toArray, List.getElem?_cons_zero, List.getElem?_cons_succ]; rfl)); (case' q71 => (exact fun _ _ _ h => h)); (case' g71 => rfl); (case' y71 => (intro w hSw; (try dsimp only at hSw); go_simp; try with_reducible rfl)); (case' r71 => (try simp only [Act.put, List.setIfInBounds_toArray, List.set_cons_zero, List.set_cons_succ]))
                    refine wpAnyH_take (i := 11) (oi := ?o72) (v := ?v72) ?a72 (by kernel_rfl) (by kernel_rfl) (by kernel_rfl) ?q72 (Or.inl ⟨?g72, ?y72⟩) (by assumption) ?r72; (case' a72 => (simp only [List.getElem?_toArray, List.getElem?_cons_zero, List.getElem?_cons_succ]; rfl)); (case' q72 => (exact fun _ _ _ h => h)); (case' g72 => rfl); (case' y72 => (intro w hSw; (try dsimp only at hSw); go_simp; try with_reducible rfl)); (case' r72 => (try simp only [Act.put, List.setIfInBounds_toArray, List.set_cons_zero, List.set_cons_succ]))
                    refine wpAnyH_take (i := 12) (oi := ?o73) (v := ?v73) ?a73 (by kernel_rfl) (by kernel_rfl) (by kernel_rfl) ?q73 (Or.inl ⟨?g73, ?y73⟩) (by assumption) ?r73; (case' a73 => (simp only [List.getElem?_toArray, List.getElem?_cons_zero, List.getElem?_cons_succ]; rfl)); (case' q73 => (exact fun _ _ _ h => h)); (case' g73 => rfl); (case' y73 => (intro w hSw; (try dsimp only at hSw); go_simp; try with_reducible rfl)); (case' r73 => (try simp only [Act.put, List.setIfInBounds_toArray, List.set_cons_zero, List.set_cons_succ]))
                    refine wpAnyH_take (i := 13) (oi := ?o74) (v := ?v74) ?a74 (by kernel_rfl) (by kernel_rfl) (by kernel_rfl) ?q74 (Or.inl ⟨?g74, ?y74⟩) (by assumption) ?r74; (case' a74 => (simp only [List.getElem?_toArray, List.getElem?_cons_zero, List.getElem?_cons_succ]; rfl)); (case' q74 => (exact fun _ _ _ h => h)); (case' g74 => rfl); (case' y74 => (intro w hSw; (try dsimp only at hSw); go_simp; try with_reducible rfl)); (case' r74 => (try simp only [Act.put, List.setIfInBounds_toArray, List.set_cons_zero, List.set_cons_succ]))
                    refine wpAnyH_take (i := 14) (oi := ?o75) (v := ?v75) ?a75 (by kernel_rfl) (by kernel_rfl) (by kernel_rfl) ?q75 (Or.inl ⟨?g75, ?y75⟩) (by assumption) ?r75; (case' a75 => (simp only [List.getElem?_toArray, List.getElem?_cons_zero, List.getElem?_cons_succ]; rfl)); (case' q75 => (exact fun _ _ _ h => h)); (case' g75 => rfl); (case' y75 => (intro w hSw; (try dsimp only at hSw); go_simp; try with_reducible rfl)); (case' r75 => (try simp only [Act.put, List.setIfInBounds_toArray, List.set_cons_zero, List.set_cons_succ]))
                    refine wpAnyH_take (i := 15) (oi := ?o76) (v := ?v76) ?a76 (by kernel_rfl) (by kernel_rfl) (by kernel_rfl) ?q76 (Or.inl ⟨?g76, ?y76⟩) (by assumption) ?r76; (case' a76 => (simp only [List.getElem?_toArray, List.getElem?_cons_zero, List.getElem?_cons_succ]; rfl)); (case' q76 => (exact fun _ _ _ h => h)); (case' g76 => rfl); (case' y76 => (intro w hSw; (try dsimp only at hSw); go_simp; try with_reducible rfl)); (case' r76 => (try simp only [Act.put, List.setIfInBounds_toArray, List.set_cons_zero, List.set_cons_succ]))
                    refine wpAnyH_take (i := 16) (oi := ?o77) (v := ?v77) ?a77 (by kernel_rfl) (by kernel_rfl) (by kernel_rfl) ?q77 (Or.inl ⟨?g77, ?y77⟩) (by assumption) ?r77; (case' a77 => (simp only [List.getElem?_toArray, List.getElem?_cons_zero, List.getElem?_cons_succ]; rfl)); (case' q77 => (exact fun _ _ _ h => h)); (case' g77 => rfl); (case' y77 => (intro w hSw; (try dsimp only at hSw); go_simp; try with_reducible rfl)); (case' r77 => (try simp only [Act.put, List.setIfInBounds_toArray, List.set_cons_zero, List.set_cons_succ]))
                    refine wpAnyH_take (i := 17) (oi := ?o78) (v := ?v78) ?a78 (by kernel_rfl) (by kernel_rfl) (by kernel_rfl) ?q78 (Or.inl ⟨?g78, ?y78⟩) (by assumption) ?r78; (case' a78 => (simp only [List.getElem?_toArray, List.getElem?_cons_zero, List.getElem?_cons_succ]; rfl)); (case' q78 => (exact fun _ _ _ h => h)); (case' g78 => rfl); (case' y78 => (intro w hSw; (try dsimp only at hSw); go_simp; try with_reducible rfl)); (case' r78 => (try simp only [Act.put, List.setIfInBounds_toArray, List.set_cons_zero, List.set_cons_succ]))
                    refine wpAnyH_take (i := 18) (oi := ?o79) (v := ?v79) ?a79 (by kernel_rfl) (by kernel_rfl) (by kernel_rfl) ?q79 (Or.inl ⟨?g79, ?y79⟩) (by assumption) ?r79; (case' a79 => (simp only [List.getElem?_toArray, List.getElem?_cons_zero, List.getElem?_cons_succ]; rfl)); (case' q79 => (exact fun _ _ _ h => h)); (case' g79 => rfl); (case' y79 => (intro w hSw; (try dsimp only at hSw); go_simp; try with_reducible rfl)); (case' r79 => (try simp only [Act.put, List.setIfInBounds_toArray, List.set_cons_zero, List.set_cons_succ]))
                    refine wpAnyH_take (i := 19) (oi := ?o80) (v := ?v80) ?a80 (by kernel_rfl) (by kernel_rfl) (by kernel_rfl) ?q80 (Or.inl ⟨?g80, ?y80⟩) (by assumption) ?r80; (case' a80 => (simp only [List.getElem?_toArray, List.getElem?_cons_zero, List.getElem?_cons_succ]; rfl)); (case' q80 => (exact fun _ _ _ h => h)); (case' g80 => rfl); (case' y80 => (intro w hSw; (try dsimp only at hSw); go_simp; try with_reducible rfl)); (case' r80 => (try simp only [Act.put, List.setIfInBounds_toArray, List.set_cons_zero, List.set_cons_succ]))
                    refine wpAnyH_done (by kernel_rfl) ?_ _
                    have HWN := Lib.hid hHeld.2
                    clear hHeld
                    go_wp2_with fail
                    go_ret2
                    exact ⟨HBW.out.trans (HWN.out.mono HBW.out.size), .inl ⟨by rw [HX1.out]; decide, by rw [HX1.out]; rfl⟩⟩
                  exact AllReadyH.nil
                ·
                  refine wp_region_held_drew (S := fun w' => (w'.cell? ⟨H, 0, none⟩ = some (.string nm) ∧ w'.cell? ⟨H, 1, none⟩ = some (.slice At tn ct) ∧ w'.cell? ⟨H, 2, none⟩ = some (.int .i64 tm) ∧ w'.cell? ⟨H, 3, none⟩ = some (.int .i64 sn) ∧ w'.cell? ⟨ga, j * 4, none⟩ = some (.string pr)) ∧ Below W.heap.size W w') (by kernel_rfl) (keep5c BB.out) (fun hHeld => ?_)
                  refine wpAnyH_take (i := 0) (oi := ?o81) (v := ?v81) ?a81 (by kernel_rfl) (by kernel_rfl) (by kernel_rfl) ?q81 (Or.inl ⟨?g81, ?y81⟩) (by assumption) ?r81; (case' a81 => (simp only [List.getElem?_toArray, List.getElem?_cons_zero]; rfl)); (case' q81 => (exact fun _ _ _ h => h)); (case' g81 => rfl); (case' y81 => (intro w hSw; (try dsimp only at hSw); go_simp; try with_reducible rfl)); (case' r81 => (try simp only [Act.put, List.setIfInBounds_toArray, List.set_cons_zero, List.set_cons_succ]))
                  refine wpAnyH_ready (rs := [1]) (by kernel_rfl) (by simp) ?_
                  refine AllReadyH.cons (o := ?o82) ?a82 (fun K hK => ?s82) ?m82; (case' a82 => (simp only [List.getElem?_toArray, List.getElem?_cons_zero, List.getElem?_cons_succ]; rfl))
                  case s82 =>
                    go_simp
                    go_at_call 47
                    refine (FIT _ hHeld.2).mono ?_
                    rintro e wn ⟨rfl, hbn⟩
                    go_wp2_with fail
                    refine hK.out _ _ (keep5b hHeld hbn) (fun hHeld => ?_)
                    clear hK K
                    (try simp only [Act.put, List.setIfInBounds_toArray, List.set_cons_zero, List.set_cons_succ])
                    refine wpAnyH_take (i := 2) (oi := ?o83) (v := ?v83) ?a83 (by kernel_rfl) (by kernel_rfl) (by kernel_rfl) ?q83 (Or.inl ⟨?g83, ?y83⟩) (by assumption) ?r83; (case' a83 => (simp only [List.getElem?_toArray, List.getElem?_cons_zero, List.getElem?_cons_succ]; rfl)); (case' q83 => (exact fun _ _ _ h => h)); (case' g83 => rfl); (case' y83 => (intro w hSw; (try dsimp only at hSw); go_simp; try with_reducible rfl)); (case' r83 => (try simp only [Act.put, List.setIfInBounds_toArray, List.set_cons_zero, List.set_cons_succ]))
                    refine wpAnyH_take (i := 3) (oi := ?o84) (v := ?v84) ?a84 (by kernel_rfl) (by kernel_rfl) (by kernel_rfl) ?q84 (Or.inl ⟨?g84, ?y84⟩) (by assumption) ?r84; (case' a84 => (simp only [List.getElem?_toArray, List.getElem?_cons_zero, List.getElem?_cons_succ]; rfl)); (case' q84 => (exact fun _ _ _ h => h)); (case' g84 => rfl); (case' y84 => (intro w hSw; (try dsimp only at hSw); go_simp; try with_reducible rfl)); (case' r84 => (try simp only [Act.put, List.setIfInBounds_toArray, List.set_cons_zero, List.set_cons_succ]))
                    refine wpAnyH_take (i := 4) (oi := ?o85) (v := ?v85) ?a85 (by kernel_rfl) (by kernel_rfl) (by kernel_rfl) ?q85 (Or.inl ⟨?g85, ?y85⟩) (by assumption) ?r85; (case' a85 => (simp only [List.getElem?_toArray, List.getElem?_cons_zero, List.getElem?_cons_succ]; rfl)); (case' q85 => (exact fun _ _ _ h => h)); (case' g85 => rfl); (case' y85 => (intro w hSw; (try dsimp only at hSw); go_simp; try with_reducible rfl)); (case' r85 => (try simp only [Act.put, List.setIfInBounds_toArray, List.set_cons_zero, List.set_cons_succ]))
                    refine wpAnyH_take (i := 5) (oi := ?o86) (v := ?v86) ?a86 (by kernel_rfl) (by kernel_rfl) (by kernel_rfl) ?q86 (Or.inl ⟨?g86, ?y86⟩) (by assumption) ?r86; (case' a86 => (simp only [List.getElem?_toArray, List.getElem?_cons_zero, List.getElem?_cons_succ]; rfl)); (case' q86 => (exact fun _ _ _ h => h)); (case' g86 => rfl); (case' y86 => (intro w hSw; (try dsimp only at hSw); go_simp; try with_reducible rfl)); (case' r86 => (try simp only [Act.put, List.setIfInBounds_toArray, List.set_cons_zero, List.set_cons_succ]))
                    refine wpAnyH_take (i := 6) (oi := ?o87) (v := ?v87) ?a87 (by kernel_rfl) (by kernel_rfl) (by kernel_rfl) ?q87 (Or.inl ⟨?g87, ?y87⟩) (by assumption) ?r87; (case' a87 => (simp only [List.getElem?_toArray, List.getElem?_cons_zero, List.getElem?_cons_succ]; rfl)); (case' q87 => (exact fun _ _ _ h => h)); (case' g87 => rfl); (case' y87 => (intro w hSw; (try dsimp only at hSw); go_simp; try with_reducible rfl)); (case' r87 => (try simp only [Act.put, List.setIfInBounds_toArray, List.set_cons_zero, List.set_cons_succ]))
                    refine wpAnyH_take (i := 7) (oi := ?o88) (v := ?v88) ?a88 (by kernel_rfl) (by kernel_rfl) (by kernel_rfl) ?q88 (Or.inl ⟨?g88, ?y88⟩) (by assumption) ?r88; (case' a88 => (simp only [List.getElem?_toArray, List.getElem?_cons_zero, List.getElem?_cons_succ]; rfl)); (case' q88 => (exact fun _ _ _ h => h)); (case' g88 => rfl); (case' y88 => (intro w hSw; (try dsimp only at hSw); go_simp; try with_reducible rfl)); (case' r88 => (try simp only [Act.put, List.setIfInBounds_toArray, List.set_cons_zero, List.set_cons_succ]))
                    refine wpAnyH_take (i := 8) (oi := ?o89) (v := ?v89) ?a89 (by kernel_rfl) (by kernel_rfl) (by kernel_rfl) ?q89 (Or.inl ⟨?g89, ?y89⟩) (by assumption) ?r89; (case' a89 => (simp only [List.getElem?_toArray, List.getElem?_cons_zero, List.getElem?_cons_succ]; rfl)); (case' q89 => (exact fun _ _ _ h => h)); (case' g89 => rfl); (case' y89 => (intro w hSw; (try dsimp only at hSw); go_simp; try with_reducible rfl)); (case' r89 => (try simp only [Act.put, List.setIfInBounds_toArray, List.set_cons_zero, List.set_cons_succ]))
                    refine wpAnyH_take (i := 9) (oi := ?o90) (v := ?v90) ?a90 (by kernel_rfl) (by kernel_rfl) (by kernel_rfl) ?q90 (Or.inl ⟨?g90, ?y90⟩) (by assumption) ?r90; (case' a90 => (simp only [List.getElem?_toArray, List.getElem?_cons_zero, List.getElem?_cons_succ]; rfl)); (case' q90 => (exact fun _ _ _ h => h)); (case' g90 => rfl); (case' y90 => (intro w hSw; (try dsimp only at hSw); go_simp; try with_reducible rfl)); (case' r90 => (try simp only [Act.put, List.setIfInBounds_toArray, List.set_cons_zero, List.set_cons_succ]))
                    refine wpAnyH_take (i := 10) (oi := ?o91) (v := ?v91) ?a91 (by kernel_rfl) (by kernel_rfl) (by kernel_rfl) ?q91 (Or.inl ⟨?g91, ?y91⟩) (by assumption) ?r91; (case' a91 => (simp only [List.getElem?_toArray, List.getElem?_cons_zero, List.getElem?_cons_succ]; rfl)); (case' q91 => (exact fun _ _ _ h => h)); (case' g91 => rfl); (case' y91 => (intro w hSw; (try dsimp only at hSw); go_simp; try with_reducible rfl)); (case' r91 => (try simp only [Act.put, List.setIfInBounds_toArray, List.set_cons_zero, List.set_cons_succ]))
                    refine wpAnyH_take (i := 11) (oi := ?o92) (v := ?v92) ?a92 (by kernel_rfl) (by kernel_rfl) (by kernel_rfl) ?q92 (Or.inl ⟨?g92, ?y92⟩) (by assumption) ?r92; (case' a92 => (simp only [List.getElem?_toArray, List.getElem?_cons_zero, List.getElem?_cons_succ]; rfl)); (case' q92 => (exact fun _ _ _ h => h)); (case' g92 => rfl); (case' y92 => (intro w hSw; (try dsimp only at hSw); go_simp; try with_reducible rfl)); (case' r92 => (try simp only [Act.put, List.setIfInBounds_toArray, List.set_cons_zero, List.set_cons_succ]))
                    refine wpAnyH_take (i := 12) (oi := ?o93) (v := ?v93) ?a93 (by kernel_rfl) (by kernel_rfl) (by kernel_rfl) ?q93 (Or.inl ⟨?g93, ?y93⟩) (by assumption) ?r93; (case' a93 => (simp only [List.getElem?_toArray, List.getElem?_cons_zero, List.getElem?_cons_succ]; rfl)); (case' q93 => (exact fun _ _ _ h => h)); (case' g93 => rfl); (case' y93 => (intro w hSw; (try dsimp only at hSw); go_simp; try with_reducible rfl)); (case' r93 => (try simp only [Act.put, List.setIfInBounds_toArray, List.set_cons_zero, List.set_cons_succ]))
                    refine wpAnyH_take (i := 13) (oi := ?o94) (v := ?v94) ?a94 (by kernel_rfl) (by kernel_rfl) (by kernel_rfl) ?q94 (Or.inl ⟨?g94, ?y94⟩) (by assumption) ?r94; (case' a94 => (simp only [List.getElem?_toArray, List.getElem?_cons_zero, List.getElem?_cons_succ]; rfl)); (case' q94 => (exact fun _ _ _ h => h)); (case' g94 => rfl); (case' y94 => (intro w hSw; (try dsimp only at hSw); go_simp; try with_reducible rfl)); (case' r94 => (try simp only [Act.put, List.setIfInBounds_toArray, List.set_cons_zero, List.set_cons_succ]))
                    refine wpAnyH_take (i := 14) (oi := ?o95) (v := ?v95) ?a95 (by kernel_rfl) (by kernel_rfl) (by kernel_rfl) ?q95 (Or.inl ⟨?g95, ?y95⟩) (by assumption) ?r95; (case' a95 => (simp only [List.getElem?_toArray, List.getElem?_cons_zero, List.getElem?_cons_succ]; rfl)); (case' q95 => (exact fun _ _ _ h => h)); (case' g95 => rfl); (case' y95 => (intro w hSw; (try dsimp only at hSw); go_simp; try with_reducible rfl)); (case' r95 => (try simp only [Act.put, List.setIfInBounds_toArray, List.set_cons_zero, List.set_cons_succ]))
                    refine wpAnyH_take (i := 15) (oi := ?o96) (v := ?v96) ?a96 (by kernel_rfl) (by kernel_rfl) (by kernel_rfl) ?q96 (Or.inl ⟨?g96, ?y96⟩) (by assumption) ?r96; (case' a96 => (simp only [List.getElem?_toArray, List.getElem?_cons_zero, List.getElem?_cons_succ]; rfl)); (case' q96 => (exact fun _ _ _ h => h)); (case' g96 => rfl); (case' y96 => (intro w hSw; (try dsimp only at hSw); go_simp; try with_reducible rfl)); (case' r96 => (try simp only [Act.put, List.setIfInBounds_toArray, List.set_cons_zero, List.set_cons_succ]))
                    refine wpAnyH_take (i := 16) (oi := ?o97) (v := ?v97) ?a97 (by kernel_rfl) (by kernel_rfl) (by kernel_rfl) ?q97 (Or.inl ⟨?g97, ?y97⟩) (by assumption) ?r97; (case' a97 => (simp only [List.getElem?_toArray, List.getElem?_cons_zero, List.getElem?_cons_succ]; rfl)); (case' q97 => (exact fun _ _ _ h => h)); (case' g97 => rfl); (case' y97 => (intro w hSw; (try dsimp only at hSw); go_simp; try with_reducible rfl)); (case' r97 => (try simp only [Act.put, List.setIfInBounds_toArray, List.set_cons_zero, List.set_cons_succ]))
                    refine wpAnyH_take (i := 17) (oi := ?o98) (v := ?v98) ?a98 (by kernel_rfl) (by kernel_rfl) (by kernel_rfl) ?q98 (Or.inl ⟨?g98, ?y98⟩) (by assumption) ?r98; (case' a98 => (simp only [List.getElem?_toArray, List.getElem?_cons_zero, List.getElem?_cons_succ]; rfl)); (case' q98 => (exact fun _ _ _ h => h)); (case' g98 => rfl); (case' y98 => (intro w hSw; (try dsimp only at hSw); go_simp; try with_reducible rfl)); (case' r98 => (try simp only [Act.put, List.setIfInBounds_toArray, List.set_cons_zero, List.set_cons_succ]))
                    refine wpAnyH_take (i := 18) (oi := ?o99) (v := ?v99) ?a99 (by kernel_rfl) (by kernel_rfl) (by kernel_rfl) ?q99 (Or.inl ⟨?g99, ?y99⟩) (by assumption) ?r99; (case' a99 => (simp only [List.getElem?_toArray, List.getElem?_cons_zero, List.getElem?_cons_succ]; rfl)); (case' q99 => (exact fun _ _ _ h => h)); (case' g99 => rfl); (case' y99 => (intro w hSw; (try dsimp only at hSw); go_simp; try with_reducible rfl)); (case' r99 => (try simp only [Act.put, List.setIfInBounds_toArray, List.set_cons_zero, List.set_cons_succ]))
                    refine wpAnyH_take (i := 19) (oi := ?o100) (v := ?v100) ?a100 (by kernel_rfl) (by kernel_rfl) (by kernel_rfl) ?q100 (Or.inl ⟨?g100, ?y100⟩) (by assumption) ?r100; (case' a100 => (simp only [List.getElem?_toArray, List.getElem?_cons_zero, List.getElem?_cons_succ]; rfl)); (case' q100 => (exact fun _ _ _ h => h)); (case' g100 => rfl); (case' y100 => (intro w hSw; (try dsimp only at hSw); go_simp; try with_reducible rfl)); (case' r100 => (try simp only [Act.put, List.setIfInBounds_toArray, List.set_cons_zero, List.set_cons_succ]))
                    refine wpAnyH_done (by kernel_rfl) ?_ _
                    have HWN := Lib.hid hHeld.2
                    clear hHeld
                    go_wp2_with fail
                    go_ret2
                    exact ⟨HBW.out.trans (HWN.out.mono HBW.out.size), .inl ⟨by rw [HX1.out]; decide, by rw [HX1.out]; rfl⟩⟩
                  exact AllReadyH.nil
        · obtain rfl : k = n := by omega
          have htk : l.take k = l := List.take_of_length_le (by rw [hE.out.len]; exact Nat.le_refl _)
          have hlen := hE.out.len
          have hgood : GoodG G l := by
            have h1 := HL.out.ok
            rw [← hlen] at h1
            exact h1.good H8.out HW.out
          have HX0 : Hid (x = 0) := Lib.hid (loadG_ok HX.out H8.out HW.out (by have h1 := HL.out.ok; rw [← hlen] at h1; exact h1))
          have HGOOD := Lib.hid hgood
          have HF : Hid (Gp wr g b l.length G r l) := Lib.hid (by have h1 := HL.out.gp; rw [htk] at h1; rw [hlen]; exact h1)
          clear htk hlen hgood
          go_wp2_with fail
          go_ret2
          exact ⟨HL.out.bel, .inr ⟨HX0.out, HGOOD.out, g, b, rfl, HF.out, HL.out.hg, HL.out.hb⟩⟩
end Go.Proofs.Ytidgifnnkaheeaa.L11
/-
  Contracts: the members' seats are told.
-/
namespace Go.Proofs.Ytidgifnnkaheeaa.L11
open Go.RowKit
open Go.Maps
open L3 L4 L9 L10

theorem seatInfo : (Try.prog.info? 47).map (fun i => (i.zero, i.size, i.bytes)) = some (some (.agg #[.string ⟨#[]⟩, .slice none 0 0, .int .i64 0, .int .i64 0]), 4, 56) := by kernel_rfl
/-- a seat where it lies -/
structure Sv where
  s : Se
  A : Option Addr
  c : Nat
def rowE (l : List Sv) : List Value := l.flatMap (fun v => seC v.s v.A v.c)
theorem rowE_len (l : List Sv) : (rowE l).length = l.length * 4 := by
  induction l with
  | nil => rfl
  | cons d t ih => rw [rowE, List.flatMap_cons, List.length_append, ← rowE, ih]; simp [seC]; omega
theorem rowE_app (a b : List Sv) : rowE (a ++ b) = rowE a ++ rowE b := by simp [rowE]
theorem rowE_one (v : Sv) : rowE [v] = seC v.s v.A v.c := by simp [rowE]
theorem rowE_at : ∀ {l : List Sv} {i : Nat} {d : Sv}, l[i]? = some d → ∀ j : Nat, ∀ u, (seC d.s d.A d.c)[j]? = some u → (rowE l)[i * 4 + j]? = some u
  | [], i, d, h => by simp at h
  | a :: t, 0, d, h => fun j u hu => by
    simp at h; subst h
    rw [rowE, List.flatMap_cons, Nat.zero_mul, Nat.zero_add, List.getElem?_append_left (List.getElem?_eq_some_iff.1 hu).1]; exact hu
  | a :: t, i + 1, d, h => fun j u hu => by
    have ih := rowE_at (l := t) (i := i) (d := d) (by simpa using h) j u hu
    rw [rowE, List.flatMap_cons, List.getElem?_append_right (by simp [seC]; omega), ← rowE]
    rw [show (i + 1) * 4 + j - (seC a.s a.A a.c).length = i * 4 + j by simp [seC]; omega]; exact ih
/-- seats of one's own -/
structure OwnE (w : World) (B : Nat) (A : Option Addr) (n c : Nat) (vs : List Sv) : Prop where
  own : w.ownsRow B 47 4 (.slice A n c) n (rowE vs)
  len : vs.length = n
  rows : ∀ v ∈ vs, w.ownsRow B 9 1 (.slice v.A v.s.m.ts.length v.c) v.s.m.ts.length (v.s.m.ts.map (fun x => .string x))
theorem OwnE.base {w : World} {B B' n c : Nat} {A : Option Addr} {vs : List Sv} (h : OwnE w B A n c vs) (hB : B' ≤ B) : OwnE w B' A n c vs := ⟨own_base h.own hB, h.len, fun v hv => own_base (h.rows v hv) hB⟩
theorem OwnE.below {w w' : World} {B n c : Nat} {A : Option Addr} {vs : List Sv} (h : OwnE w B A n c vs) (hb : Below w.heap.size w w') : OwnE w' B A n c vs := ⟨own_below h.own hb, h.len, fun v hv => own_below (h.rows v hv) hb⟩
theorem OwnE.only {w w' : World} {B n c : Nat} {A : Option Addr} {vs : List Sv} {S : List Nat} (h : OwnE w B A n c vs) (o : Only S w w') (hS : ∀ k ∈ S, k < B) : OwnE w' B A n c vs :=
  ⟨own_at h.own (fun k hk => o.block k (h.own.lt k hk).2 (fun e => by have := hS k e; have := (h.own.lt k hk).1; omega)), h.len, fun v hv => own_at (h.rows v hv) (fun k hk => o.block k ((h.rows v hv).lt k hk).2 (fun e => by have := hS k e; have := ((h.rows v hv).lt k hk).1; omega))⟩
theorem OwnE.reads {w : World} {B n c : Nat} {A : Option Addr} {vs : List Sv} (h : OwnE w B A n c vs) : ReadsE w A (vs.map (·.s)) := fun h0 => by
  rw [List.length_map] at h0
  have hl := h.len
  rcases h.own.2 with ⟨_, e⟩ | ⟨g, cap, cur, e, h1, hh, _⟩
  · omega
  · injection e with e1; subst e1
    refine ⟨g, rfl, (Array.getElem?_eq_some_iff.1 hh).1, fun i s hs => ?_⟩
    rw [List.getElem?_map] at hs
    obtain ⟨v, hv, rfl⟩ := Option.map_eq_some_iff.1 hs
    have q := fun j u hu => h.own.cells (g := g) rfl (i * 4 + j) u (rowE_at hv j u hu)
    have q0 := q 0 _ rfl; have q1 := q 1 _ rfl; have q2 := q 2 _ rfl; have q3 := q 3 _ rfl
    rw [Addr.add_lit, Nat.zero_add] at q0 q1 q2 q3
    exact ⟨v.A, v.c, RowT.own (h.rows v (List.mem_of_getElem? hv)) rfl, q0, q1, q2, q3⟩
/-- what Seats tells -/
def SeatsP (w : World) (m : Nat) (Q : List Se) (e : Ending) (w' : World) : Prop :=
  ∃ A c vs, e = .returned (.slice A m c) ∧ vs.map (·.s) = Q ∧ OwnE w' w.heap.size A m c vs ∧ Below w.heap.size w w'
theorem OwnE.push {w5 W4 : World} {B n0 c0 nl c3 : Nat} {A0 A3 : Option Addr} {vs : List Sv} {s : Se} {v' : Value} (h : OwnE W4 B A0 n0 c0 vs)
    (ho3 : W4.ownsRow B 9 1 (.slice A3 nl c3) nl (s.m.ts.map (fun x => .string x))) (hnl : s.m.ts.length = nl)
    (hown : w5.ownsRow B 47 4 v' (n0 + 1) (rowE vs ++ seC s A3 c3)) (o : Obj) (hg : (W4.alloc o).grownBy w5 (Value.slice A0 n0 c0).ownBlock) : ∃ A c, v' = .slice A (n0 + 1) c ∧ OwnE w5 B A (n0 + 1) c (vs ++ [⟨s, A3, c3⟩]) := by
  obtain ⟨A, c, hv⟩ : ∃ A c, v' = .slice A (n0 + 1) c := by
    rcases hown.2 with ⟨_, e⟩ | ⟨g, cap, cur, e, _⟩
    · omega
    · exact ⟨_, _, e⟩
  subst hv
  have stay : ∀ {A' : Option Addr} {n' c' : Nat} {xs : List Value}, W4.ownsRow B 9 1 (.slice A' n' c') n' xs → w5.ownsRow B 9 1 (.slice A' n' c') n' xs := fun {A' n' c' xs} q => by
    refine own_at q (fun k hk => (hg.block k (by have := (q.lt k hk).2; simp; omega) (fun z => ?_)).trans ((one_box' o).block k (q.lt k hk).2))
    obtain ⟨cs, _, _, h1⟩ := own_bk' q hk
    obtain ⟨cs', _, _, h2⟩ := own_bk' h.own z.symm
    rw [h1] at h2; injection h2 with h2; injection h2 with _ h2; exact absurd h2 (by decide)
  refine ⟨A, c, rfl, ?_, by rw [List.length_append, h.len]; rfl, fun v hv => ?_⟩
  · rw [rowE_app, rowE_one]; exact hown
  · rcases List.mem_append.1 hv with hv | hv
    · exact stay (h.rows v hv)
    · rw [List.mem_singleton.1 hv]
      dsimp only
      rw [hnl]
      exact stay ho3
set_option maxRecDepth 100000 in
set_option maxHeartbeats 4000000 in
theorem seats_is {w : World} {g b N m : Nat} {G : Int} {r : Bool} {Q : List Se} (h : Hid (Gp w g b N G r Q)) (GG : Hid (GoodG G Q)) (hm : Hid (Q.length = m)) (hm8 : m ≤ 8) :
    Calls Try.prog 26 #[.pointer (some ⟨g, 0, none⟩)] w (SeatsP w m Q) := by
  obtain ⟨i0, hi0, hz0, hz1, hz2⟩ := info_parts seatInfo
  have HR := Lib.hid GG.out.rise
  go_enter Try.func26, Try.ntmps26
  go_wp2_with (go_at_call 50; refine (names_is h HR hm hm8).mono ?_; rintro e w1 ⟨An, cn, rfl, hown, hb1⟩; have HROW := Lib.hid hown; have HB1 := Lib.hid hb1; clear hown hb1)
  have HG1 := Lib.hid (h.out.below HB1.out)
  go_loopw [3, 10] (fun v i wr => ∃ (k : Nat) (A0 : Option Addr) (c0 : Nat) (vs : List Sv), k ≤ m ∧ i = .int .i64 k ∧ v = .slice A0 k c0 ∧ Hid (vs.map (·.s) = Q.take k ∧ OwnE wr w1.heap.size A0 k c0 vs ∧ Below w1.heap.size w1 wr)) (fun _ i _ => m - (intOf i).toNat)
  case atStart => exact ⟨0, none, 0, [], Nat.zero_le _, rfl, rfl, Lib.hid ⟨rfl, ⟨World.ownsRow_nil _ _ _ _, rfl, fun v hv => by cases hv⟩, Below.refl _ _⟩⟩
  case round =>
    obtain ⟨k, A0, c0, vs, hk, rfl, rfl, HI⟩ := hrel
    have HG := Lib.hid (HG1.out.below HI.out.2.2)
    have c2 := HG.out.c2
    by_cases hlt : k < m
    · obtain ⟨s, hs⟩ : ∃ s, Q[k]? = some s := ⟨_, List.getElem?_eq_getElem (by rw [hm.out]; exact hlt)⟩
      have hmay := GG.out.may s (List.mem_of_getElem? hs)
      have hfit := mayS_fit hmay
      obtain ⟨gn, rfl, hgnl, x0⟩ : ∃ gn, An = some ⟨gn, 0, none⟩ ∧ gn < w1.heap.size ∧ w1.cell? ⟨gn, k, none⟩ = some (.string s.m.name) := by
        rcases HROW.out.2 with ⟨_, e⟩ | ⟨gn, cap, cur, e, h1, hh, _⟩
        · omega
        · injection e with e1; subst e1
          have q := HROW.out.cells (g := gn) rfl k (.string s.m.name) (by rw [List.getElem?_map, List.getElem?_map, hs]; rfl)
          rw [Addr.add_lit, Nat.zero_add] at q
          exact ⟨gn, rfl, (Array.getElem?_eq_some_iff.1 hh).1, q⟩
      have x0 := cell_b HI.out.2.2 x0
      obtain ⟨At, ct, hrt, hlook⟩ := HG.out.map.look (List.mem_of_getElem? hs) (by have := hfit.1; unfold maxLen; omega)
      have hrun := hlook wr rfl
      have HRT := Lib.hid hrt
      obtain ⟨tn, htn⟩ : ∃ tn, s.m.ts.length = tn := ⟨_, rfl⟩
      have htn1 : tn ≤ 1000000 := by have := hfit.2.1; omega
      have HTN := Lib.hid htn
      have HST := Lib.hid hs
      rw [htn] at hrun
      obtain ⟨nm, hnm⟩ : ∃ nm, s.m.name = nm := ⟨_, rfl⟩
      obtain ⟨tm, htm⟩ : ∃ nm, s.tm = nm := ⟨_, rfl⟩
      obtain ⟨sn, hsn⟩ : ∃ nm, s.sn = nm := ⟨_, rfl⟩
      rw [hnm, htm, hsn] at hrun
      rw [hnm] at x0
      have HS : Hid (s.m.name = nm ∧ s.tm = tm ∧ s.sn = sn) := Lib.hid ⟨hnm, htm, hsn⟩
      have k0 : (0 : Int) ≤ (k : Int) := by omega
      have k1 : (k : Int) < (m : Int) := by omega
      obtain ⟨⟨b0, b1, b2, b3⟩, hbW⟩ := box_se (w := wr) (a := nm) (A := At) (n := tn) (c := ct) (t := tm) (e := sn)
      have hr2 := heap_alloc_new wr (.cells #[.string nm, .slice At tn ct, .int .i64 tm, .int .i64 sn] 47)
      obtain ⟨H, hH⟩ : ∃ H, wr.heap.size = H := ⟨_, rfl⟩
      obtain ⟨W2, hW2⟩ : ∃ W, wr.alloc (.cells #[.string nm, .slice At tn ct, .int .i64 tm, .int .i64 sn] 47) = W := ⟨_, rfl⟩
      rw [hW2] at b0 b1 b2 b3 hbW hr2
      rw [hH] at b0 b1 b2 b3 hr2
      have HHS := Lib.hid hH
      have HW2 := Lib.hid hbW
      have HR2 := Lib.hid hr2
      clear hs hmay hfit hrt hlook htn hnm htm hsn b0 b2 b3 hbW hr2
      go_wp2_with (first
        | (go_at_call 51; refine (cloneT_is At tn ct s.m.ts _ HTN htn1 (Lib.hid (HRT.out.below HW2.out))).mono ?_; rintro e w3 ⟨A3, c3, rfl, ho3, hb3⟩; have hr3 := (hb3.block H (Array.getElem?_eq_some_iff.1 HR2.out).1).trans HR2.out; have f0 : w3.frozen? ⟨H, 1, none⟩ = false := frozen_of_row _ _ _ _ _ hr3; have f1 : w3.cell? ⟨H, 1, none⟩ = some (.slice At tn ct) := (cell_of_row _ _ 1 _ _ _ hr3).trans rfl; obtain ⟨W4, hW4⟩ : ∃ W4, w3.setCell ⟨H, 1, none⟩ (.slice A3 tn c3) = W4 := ⟨_, rfl⟩; have hr4 : W4.heap[H]? = some (.cells #[.string nm, .slice A3 tn c3, .int .i64 tm, .int .i64 sn] 47 (0, 0)) := hW4 ▸ heap_setCell_same _ _ _ _ _ _ hr3; have HB4 : Hid (Below wr.heap.size wr W4) := Lib.hid (hW4 ▸ (HW2.out.trans (hb3.mono HW2.out.size)).setCell (by rw [HHS.out]; exact Nat.le_refl _) _); have HO3 : Hid (W4.ownsRow w1.heap.size 9 1 (.slice A3 tn c3) tn (s.m.ts.map (fun x => .string x))) := Lib.hid (hW4 ▸ own_base (own_at ho3 (fun j hj => Below.heap_setCell _ _ _ _ (fun z => by have q := (ho3.lt j hj).1; have q2 := (Array.getElem?_eq_some_iff.1 HR2.out).1; have z' : j = H := z; omega))) (Nat.le_trans HI.out.2.2.size HW2.out.size)); have g0 : W4.cell? ⟨H, 0, none⟩ = some (.string nm) := (cell_of_row _ _ 0 _ _ _ hr4).trans rfl; have g1 : W4.cell? ⟨H, 1, none⟩ = some (.slice A3 tn c3) := (cell_of_row _ _ 1 _ _ _ hr4).trans rfl; have g2 : W4.cell? ⟨H, 2, none⟩ = some (.int .i64 tm) := (cell_of_row _ _ 2 _ _ _ hr4).trans rfl; have g3 : W4.cell? ⟨H, 3, none⟩ = some (.int .i64 sn) := (cell_of_row _ _ 3 _ _ _ hr4).trans rfl; have HE4 := Lib.hid (HI.out.2.1.below HB4.out); clear ho3 hb3 hr3 hr4)
        | (at_builtin; refine wpList_append_own _ rfl _ _ 58 rfl w1.heap.size 47 i0 _ 4 56 Try.underlying58 hi0 hz0 hz1 hz2 rfl (by decide) _ _ _ rfl (HE4.out.own.alloc _) ⟨W4.heap.size, 0, none⟩ 1 1 [.string nm, .slice A3 tn c3, .int .i64 tm, .int .i64 sn] rfl rfl (World.news_of_block (cs := #[.string nm, .slice A3 tn c3, .int .i64 tm, .int .i64 sn]) (t := 47) (fr := (0, 0)) (heap_alloc_new W4 _)) (by simp [Value.oneCell']) (by unfold maxLen; omega) (by omega) (by have := HI.out.2.2.size; have := HB4.out.size; simp; omega) ?_; intro v' w5 hown' hgrow _))
      obtain ⟨h1, h2, h3⟩ := HS.out
      obtain ⟨A6, c6, rfl, hE6⟩ := HE4.out.push (s := s) HO3.out HTN.out (by unfold seC; rw [h1, h2, h3, HTN.out]; exact hown') _ hgrow
      obtain ⟨vs', hvs'⟩ : ∃ vs' : List Sv, vs ++ [⟨s, A3, c3⟩] = vs' := ⟨_, rfl⟩
      rw [hvs'] at hE6
      have HIN : Hid (vs'.map (·.s) = Q.take (k + 1) ∧ OwnE w5 w1.heap.size A6 (k + 1) c6 vs' ∧ Below w1.heap.size w1 w5) := Lib.hid ⟨by rw [← hvs', List.map_append, HI.out.1, List.take_add_one, HST.out]; rfl, hE6, by
        have q : Below w1.heap.size w1 W4 := HI.out.2.2.trans (HB4.out.mono HI.out.2.2.size)
        exact (q.alloc q.size _).grown hgrow (by have := q.size; simp; omega) (fun j e => (HE4.out.own.lt j e).1)⟩
      clear hown' hgrow hE6 h1 h2 h3
      go_roundw
      case rel => exact ⟨k + 1, A6, c6, _, by omega, by go_num, rfl, HIN⟩
      case measure => simp [intOf]; omega
    · obtain rfl : k = m := by omega
      have HF : Hid (vs.map (·.s) = Q) := Lib.hid (by rw [HI.out.1, List.take_of_length_le (by rw [hm.out]; exact Nat.le_refl _)])
      go_wp2_with fail
      go_ret
      exact ⟨A0, c0, vs, rfl, HF.out, HI.out.2.1.base HB1.out.size, HB1.out.trans (HI.out.2.2.mono HB1.out.size)⟩
end Go.Proofs.Ytidgifnnkaheeaa.L11
/-
  Contracts: which member; a member's partitions.
-/
namespace Go.Proofs.Ytidgifnnkaheeaa.L11
open Go.RowKit
open Go.Maps
open L3 L4 L9 L10

set_option maxRecDepth 100000 in
set_option maxHeartbeats 1000000 in
/-- the first place of a text that is there -/
theorem index_is (g n c i : Nat) (l : List ByteArray) (x : ByteArray) (w : World) (hn : Hid (l.length = n)) (hc : Hid (∀ j s, l[j]? = some s → w.cell? ⟨g, j, none⟩ = some (.string s))) (hi : i < n) (hx : Hid (l[i]? = some x)) (hne : Hid (∀ j < i, ∀ s, l[j]? = some s → s ≠ x)) (hl : n ≤ 1000000) :
    Calls Try.prog 52 #[.slice (some ⟨g, 0, none⟩) n c, .string x] w fun e w' => e = .returned (.int .i64 (i : Int)) ∧ w' = w := by
  go_enter Try.func52, Try.ntmps52
  go_wp2_with fail
  go_loopw [8] (fun p wr => ∃ j : Nat, j ≤ i ∧ p = .int .i64 j ∧ wr = w) (fun p _ => n - (intOf p).toNat)
  case atStart => exact ⟨0, Nat.zero_le _, rfl, rfl⟩
  case round =>
    obtain ⟨j, hj, rfl, rfl⟩ := hrel
    obtain ⟨y, hy⟩ : ∃ y, l[j]? = some y := ⟨_, List.getElem?_eq_getElem (by rw [hn.out]; omega)⟩
    have d0 := hc.out j y hy
    have k0 : (0 : Int) ≤ (j : Int) := by omega
    have k1 : (j : Int) < (n : Int) := by omega
    by_cases he : j = i
    · subst he
      have e := hx.out
      rw [hy] at e
      obtain rfl : y = x := by injection e
      have q : (y.toList == y.toList) = true := by simp
      clear hy e
      go_wp2_with fail
      go_ret
      exact ⟨rfl, by trivial⟩
    · have hlt : j < i := by omega
      have q : (x.toList == y.toList) = false := bytes_off (fun e => hne.out j hlt y hy e.symm)
      clear he hy
      go_wp2_with fail
      go_roundw
      case rel => exact ⟨j + 1, by omega, by go_num, by trivial⟩
      case measure => simp [intOf]; omega
theorem fieldM (nm : ByteArray) (At : Option Addr) (tn ct : Nat) (tm sn : Int) (w : World) : (Instr.field 47 (.agg #[.string nm, .slice At tn ct, .int .i64 tm, .int .i64 sn]) 0).run Try.prog w = .ok (.agg #[.string nm, .slice At tn ct]) w := by kernel_rfl
theorem memInfo : (Try.prog.info? 40).map (fun i => (i.zero, i.size, i.bytes)) = some (some (.agg #[.string ⟨#[]⟩, .slice none 0 0]), 2, 40) := by kernel_rfl
/-- a member where it lies -/
structure Mv where
  m : Mb
  A : Option Addr
  c : Nat
def mvC (v : Mv) : List Value := [.string v.m.name, .slice v.A v.m.ts.length v.c]
def rowMv (l : List Mv) : List Value := l.flatMap mvC
theorem rowMv_app (a b : List Mv) : rowMv (a ++ b) = rowMv a ++ rowMv b := by simp [rowMv]
theorem rowMv_at : ∀ {l : List Mv} {i : Nat} {d : Mv}, l[i]? = some d → ∀ j : Nat, ∀ u, (mvC d)[j]? = some u → (rowMv l)[i * 2 + j]? = some u
  | [], i, d, h => by simp at h
  | a :: t, 0, d, h => fun j u hu => by
    simp at h; subst h
    rw [rowMv, List.flatMap_cons, Nat.zero_mul, Nat.zero_add, List.getElem?_append_left (List.getElem?_eq_some_iff.1 hu).1]; exact hu
  | a :: t, i + 1, d, h => fun j u hu => by
    have ih := rowMv_at (l := t) (i := i) (d := d) (by simpa using h) j u hu
    rw [rowMv, List.flatMap_cons, List.getElem?_append_right (by simp [mvC]; omega), ← rowMv]
    rw [show (i + 1) * 2 + j - (mvC a).length = i * 2 + j by simp [mvC]; omega]; exact ih
/-- members gathered out of a group -/
structure Gat (w1 : World) (Q : List Se) (A : Option Addr) (k c : Nat) (vs : List Mv) (wr : World) : Prop where
  own : wr.ownsRow w1.heap.size 40 2 (.slice A k c) k (rowMv vs)
  ms : vs.map (·.m) = (Q.take k).map (·.m)
  len : vs.length = k
  rows : ∀ v ∈ vs, RowT w1 v.A v.c v.m.ts
  bel : Below w1.heap.size w1 wr
theorem Gat.isM {w1 wr : World} {Q : List Se} {A : Option Addr} {k c : Nat} {vs : List Mv} {G : Int} (h : Gat w1 Q A k c vs wr) (hk : Q.length = k) (g : GoodG G Q) : IsM wr wr.heap.size A k c (Q.map (·.m)) := by
  have e : vs.map (·.m) = Q.map (·.m) := by rw [h.ms, List.take_of_length_le (by omega)]
  have h8 := g.len
  refine ⟨fun h0 => ?_, by rw [List.length_map]; exact hk, fun mb hmb => ?_, by omega, ?_⟩
  · rw [← e] at h0 ⊢
    rw [List.length_map] at h0
    have hl := h.len
    rcases h.own.2 with ⟨_, e0⟩ | ⟨g, cap, cur, e0, h1, hh, _⟩
    · omega
    · injection e0 with e1; subst e1
      refine ⟨g, rfl, (Array.getElem?_eq_some_iff.1 hh).1, fun i m hm => ?_⟩
      rw [List.getElem?_map] at hm
      obtain ⟨v, hv, rfl⟩ := Option.map_eq_some_iff.1 hm
      have q := fun j u hu => h.own.cells (g := g) rfl (i * 2 + j) u (rowMv_at hv j u hu)
      have q0 := q 0 _ rfl; have q1 := q 1 _ rfl
      rw [Addr.add_lit, Nat.zero_add] at q0 q1
      exact ⟨q0, v.A, v.c, q1, ((h.rows v (List.mem_of_getElem? hv)).below h.bel).row.reads⟩
  · obtain ⟨s, hs, rfl⟩ := List.mem_map.1 hmb
    obtain ⟨a1, a2, a3⟩ := mayS_fit (g.may s hs)
    exact ⟨by omega, by omega, fun x hx => by have := a3 x hx; omega⟩
  · rcases h.own.2 with ⟨_, e0⟩ | ⟨g, cap, cur, e0, _, _, hc, _⟩
    · omega
    · injection e0 with _ _ e3; omega
theorem Gat.push {w1 wr w5 : World} {Q : List Se} {A : Option Addr} {k c ct tn : Nat} {At : Option Addr} {vs : List Mv} {s : Se} {nm : ByteArray} {v' : Value} (h : Gat w1 Q A k c vs wr) (hs : Q[k]? = some s) (hnm : s.m.name = nm) (htn : s.m.ts.length = tn) (hR : RowT w1 At ct s.m.ts)
    (hown : w5.ownsRow w1.heap.size 40 2 v' (k + 1) (rowMv vs ++ [.string nm, .slice At tn ct])) (o : Obj) (hg : (wr.alloc o).grownBy w5 (Value.slice A k c).ownBlock) : ∃ A' c' vs', v' = .slice A' (k + 1) c' ∧ Gat w1 Q A' (k + 1) c' vs' w5 := by
  obtain ⟨A', c', hv⟩ : ∃ A' c', v' = .slice A' (k + 1) c' := by
    rcases hown.2 with ⟨_, e⟩ | ⟨g, cap, cur, e, _⟩
    · omega
    · exact ⟨_, _, e⟩
  subst hv
  subst hnm; subst htn
  refine ⟨A', c', vs ++ [⟨s.m, At, ct⟩], rfl, ?_, ?_, by rw [List.length_append, h.len]; rfl, fun v hv => ?_, ?_⟩
  · rw [rowMv_app]
    have : rowMv [⟨s.m, At, ct⟩] = [.string s.m.name, .slice At s.m.ts.length ct] := by simp [rowMv, mvC]
    rw [this]; exact hown
  · rw [List.map_append, h.ms, List.take_add_one, hs, Option.toList_some, List.map_append]; rfl
  · rcases List.mem_append.1 hv with hv | hv
    · exact h.rows v hv
    · rw [List.mem_singleton.1 hv]; exact hR
  · exact (h.bel.alloc h.bel.size _).grown hg (by have := h.bel.size; simp; omega) (fun j e => (h.own.lt j e).1)
def shareL (r : Bool) (l : List Pt) (ms : List Mb) : List (List Pt) := if r = true then robinL l ms else rangeL l ms
theorem shareL_len (r : Bool) (l : List Pt) (ms : List Mb) : (shareL r l ms).length = ms.length := by
  unfold shareL robinL rangeL; split <;> exact listsL_len _ _
/-- what is told of a member: an error, or not -/
def asgE (G : Int) (Q : List Se) (a : ByteArray) (gn : Int) (l : List Pt) (x : Int) : Prop := ∃ y, chkE l (Q.map (·.m)) y ∧ ((y ≠ 0 ∧ x = y) ∨ (y = 0 ∧ x = fenceE G Q a gn))
theorem asg_is (G : Int) (Q : List Se) (a : ByteArray) (gn : Int) (l : List Pt) : ∃ x, asgE G Q a gn l x := by
  obtain ⟨y, hy⟩ := chk_is1 l (Q.map (·.m))
  by_cases h : y = 0
  · exact ⟨_, y, hy, .inr ⟨h, rfl⟩⟩
  · exact ⟨y, y, hy, .inl ⟨h, rfl⟩⟩
theorem asg_one {G : Int} {Q : List Se} {a : ByteArray} {gn : Int} {l : List Pt} {x x' : Int} (h : asgE G Q a gn l x) (h' : asgE G Q a gn l x') : x = x' := by
  obtain ⟨y, hy, h⟩ := h
  obtain ⟨y', hy', h'⟩ := h'
  obtain rfl := chk_one hy hy'
  rcases h with ⟨h1, h2⟩ | ⟨h1, h2⟩ <;> rcases h' with ⟨h3, h4⟩ | ⟨h3, h4⟩
  · rw [h2, h4]
  · exact absurd h3 h1
  · exact absurd h1 h3
  · rw [h2, h4]
theorem has_place {Q : List Se} (hR : RiseS Q) {a : ByteArray} (h : hasS Q a = true) : ∃ (i : Nat) (s : Se), Q[i]? = some s ∧ s.m.name = a ∧ ∀ j < i, ∀ y, (Q.map (·.m.name))[j]? = some y → y ≠ a := by
  obtain ⟨s, hs, e⟩ := hasS_mem.1 h
  obtain ⟨i, hi, rfl⟩ := List.mem_iff_getElem.1 hs
  refine ⟨i, Q[i], List.getElem?_eq_getElem hi, e, fun j hj y hy => ?_⟩
  rw [List.getElem?_map, List.getElem?_eq_getElem (by omega)] at hy
  have := List.pairwise_iff_getElem.1 hR.ne j i (by omega) hi hj
  intro q
  injection hy with hy
  exact this (hy.trans (q.trans e.symm))
def AsgP (w : World) (r : Bool) (Q : List Se) (a : ByteArray) (l : List Pt) (x : Int) (e : Ending) (w' : World) : Prop :=
  Below w.heap.size w w' ∧ ((x ≠ 0 ∧ e = .returned (.tuple #[.slice none 0 0, .int .i64 x])) ∨ (x = 0 ∧ ∃ (i : Nat) (s : Se) (L : List Pt) (A : Option Addr) (c : Nat), Q[i]? = some s ∧ s.m.name = a ∧ (shareL r l (Q.map (·.m)))[i]? = some L ∧ e = .returned (.tuple #[.slice A L.length c, .int .i64 0]) ∧ ReadsP w' w'.heap.size A L ∧ ∀ k ∈ bk A, w.heap.size ≤ k))
set_option maxRecDepth 100000 in
set_option maxHeartbeats 8000000 in
theorem assigned_is {w : World} {g b N n c : Nat} {G : Int} {r : Bool} {Q : List Se} {A : Option Addr} {l : List Pt} (a : ByteArray) (gn x : Int) (h : Hid (Gp w g b N G r Q)) (GG : Hid (GoodG G Q)) (hz : Hid (a.size ≤ maxLen)) (hL : Hid (IsL w w.heap.size A n c l)) (HX : Hid (asgE G Q a gn l x)) :
    Calls Try.prog 27 #[.pointer (some ⟨g, 0, none⟩), .string a, .int .i64 gn, .slice A n c] w (AsgP w r Q a l x) := by
  obtain ⟨m, hm0⟩ : ∃ m, Q.length = m := ⟨_, rfl⟩
  have hm := Lib.hid hm0
  have hm8 : m ≤ 8 := by have := GG.out.len; omega
  clear hm0
  obtain ⟨i0, hi0, hz0, hz1, hz2⟩ := info_parts memInfo
  have HR := Lib.hid GG.out.rise
  go_enter Try.func27, Try.ntmps27
  go_wp2_with (go_at_call 50; refine (names_is h HR hm hm8).mono ?_; rintro e w1 ⟨An, cn, rfl, hown, hb1⟩; have HROW := Lib.hid hown; have HB1 := Lib.hid hb1; clear hown hb1)
  have HG1 := Lib.hid (h.out.below HB1.out)
  go_loopw [11, 22] (fun v i wr => ∃ (k : Nat) (A0 : Option Addr) (c0 : Nat) (vs : List Mv), k ≤ m ∧ i = .int .i64 k ∧ v = .slice A0 k c0 ∧ Hid (Gat w1 Q A0 k c0 vs wr)) (fun _ i _ => m - (intOf i).toNat)
  case atStart => exact ⟨0, none, 0, [], Nat.zero_le _, rfl, rfl, Lib.hid ⟨World.ownsRow_nil _ _ _ _, rfl, rfl, fun v hv => (by cases hv), Below.refl _ _⟩⟩
  case round =>
    obtain ⟨k, A0, c0, vs, hk, rfl, rfl, HI⟩ := hrel
    have HG := Lib.hid (HG1.out.below HI.out.bel)
    have c2 := HG.out.c2
    by_cases hlt : k < m
    · obtain ⟨s, hs⟩ : ∃ s, Q[k]? = some s := ⟨_, List.getElem?_eq_getElem (by rw [hm.out]; exact hlt)⟩
      have hfit := mayS_fit (GG.out.may s (List.mem_of_getElem? hs))
      obtain ⟨gn', rfl, hgnl, x0⟩ : ∃ gn, An = some ⟨gn, 0, none⟩ ∧ gn < w1.heap.size ∧ w1.cell? ⟨gn, k, none⟩ = some (.string s.m.name) := by
        rcases HROW.out.2 with ⟨_, e⟩ | ⟨gn, cap, cur, e, h1, hh, _⟩
        · omega
        · injection e with e1; subst e1
          have q := HROW.out.cells (g := gn) rfl k (.string s.m.name) (by rw [List.getElem?_map, List.getElem?_map, hs]; rfl)
          rw [Addr.add_lit, Nat.zero_add] at q
          exact ⟨gn, rfl, (Array.getElem?_eq_some_iff.1 hh).1, q⟩
      have x0 := cell_b HI.out.bel x0
      obtain ⟨At, ct, hrt, hlook⟩ := HG1.out.map.look (List.mem_of_getElem? hs) (by have := hfit.1; unfold maxLen; omega)
      have hrun := hlook wr (HI.out.bel.block b HG1.out.map.lt)
      have HRT := Lib.hid hrt
      obtain ⟨tn, htn⟩ : ∃ tn, s.m.ts.length = tn := ⟨_, rfl⟩
      have HTN := Lib.hid htn
      have HST := Lib.hid hs
      rw [htn] at hrun
      obtain ⟨nm, hnm⟩ : ∃ nm, s.m.name = nm := ⟨_, rfl⟩
      obtain ⟨tm, htm⟩ : ∃ nm, s.tm = nm := ⟨_, rfl⟩
      obtain ⟨sn, hsn⟩ : ∃ nm, s.sn = nm := ⟨_, rfl⟩
      rw [hnm, htm, hsn] at hrun
      rw [hnm] at x0
      have HNM := Lib.hid hnm
      have k0 : (0 : Int) ≤ (k : Int) := by omega
      have k1 : (k : Int) < (m : Int) := by omega
      have HOW := Lib.hid HI.out.own
      have hfld := fieldM nm At tn ct tm sn wr
      clear hs hfit hrt hlook htn hnm htm hsn
      go_wp2_with (at_builtin; refine wpList_append_own _ rfl _ _ 23 rfl w1.heap.size 40 i0 _ 2 40 Try.underlying23 hi0 hz0 hz1 hz2 rfl (by decide) _ _ _ rfl (HOW.out.alloc _) ⟨wr.heap.size, 0, none⟩ 1 1 [.string nm, .slice At tn ct] rfl rfl (World.news_of_block (cs := #[.string nm, .slice At tn ct]) (t := 40) (fr := (0, 0)) (heap_alloc_new wr _)) (by simp [Value.oneCell']) (by unfold maxLen; omega) (by omega) (by have := HI.out.bel.size; simp; omega) ?_; intro v' w5 hown' hgrow _)
      obtain ⟨A6, c6, vs6, rfl, hE6⟩ := HI.out.push HST.out HNM.out HTN.out HRT.out hown' _ hgrow
      have HIN := Lib.hid hE6
      clear hown' hgrow hE6
      go_roundw
      case rel => exact ⟨k + 1, A6, c6, vs6, by omega, by go_num, rfl, HIN⟩
      case measure => simp [intOf]; omega
    · obtain rfl : k = m := by omega
      have HM := Lib.hid (HI.out.isM hm.out GG.out)
      have HBW : Hid (Below w.heap.size w wr) := Lib.hid (HB1.out.trans (HI.out.bel.mono HB1.out.size))
      have HLL := Lib.hid (hL.out.up (Nat.le_refl _) HBW.out)
      have c1 := HG.out.c1
      obtain ⟨y, hy, hcase⟩ := HX.out
      have HY := Lib.hid hy
      clear hy
      rcases hcase with ⟨hy0, rfl⟩ | ⟨rfl, hxf⟩
      · have HY0 := Lib.hid hy0
        have e1 : (x == 0) = false := by simpa using hy0
        clear hy0
        cases r <;>
        · go_wp2_with (first
            | (go_at_call 9; refine (range_no wr A A0 n c k c0 l _ x HY0.out HLL HM HY).mono ?_; rintro e w3 ⟨rfl, hb3⟩; have HB3 := Lib.hid hb3; clear hb3)
            | (go_at_call 11; refine (robin_no wr A A0 n c k c0 l _ x HY0.out HLL HM HY).mono ?_; rintro e w3 ⟨rfl, hb3⟩; have HB3 := Lib.hid hb3; clear hb3))
          go_ret2
          exact ⟨HBW.out.trans (HB3.out.mono HBW.out.size), .inl ⟨HY0.out, rfl⟩⟩
      · have HXF := Lib.hid hxf.symm
        clear hxf
        have e0 : (0 : Int) == 0 := rfl
        by_cases hx0 : x = 0
        · subst hx0
          obtain ⟨hh, rfl⟩ := fenceE_ok HXF.out
          obtain ⟨i, s, hqi, hsn, hne⟩ := has_place HR.out hh
          have hik : i < k := by have := (List.getElem?_eq_some_iff.1 hqi).1; have := hm.out; omega
          obtain ⟨gn', rfl, hgnl, hcell⟩ : ∃ gn, An = some ⟨gn, 0, none⟩ ∧ gn < w1.heap.size ∧ ∀ j y, (Q.map (·.m.name))[j]? = some y → w1.cell? ⟨gn, j, none⟩ = some (.string y) := by
            rcases HROW.out.2 with ⟨_, e⟩ | ⟨gn, cap, cur, e, h1, hh, _⟩
            · omega
            · injection e with e1; subst e1
              refine ⟨gn, rfl, (Array.getElem?_eq_some_iff.1 hh).1, fun j y hy => ?_⟩
              have q := HROW.out.cells (g := gn) rfl j (.string y) (by rw [List.getElem?_map, hy]; rfl)
              rwa [Addr.add_lit, Nat.zero_add] at q
          have HCE := Lib.hid hcell
          have HQI := Lib.hid hqi
          have HSN := Lib.hid hsn
          have HNE := Lib.hid hne
          have HNL : Hid ((Q.map (·.m.name)).length = k) := Lib.hid (by rw [List.length_map]; exact hm.out)
          have HNI : Hid ((Q.map (·.m.name))[i]? = some a) := Lib.hid (by rw [List.getElem?_map, hqi]; exact congrArg some hsn)
          have hk1 : k ≤ 1000000 := by omega
          have i0' : (0 : Int) ≤ (i : Int) := by omega
          have i1' : (i : Int) < (k : Int) := by omega
          clear hh hqi hsn hne hcell
          obtain ⟨L0, hL0⟩ : ∃ L0, shareL r l (Q.map (·.m)) = L0 := ⟨_, rfl⟩
          have HL0 := Lib.hid hL0
          have hlen0 : L0.length = k := by rw [← hL0, shareL_len, List.length_map]; exact hm.out
          obtain ⟨L, hLi⟩ : ∃ L, L0[i]? = some L := ⟨_, List.getElem?_eq_getElem (by omega)⟩
          have HLI := Lib.hid hLi
          have HLEN := Lib.hid hlen0
          clear hL0 hLi hlen0
          have FIN : ∀ (w4 : World) (ga : Nat) (Ai : Option Addr) (ci : Nat), Below wr.heap.size wr w4 → ReadsP w4 w4.heap.size Ai L → (∀ k ∈ bk Ai, wr.heap.size ≤ k) → AsgP w r Q a l 0 (.returned (.tuple #[.slice Ai L.length ci, .int .i64 0])) w4 := fun w4 ga Ai ci hb hr hk => ⟨HBW.out.trans (hb.mono HBW.out.size), .inr ⟨rfl, i, s, L, Ai, ci, HQI.out, HSN.out, by rw [HL0.out]; exact HLI.out, rfl, hr, fun j hj => Nat.le_trans HBW.out.size (hk j hj)⟩⟩
          have HFIN := Lib.hid FIN
          clear FIN
          cases r
          · have HRL : Hid (rangeL l (Q.map (·.m)) = L0) := Lib.hid (by have := HL0.out; unfold shareL at this; simpa using this)
            go_wp2_with (first
              | (go_at_call 9; refine (range_ok wr A A0 n c k c0 l _ L0 HLL HM HY HRL).mono ?_; rintro e w3 ⟨A3, c3, rfl, hr3, hb3⟩; have HB3 := Lib.hid hb3; have HR3 := Lib.hid hr3; have HG3 := Lib.hid (HG.out.below hb3); clear hb3 hr3)
              | (go_at_call 44; refine (fence_is a gn 0 HG3 hz HXF).mono ?_; rintro e w4 ⟨rfl, hb4⟩; have HB4 : Hid (Below wr.heap.size wr w4) := Lib.hid (HB3.out.trans (hb4.mono HB3.out.size)); obtain ⟨ga, rfl, hlo, hgB, hcl⟩ := HR3.out (by rw [HLEN.out]; omega); obtain ⟨Ai, ci, c1i, hri, hbi⟩ := hcl i L HLI.out; have c1i := cell_b hb4 c1i; have HRI : Hid (ReadsP w4 w4.heap.size Ai L) := Lib.hid (fun h0 => by
                  obtain ⟨g', e', hg', hc'⟩ := hri h0
                  exact ⟨g', e', Nat.lt_of_lt_of_le hg' hb4.size, fun j s hs => ⟨cell_b hb4 (hc' j s hs).1, cell_b hb4 (hc' j s hs).2⟩⟩); have HBI : Hid (∀ k ∈ bk Ai, wr.heap.size ≤ k) := Lib.hid (fun j hj => (hbi j hj).1); clear hb4 hcl hri hbi)
              | (go_at_call 52; refine (index_is gn' k cn i (Q.map (·.m.name)) a _ HNL (Lib.hid (fun j y hy => cell_b (HI.out.bel.trans (HB4.out.mono HI.out.bel.size)) (HCE.out j y hy))) hik HNI HNE hk1).mono ?_; rintro e w5 ⟨rfl, hw5⟩; obtain rfl := hw5.symm))
            go_ret2
            exact HFIN.out _ ga Ai ci HB4.out HRI.out HBI.out
          · have HRL : Hid (robinL l (Q.map (·.m)) = L0) := Lib.hid (by have := HL0.out; unfold shareL at this; simpa using this)
            go_wp2_with (first
              | (go_at_call 11; refine (robin_ok wr A A0 n c k c0 l _ L0 HLL HM HY HRL).mono ?_; rintro e w3 ⟨A3, c3, rfl, hr3, hb3⟩; have HB3 := Lib.hid hb3; have HR3 := Lib.hid hr3; have HG3 := Lib.hid (HG.out.below hb3); clear hb3 hr3)
              | (go_at_call 44; refine (fence_is a gn 0 HG3 hz HXF).mono ?_; rintro e w4 ⟨rfl, hb4⟩; have HB4 : Hid (Below wr.heap.size wr w4) := Lib.hid (HB3.out.trans (hb4.mono HB3.out.size)); obtain ⟨ga, rfl, hlo, hgB, hcl⟩ := HR3.out (by rw [HLEN.out]; omega); obtain ⟨Ai, ci, c1i, hri, hbi⟩ := hcl i L HLI.out; have c1i := cell_b hb4 c1i; have HRI : Hid (ReadsP w4 w4.heap.size Ai L) := Lib.hid (fun h0 => by
                  obtain ⟨g', e', hg', hc'⟩ := hri h0
                  exact ⟨g', e', Nat.lt_of_lt_of_le hg' hb4.size, fun j s hs => ⟨cell_b hb4 (hc' j s hs).1, cell_b hb4 (hc' j s hs).2⟩⟩); have HBI : Hid (∀ k ∈ bk Ai, wr.heap.size ≤ k) := Lib.hid (fun j hj => (hbi j hj).1); clear hb4 hcl hri hbi)
              | (go_at_call 52; refine (index_is gn' k cn i (Q.map (·.m.name)) a _ HNL (Lib.hid (fun j y hy => cell_b (HI.out.bel.trans (HB4.out.mono HI.out.bel.size)) (HCE.out j y hy))) hik HNI HNE hk1).mono ?_; rintro e w5 ⟨rfl, hw5⟩; obtain rfl := hw5.symm))
            go_ret2
            exact HFIN.out _ ga Ai ci HB4.out HRI.out HBI.out
        · have HX0 := Lib.hid hx0
          have e1 : (x == 0) = false := by simpa using hx0
          clear hx0
          cases r <;>
          · go_wp2_with (first
              | (go_at_call 9; refine (range_ok wr A A0 n c k c0 l _ _ HLL HM HY (Lib.hid rfl)).mono ?_; rintro e w3 ⟨A3, c3, rfl, hr3, hb3⟩; have HB3 := Lib.hid hb3; have HG3 := Lib.hid (HG.out.below hb3); clear hb3 hr3)
              | (go_at_call 11; refine (robin_ok wr A A0 n c k c0 l _ _ HLL HM HY (Lib.hid rfl)).mono ?_; rintro e w3 ⟨A3, c3, rfl, hr3, hb3⟩; have HB3 := Lib.hid hb3; have HG3 := Lib.hid (HG.out.below hb3); clear hb3 hr3)
              | (go_at_call 44; refine (fence_is a gn x HG3 hz HXF).mono ?_; rintro e w4 ⟨rfl, hb4⟩; have HB4 : Hid (Below wr.heap.size wr w4) := Lib.hid (HB3.out.trans (hb4.mono HB3.out.size)); clear hb4))
            go_ret2
            exact ⟨HBW.out.trans (HB4.out.mono HBW.out.size), .inl ⟨HX0.out, rfl⟩⟩
end Go.Proofs.Ytidgifnnkaheeaa.L11
