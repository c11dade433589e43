/-
  Contracts over the document's own functions: Load.
-/
import Derived.Test.YthongbobopampaaTpRdrop2
namespace Go.Proofs.Ythongbobopampaa.L9
open Go.RowKit
open Go.Maps
open L3 L4

def RLoadP (w : World) (l : List Pt) (x : Int) (e : Ending) (w' : World) : Prop :=
  Below w.heap.size w w' ∧ ((x ≠ 0 ∧ e = .returned (.tuple #[.pointer none, .int .i64 x])) ∨ (x = 0 ∧ Good l ∧ ∃ k A c, e = .returned (.tuple #[.pointer (some ⟨k, 0, none⟩), .int .i64 0]) ∧ Doc w' w.heap.size k A c l ∧ (A = none → c = 0) ∧ w.heap.size ≤ k))
theorem keep3 {W w1 w2 : World} {a1 a2 a3 : Addr} {v1 v2 v3 : Value} (h : (w1.cell? a1 = some v1 ∧ w1.cell? a2 = some v2 ∧ w1.cell? a3 = some v3) ∧ Below W.heap.size W w1) (hb : Below w1.heap.size w1 w2) : (w2.cell? a1 = some v1 ∧ w2.cell? a2 = some v2 ∧ w2.cell? a3 = some v3) ∧ Below W.heap.size W w2 :=
  ⟨⟨(hb.cell (World.block_lt_of_cell? _ _ h.1.1)).trans h.1.1, (hb.cell (World.block_lt_of_cell? _ _ h.1.2.1)).trans h.1.2.1, (hb.cell (World.block_lt_of_cell? _ _ h.1.2.2)).trans h.1.2.2⟩, h.2.trans (hb.mono h.2.size)⟩

set_option maxRecDepth 100000 in
set_option maxHeartbeats 4000000 in
theorem rload_is (w : World) (A : Option Addr) (n cap : Nat) (l : List Pt) (x : Int) (hn : Hid (l.length = n)) (hn1 : n ≤ 1000000) (hR : Hid (ReadsP w w.heap.size A l)) (hnil : Hid (A = none → n = 0 ∧ cap = 0)) (hs : Hid (∀ y ∈ l, y.t.size ≤ maxLen)) (HX : Hid (loadE l x)) :
    Calls Try.prog 22 #[.slice A n cap] w (RLoadP w l x) := by
  by_cases h8 : 8 < n
  · have hx := HX.out
    unfold loadE at hx
    rw [if_pos (by rw [hn.out]; exact h8)] at hx
    subst hx
    have q1 : (8 : Int) < (n : Int) := by omega
    clear h8
    go_enter Try.func22, Try.ntmps22
    go_wp2_with fail
    go_ret2
    exact ⟨Below.refl _ _, .inl ⟨by decide, rfl⟩⟩
  · have q1 : ¬ (8 : Int) < (n : Int) := by omega
    have q2 : (n : Int) ≤ 8 := by omega
    have H8 : Hid (l.length ≤ 8) := Lib.hid (by rw [hn.out]; omega)
    have hn8 : n ≤ 8 := by omega
    obtain ⟨i0, hi0, hz0, hz1, hz2⟩ := info_parts topInfo'
    clear h8
    go_enter Try.func22, Try.ntmps22
    go_wp2_with fail
    go_loopw [4] (fun i wr => ∃ k : Nat, k ≤ n ∧ i = .int .i64 k ∧ Hid (OkTo l k) ∧ Below w.heap.size w wr) (fun i _ => n - (intOf i).toNat)
    case atStart => exact ⟨0, Nat.zero_le _, rfl, Lib.hid (fun i hi => absurd hi (by omega)), Below.refl _ _⟩
    case round =>
      obtain ⟨k, hk, rfl, HOK, hbel⟩ := hrel
      have hw := hbel.size
      by_cases hlt : k < n
      · obtain ⟨ga, rfl, hga, hcells⟩ := hR.out (by rw [hn.out]; omega)
        obtain ⟨⟨st, sn⟩, hst⟩ : ∃ st, l[k]? = some st := ⟨l[k]'(by rw [hn.out]; exact hlt), List.getElem?_eq_getElem _⟩
        obtain ⟨e0, e1⟩ := hcells k _ hst
        have d0 := (hbel.cell (p := ⟨ga, k * 2, none⟩) hga).trans e0
        have d1 := (hbel.cell (p := ⟨ga, k * 2 + 1, none⟩) hga).trans e1
        dsimp only at d0 d1
        have Z1 : Hid (st.size ≤ maxLen) := Lib.hid (hs.out _ (List.mem_of_getElem? hst))
        have k0 : (0 : Int) ≤ (k : Int) := by omega
        have kl : (k : Int) < (n : Int) := by omega
        have HST := Lib.hid hst
        have HKN : Hid (k < l.length) := Lib.hid (by rw [hn.out]; exact hlt)
        have HGT := Lib.hid hcells
        clear hst hcells e0 e1
        cases hm : mayB st sn with
        | false =>
          have HM := Lib.hid hm
          have hx1 : x = 1 := loadE_bad HX.out H8.out (load_bad HKN.out (fun q => by have := (q _ HST.out).1; dsimp only at this; rw [hm] at this; cases this))
          have HX1 := Lib.hid hx1
          clear hm hx1
          go_wp2_with fail
          go_quiet (first
            | (go_at_call 32; exact Calls.quiet_of_same (rmay_is st sn _ _ Z1.out HM)))
          go_wp2_with fail
          go_ret2
          exact ⟨drewN_below hbel _, .inl ⟨by rw [HX1.out]; decide, by rw [HX1.out]; rfl⟩⟩
        | true =>
          have HM := Lib.hid hm
          by_cases hk0 : k = 0
          · have h0 : decide ((0 : Int) < (k : Int)) = false := decide_eq_false (by omega)
            have h0n : decide (0 < k) = false := decide_eq_false (by omega)
            have h0' : ¬ (0 : Int) < (k : Int) := by omega
            have h0n' : ¬ 0 < k := by omega
            have HNX : Hid (OkTo l (k + 1)) := Lib.hid (HOK.out.next (fun y hy => by rw [HST.out] at hy; injection hy with hy; subst hy; exact ⟨hm, fun q => absurd q (by omega)⟩))
            clear hm hk0
            go_wp2_with fail
            go_quiet (first
              | (go_at_call 32; exact Calls.quiet_of_same (rmay_is st sn _ _ Z1.out HM)))
            go_wp2_with fail
            go_roundw
            case rel => exact ⟨k + 1, by omega, by go_num, HNX, drewN_below hbel _⟩
            case measure => simp [intOf]; omega
          · obtain ⟨j, hj⟩ : ∃ j, k = j + 1 := ⟨k - 1, by omega⟩
            obtain ⟨⟨pt, pn⟩, hpr⟩ : ∃ pr, l[j]? = some pr := ⟨l[j]'(by have := HKN.out; omega), List.getElem?_eq_getElem _⟩
            obtain ⟨f0, _⟩ := HGT.out j _ hpr
            have g0 := (hbel.cell (p := ⟨ga, j * 2, none⟩) hga).trans f0
            dsimp only at g0
            have ZP : Hid (pt.size ≤ maxLen) := Lib.hid (hs.out _ (List.mem_of_getElem? hpr))
            have HPR : Hid (l[k - 1]? = some ⟨pt, pn⟩) := Lib.hid (by rw [show k - 1 = j by omega]; exact hpr)
            have i1 : IntKind.i64.wrap ((k : Int) - 1) = (k : Int) - 1 := by rw [IntKind.wrap_i64]; omega
            have j0 : (0 : Int) ≤ (k : Int) - 1 := by omega
            have j1 : (k : Int) - 1 < (n : Int) := by omega
            have j2 : (0 : Int) < (k : Int) := by omega
            have j4 : 0 < k := by omega
            have j5 : (1 : Int) ≤ (k : Int) := by omega
            have j6 : 1 ≤ k := by omega
            have j7 : (k : Int) ≤ (n : Int) := by omega
            have j3 : ((k : Int) - 1).toNat = j := by omega
            obtain ⟨b, hb⟩ : ∃ b, lessB pt st = b := ⟨_, rfl⟩
            have HB := Lib.hid hb
            have HDW := Lib.hid hbel
            clear hb hk0 hj hpr f0 hm
            go_wp2_with fail
            go_region_held3 (fun w' => (w'.cell? ⟨ga, k * 2, none⟩ = some (.string st) ∧ w'.cell? ⟨ga, k * 2 + 1, none⟩ = some (.int .i64 sn) ∧ w'.cell? ⟨ga, j * 2, none⟩ = some (.string pt)) ∧ Below w.heap.size w w')
              (first | with_reducible assumption | exact ⟨⟨d0, d1, g0⟩, hbel.drew⟩ | exact keep3 (by with_reducible assumption) (by with_reducible assumption))
              (first
                | (go_at_call 32; refine (rmay_is st sn _ _ Z1.out HM).mono ?_; rintro e w1 ⟨rfl, rfl⟩)
                | (go_at_call 23; refine (rless_is pt st b _ ZP.out Z1.out HB).mono ?_; rintro e w2 ⟨rfl, hb2⟩))
            rename_i hHeld
            have HH := Lib.hid hHeld.2
            clear hHeld
            cases b with
            | true =>
              have HNX : Hid (OkTo l (k + 1)) := Lib.hid (HOK.out.next (fun y hy => by rw [HST.out] at hy; injection hy with hy; subst hy; exact ⟨HM.out, fun _ z hz => by rw [HPR.out] at hz; injection hz with hz; subst hz; exact HB.out⟩))
              go_wp2_with fail
              go_roundw
              case rel => exact ⟨k + 1, by omega, by go_num, HNX, HH.out⟩
              case measure => simp [intOf]; omega
            | false =>
              have hx1 : x = 1 := loadE_bad HX.out H8.out (load_bad HKN.out (fun q => by have := (q _ HST.out).2 j4 _ HPR.out; dsimp only at this; rw [HB.out] at this; cases this))
              have HX1 := Lib.hid hx1
              clear hx1
              go_wp2_with fail
              go_ret2
              exact ⟨HH.out, .inl ⟨by rw [HX1.out]; decide, by rw [HX1.out]; rfl⟩⟩
      · have hkn : k = n := by omega
        have hok : OkTo l l.length := by rw [hn.out, ← hkn]; exact HOK.out
        have HX0 : Hid (x = 0) := Lib.hid (loadE_ok HX.out H8.out hok)
        have HG := Lib.hid (hok.good H8.out)
        have q3 : ¬ (k : Int) < (n : Int) := by omega
        have HL1 : Hid ((rowP l).length = n * 2) := Lib.hid (by rw [rowP_len, hn.out])
        have HSRC : Hid (∀ w', Below w.heap.size w w' → Src w' A (rowP l)) := Lib.hid (fun w' hb => (readsP_src hR.out (fun e => List.eq_nil_of_length_eq_zero (by rw [hn.out]; exact (hnil.out e).1))).below hb)
        have hB1 : Below w.heap.size w (wr.alloc (.cells #[] 44)) := hbel.alloc hw _
        clear hok hkn hlt
        go_wp2_with (at_builtin; refine wpList_append_src (by rfl) _ _ 22 (by rfl) w.heap.size 44 i0 _ 2 24 Try.underlying22 hi0 hz0 hz1 hz2 rfl (by decide) _ 0 [] (by rfl) (World.ownsRow_made wr #[] 0 hw (by unfold maxLen; omega) rfl) A n cap (rowP l) (by rfl) HL1.out (HSRC.out _ hB1) hnil.out (rowP_one _) (by unfold maxLen; omega) (by omega) (by simp; omega) ?_; intro v3 w3 hown3 hgrow3; rw [Nat.zero_add, List.nil_append] at hown3; have hB3 : Below w.heap.size w w3 := hB1.grown hgrow3 (by simp; omega) (fun q e => by simp [Value.ownBlock] at e; omega); obtain ⟨A3, c3, rfl⟩ := own_len hown3; have hw3 := hB3.size)
        go_ret2
        refine ⟨hB3.alloc hw3 _, .inr ⟨HX0.out, HG.out, _, A3, c3, rfl, ⟨?_, ?_⟩, fun e => ?_, hw3⟩⟩
        · rw [hn.out]; exact heap_alloc_new _ _
        · rw [hn.out]; exact hown3.alloc _
        · rcases hown3.2 with ⟨q, _⟩ | ⟨g, c', cur, q, _⟩
          · injection q
          · injection q with q; rw [e] at q; cases q
end Go.Proofs.Ythongbobopampaa.L9
