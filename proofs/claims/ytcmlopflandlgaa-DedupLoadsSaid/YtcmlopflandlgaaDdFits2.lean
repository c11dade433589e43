/-
  Contracts: whether a table may remember something: the batches.
-/
import Derived.Test.YtcmlopflandlgaaDdFits
namespace Go.Proofs.Ytcmlopflandlgaa.L8
open Go.RowKit
open Go.Maps
open L3 L4

/-- is it the number that is due? -/
def firstQ (q : Option Int) (s : Int) : Bool := match q with | none => true | some x => decide (s = x)
theorem rowB_next {l : List Did} {k : Nat} {d : Did} {q : Option Int} (h : l[k]? = some d) :
    rowB q (l.drop k) = ((numB8 d.s && (numB8 d.o && (decide (1 ≤ d.n) && decide (d.n ≤ 1099511627776)))) && (firstQ q d.s && rowB (some (wrap64 (d.s + d.n))) (l.drop (k + 1)))) := by
  obtain ⟨hlt, hl⟩ := List.getElem?_eq_some_iff.1 h
  rw [List.drop_eq_getElem_cons hlt, hl]; rfl
/-- what is due behind the first k batches -/
def preQ (l : List Did) (k : Nat) (q : Option Int) : Prop := (k = 0 → q = none) ∧ (0 < k → q = some (due (l.take k)))
theorem preQ_next {l : List Did} {k : Nat} {d : Did} (h : l[k]? = some d) : preQ l (k + 1) (some (wrap64 (d.s + d.n))) := by
  refine ⟨fun e => by omega, fun _ => ?_⟩
  have hlt := (List.getElem?_eq_some_iff.1 h).1
  congr 1
  refine (due_last ?_).symm
  rw [List.length_take, Nat.min_eq_left (by omega), List.getElem?_take_of_lt (by omega)]; exact h
theorem RowD.take {w : World} {A : Option Addr} {l : List Did} (h : RowD w A l) (k : Nat) : RowD w A (l.take k) := fun h0 => by
  rw [List.length_take] at h0
  obtain ⟨g, o, cs, fr, e, hg, hc⟩ := h (by omega)
  refine ⟨g, o, cs, fr, e, hg, fun i d hd => hc i d ?_⟩
  have hlt := (List.getElem?_eq_some_iff.1 hd).1
  rw [List.length_take] at hlt
  rwa [List.getElem?_take_of_lt (by omega)] at hd
theorem keep2f {W w1 w2 : World} {a1 a2 : Addr} {v1 v2 : Value} (h : (w1.cell? a1 = some v1 ∧ w1.cell? a2 = some v2) ∧ Below W.heap.size W w1) (hb : Below w1.heap.size w1 w2) : (w2.cell? a1 = some v1 ∧ w2.cell? a2 = some v2) ∧ Below W.heap.size W w2 :=
  ⟨⟨cell_at hb h.1.1, cell_at hb h.1.2⟩, h.2.trans (hb.mono h.2.size)⟩

set_option maxRecDepth 100000 in
set_option maxHeartbeats 4000000 in
theorem fits_yes {w : World} {g cap b N : Nat} {A : Option Addr} {es : List Int} {ms : List Mk} (v : MV) (n : Nat) (r : Bool) (h : Hid (Tab w g A cap b N es ms)) (hn : v.m.l.length = n) (hes : es.length ≤ 1000) (hR : Hid (RowC w v.A v.c v.m.l)) (HH : Hid (headB es v.m = true)) (HR : Hid (rowB none v.m.l = r)) :
    Calls Try.prog 41 #[.pointer (some ⟨g, 0, none⟩), .agg #[.int .i64 v.m.id, .int .i64 v.m.ep, .string v.m.t, .int .i64 v.m.p, .slice v.A n v.c]] w fun e w' => e = .returned (.bool r) ∧ Below w.heap.size w w' := by
  obtain ⟨W, hW⟩ : ∃ W, w.alloc (.cells #[.int .i64 v.m.id, .int .i64 v.m.ep, .string v.m.t, .int .i64 v.m.p, .slice v.A n v.c] 48) = W := ⟨_, rfl⟩
  obtain ⟨⟨k0, k1, k2, k3, k4⟩, hb⟩ := maker_box (v := v) (n := n) (Below.refl (w.alloc (.cells #[.int .i64 v.m.id, .int .i64 v.m.ep, .string v.m.t, .int .i64 v.m.p, .slice v.A n v.c] 48)).heap.size _)
  rw [hW] at k0 k1 k2 k3 k4 hb
  have HW := Lib.hid hW
  have HB := Lib.hid hb
  have HT := Lib.hid (h.out.below hb)
  have c0 := HT.out.c0
  obtain ⟨ne, hne⟩ : ∃ n, es.length = n := ⟨_, rfl⟩
  rw [hne] at c0
  have hr := HH.out
  unfold headB at hr
  rw [hne, hn] at hr
  simp only [Bool.and_eq_true, decide_eq_true_eq] at hr
  obtain ⟨⟨q1, q2, q3⟩, q4, q5⟩ := hr
  have HV : Hid (decide (1 ≤ v.m.id ∧ v.m.id ≤ es.length) = true) := Lib.hid (by rw [hne]; exact decide_eq_true ⟨q1, q2⟩)
  obtain ⟨j, hj⟩ : ∃ j : Nat, (v.m.id - 1).toNat = j := ⟨_, rfl⟩
  rw [hj] at q3
  have hat : es[j]? = some v.m.ep := by rw [← q3]; exact at_getD (by omega)
  obtain ⟨k, rfl, _, _, _, hc, _⟩ := own_num HT.out.own hat
  have e1 : wrap64 (v.m.id - 1) = (j : Int) := by simp only [wrap64]; omega
  have e2 : v.m.id - 1 = (j : Int) := by omega
  have j0 : (0 : Int) ≤ (j : Int) := by omega
  have j1 : (j : Int) < (ne : Int) := by omega
  have e3 : IntKind.i64.wrap (j : Int) = (j : Int) := IntWalk.i64_in _ (by omega)
  have y1 : (v.m.ep != v.m.ep) = false := by simp
  have t1 : decide ((n : Int) < 1) = false := decide_eq_false (by omega)
  have t2 : decide ((5 : Int) < (n : Int)) = false := decide_eq_false (by omega)
  have t3 : decide (n < 1) = false := decide_eq_false (by omega)
  have t4 : decide (5 < n) = false := decide_eq_false (by omega)
  have HN := Lib.hid hn
  have HRW : Hid (RowD W v.A v.m.l) := Lib.hid (hR.out.1.below hb)
  have hnc : n ≤ v.c := by rw [← hn]; exact hR.out.2
  have HNC := Lib.hid hnc
  obtain ⟨g1, o1, cs, fr, hA, hg1, hcells⟩ := hR.out.1 (by omega)
  obtain ⟨⟨mid, mep, mt, mp, l⟩, vA, vc⟩ := v
  dsimp only at *
  subst hA
  have HCL := Lib.hid hcells
  clear hj q3 hat hne hW hb h hcells hg1 hn
  go_enter Try.func41, Try.ntmps41
  go_upto_region 1 with (fail)
  rw [HW.out]
  go_quiet ((go_at_call 27; exact Calls.quiet_of_same (there_q mid true HT HV _ (drewN_below (Below.refl _ _) _))))
  obtain ⟨W1, hW1⟩ : ∃ W1, W.drewN nq = W1 := ⟨_, rfl⟩
  have hb1 : Below W.heap.size W W1 := by rw [← hW1]; exact drewN_below (Below.refl _ _) _
  rw [hW1]
  have k4' := cell_at hb1 k4
  have HB1 : Hid (Below w.heap.size w W1) := Lib.hid (HB.out.trans (hb1.mono HB.out.size))
  have HK4 := Lib.hid k4'
  have HRW1 := Lib.hid (HRW.out.below hb1)
  clear k0 k1 k2 k3 k4 c0 hc e1 e2 e3 j0 j1 y1 t1 t2 t3 t4 hW1 hb1
  go_wp2_with fail
  clear k4'
  go_loopw [41] (fun i wr => ∃ (k : Nat) (q : Option Int), k ≤ n ∧ i = .int .i64 k ∧ Hid (rowB q (l.drop k) = r) ∧ Hid (preQ l k q) ∧ Hid (Below W1.heap.size W1 wr)) (fun i _ => n - (intOf i).toNat)
  case atStart => exact ⟨0, none, by omega, rfl, Lib.hid (by rw [List.drop_zero]; exact HR.out), Lib.hid ⟨fun _ => rfl, fun e => by omega⟩, Lib.hid (Below.refl _ _)⟩
  case round =>
    obtain ⟨k, q, hk, rfl, HQ, HPQ, HBE⟩ := hrel
    by_cases hlt : k < n
    · obtain ⟨⟨ds, dn, dd⟩, hd⟩ : ∃ d, l[k]? = some d := ⟨_, List.getElem?_eq_getElem (by rw [HN.out]; omega)⟩
      obtain ⟨x0, x1, x2⟩ := HCL.out k _ hd
      have hbw := HB1.out.trans (HBE.out.mono HB1.out.size)
      have y0 := cell_at hbw x0; have y1 := cell_at hbw x1; have y2 := cell_at hbw x2
      dsimp only at y0 y1 y2
      have hnx := rowB_next (q := q) hd
      rw [HQ.out] at hnx
      dsimp only at hnx
      have z0 : (0 : Int) ≤ (k : Int) := by omega
      have z1 : (k : Int) < (n : Int) := by omega
      have HPN := Lib.hid (preQ_next hd)
      have HNX := Lib.hid hnx
      have HBD : ∀ (W' : World), Below (wr.alloc (.cells #[.int .i64 ds, .int .i64 dn, .int .i64 dd] 50)).heap.size (wr.alloc (.cells #[.int .i64 ds, .int .i64 dn, .int .i64 dd] 50)) W' → Below w.heap.size w W' := fun W' h => hbw.trans (((one_box' _).trans (h.mono (one_box' _).size)).mono hbw.size)
      have HBW := Lib.hid hbw
      clear x0 x1 x2 hd hnx hbw
      obtain ⟨a1, ha1⟩ : ∃ a, numB8 ds = a := ⟨_, rfl⟩
      obtain ⟨a2, ha2⟩ : ∃ a, numB8 dd = a := ⟨_, rfl⟩
      have HA1 := Lib.hid ha1
      have HA2 := Lib.hid ha2
      cases a1 with
      | false =>
        have HF : Hid (r = false) := Lib.hid (by rw [HNX.out, ha1]; rfl)
        clear ha1 ha2 HNX
        go_wp2_with (go_at_call 31; refine (within_is ds false _ HA1).mono ?_; rintro e w2 ⟨rfl, rfl⟩)
        go_ret
        exact ⟨congrArg (fun b => Ending.returned (.bool b)) HF.out.symm, HBD _ (Below.refl _ _)⟩
      | true =>
        cases a2 with
        | false =>
          have HF : Hid (r = false) := Lib.hid (by rw [HNX.out, ha1, ha2]; rfl)
          clear ha1 ha2 HNX
          go_wp2_with (go_at_call 31; (first | (with_reducible refine (within_is ds true _ HA1).mono ?_) | (with_reducible refine (within_is dd false _ HA2).mono ?_)); rintro e w2 ⟨rfl, rfl⟩)
          go_ret
          exact ⟨congrArg (fun b => Ending.returned (.bool b)) HF.out.symm, HBD _ (Below.refl _ _)⟩
        | true =>
          by_cases hn1 : dn < 1
          · have HF : Hid (r = false) := Lib.hid (by rw [HNX.out, ha1, ha2, decide_eq_false (by omega : ¬ 1 ≤ dn)]; rfl)
            clear ha1 ha2 HNX
            go_wp2_with (go_at_call 31; (first | (with_reducible refine (within_is ds true _ HA1).mono ?_) | (with_reducible refine (within_is dd true _ HA2).mono ?_)); rintro e w2 ⟨rfl, rfl⟩)
            go_ret
            exact ⟨congrArg (fun b => Ending.returned (.bool b)) HF.out.symm, HBD _ (Below.refl _ _)⟩
          · by_cases hn2 : 1099511627776 < dn
            · have HF : Hid (r = false) := Lib.hid (by rw [HNX.out, ha1, ha2, decide_eq_true (by omega : 1 ≤ dn), decide_eq_false (by omega : ¬ dn ≤ 1099511627776)]; rfl)
              clear ha1 ha2 HNX
              go_wp2_with (go_at_call 31; (first | (with_reducible refine (within_is ds true _ HA1).mono ?_) | (with_reducible refine (within_is dd true _ HA2).mono ?_)); rintro e w2 ⟨rfl, rfl⟩)
              go_ret
              exact ⟨congrArg (fun b => Ending.returned (.bool b)) HF.out.symm, HBD _ (Below.refl _ _)⟩
            · have HM : Hid ((firstQ q ds && rowB (some (wrap64 (ds + dn))) (l.drop (k + 1))) = r) := Lib.hid (by
                have e := HNX.out
                rw [ha1, ha2, decide_eq_true (by omega : 1 ≤ dn), decide_eq_true (by omega : dn ≤ 1099511627776)] at e
                exact e.symm)
              clear ha1 ha2 HNX
              by_cases hz : k = 0
              · obtain rfl : q = none := HPQ.out.1 hz
                have HM2 : Hid (rowB (some (wrap64 (ds + dn))) (l.drop (k + 1)) = r) := Lib.hid HM.out
                have w1 : decide ((0 : Int) < (k : Int)) = false := decide_eq_false (by omega)
                have w2 : decide (0 < k) = false := decide_eq_false (by omega)
                clear hz HM
                go_wp2_with (go_at_call 31; (first | (with_reducible refine (within_is ds true _ HA1).mono ?_) | (with_reducible refine (within_is dd true _ HA2).mono ?_)); rintro e w2 ⟨rfl, rfl⟩)
                go_quiet (fail)
                go_wp2_with fail
                go_roundw
                case rel => exact ⟨k + 1, _, by omega, by go_num, HM2, HPN, Lib.hid (HBE.out.trans ((drewN_below (one_box' _) _).mono HBE.out.size))⟩
                case measure => simp [intOf]; omega
              · obtain ⟨D, hD⟩ : ∃ D, due (l.take k) = D := ⟨_, rfl⟩
                have hq := HPQ.out.2 (by omega)
                rw [hD] at hq
                subst hq
                have HD := Lib.hid hD
                have w1 : decide ((0 : Int) < (k : Int)) = true := decide_eq_true (by omega)
                have w2 : decide (0 < k) = true := decide_eq_true (by omega)
                obtain ⟨Wx, hWx⟩ : ∃ Wx, wr.alloc (.cells #[.int .i64 ds, .int .i64 dn, .int .i64 dd] 50) = Wx := ⟨_, rfl⟩
                have bx : Below wr.heap.size wr Wx := by rw [← hWx]; exact one_box' _
                have rx : Wx.heap[wr.heap.size]? = some (.cells #[.int .i64 ds, .int .i64 dn, .int .i64 dd] 50 (0, 0)) := by rw [← hWx]; exact heap_alloc_new _ _
                have u0 : Wx.cell? ⟨wr.heap.size, 0, none⟩ = some (.int .i64 ds) := (cell_of_row _ _ 0 _ _ _ rx).trans rfl
                have u4 := cell_at bx (cell_at HBE.out HK4.out)
                have HWX := Lib.hid hWx
                have HBX : Hid (Below W1.heap.size W1 Wx) := Lib.hid (HBE.out.trans (bx.mono HBE.out.size))
                have hB := Below.refl Wx.heap.size Wx
                have hk1 : (k : Int) ≤ (n : Int) := by omega
                have hk2 : (k : Int) ≤ (vc : Int) := by omega
                have hk3 : k ≤ vc := by omega
                have DUE : ∀ W', Below Wx.heap.size Wx W' → Calls Try.prog 29 #[.slice (some ⟨g1, o1, none⟩) k vc] W' fun e w' => e = .returned (.int .i64 D) ∧ Below W'.heap.size W' w' := fun W' hb => due_is (l := l.take k) k vc D (by rw [List.length_take, HN.out]; omega) (by omega) (Lib.hid (((HRW1.out.below HBX.out).below hb).take k)) HD
                clear hz hD rx bx hWx
                go_upto_region 8 with (go_at_call 31; (first | (with_reducible refine (within_is ds true _ HA1).mono ?_) | (with_reducible refine (within_is dd true _ HA2).mono ?_)); rintro e w2 ⟨rfl, rfl⟩)
                rw [HWX.out]
                clear y0 y1 y2
                go_region_held3 (fun w' => (w'.cell? ⟨wr.heap.size, 0, none⟩ = some (.int .i64 ds) ∧ w'.cell? ⟨w.heap.size, 4, none⟩ = some (.slice (some ⟨g1, o1, none⟩) n vc)) ∧ Below Wx.heap.size Wx w')
                  (first | assumption | exact ⟨⟨u0, u4⟩, hB⟩ | exact ⟨⟨u0, u4⟩, hB.drew⟩ | exact keep2f (by assumption) (by assumption) | exact keep2f (by assumption) ((Below.refl _ _).drew))
                  (first | (go_at_call 29; refine (DUE _ (by first | assumption | exact hB.drew | exact (And.right (by assumption)))).mono ?_; rintro e w3 ⟨rfl, hb3⟩))
                all_goals
                  have hh := And.right (b := Below Wx.heap.size Wx _) (by assumption)
                  have HH2 := Lib.hid hh
                  clear hh hB u0 u4 DUE
                  by_cases hsd : ds = D
                  · have f1 : (ds != D) = false := by simpa using hsd
                    have HM2 : Hid (rowB (some (wrap64 (ds + dn))) (l.drop (k + 1)) = r) := Lib.hid (by have e := HM.out; rwa [show firstQ (some D) ds = true from decide_eq_true hsd, Bool.true_and] at e)
                    clear hsd HM
                    go_wp2_with fail
                    go_roundw
                    case rel => exact ⟨k + 1, _, by omega, by go_num, HM2, HPN, Lib.hid (HBX.out.trans (HH2.out.mono HBX.out.size))⟩
                    case measure => simp [intOf]; omega
                  · have f1 : (ds != D) = true := by simpa using hsd
                    have HF : Hid (r = false) := Lib.hid (by have e := HM.out; rw [show firstQ (some D) ds = false from decide_eq_false hsd, Bool.false_and] at e; exact e.symm)
                    clear hsd HM
                    go_wp2_with fail
                    go_ret
                    exact ⟨congrArg (fun b => Ending.returned (.bool b)) HF.out.symm, HB1.out.trans ((HBX.out.trans (HH2.out.mono HBX.out.size)).mono HB1.out.size)⟩
    · obtain rfl : k = n := by omega
      have HT2 : Hid (r = true) := Lib.hid (by have e := HQ.out; rw [List.drop_of_length_le (by rw [HN.out]; exact Nat.le_refl _)] at e; rw [← e]; cases q <;> rfl)
      go_wp2_with fail
      go_ret
      exact ⟨congrArg (fun b => Ending.returned (.bool b)) HT2.out.symm, HB1.out.trans (HBE.out.mono HB1.out.size)⟩

theorem fits_is {w : World} {g cap b N : Nat} {A : Option Addr} {es : List Int} {ms : List Mk} (v : MV) (n : Nat) (r : Bool) (h : Hid (Tab w g A cap b N es ms)) (hn : v.m.l.length = n) (hn1 : n ≤ 1000000) (hes : es.length ≤ 1000) (hR : Hid (RowC w v.A v.c v.m.l)) (HR : Hid (fitB es v.m = r)) :
    Calls Try.prog 41 #[.pointer (some ⟨g, 0, none⟩), .agg #[.int .i64 v.m.id, .int .i64 v.m.ep, .string v.m.t, .int .i64 v.m.p, .slice v.A n v.c]] w fun e w' => e = .returned (.bool r) ∧ Below w.heap.size w w' := by
  have hr := HR.out
  rw [fit_head] at hr
  cases hh : headB es v.m with
  | true => rw [hh, Bool.true_and] at hr; exact fits_yes v n r h hn hes hR (Lib.hid hh) (Lib.hid hr)
  | false => rw [hh, Bool.false_and] at hr; subst hr; exact fits_no v n h hn hn1 hes (Lib.hid hh)
end Go.Proofs.Ytcmlopflandlgaa.L8
