/-
  Contracts: Load, of epochs that may be.
-/
import Derived.Test.YtcmlopflandlgaaDdLoad
namespace Go.Proofs.Ytcmlopflandlgaa.L8
open Go.RowKit
open Go.Maps
open L3 L4

theorem order_at (a b : MV) (na nb : Nat) (r : Int) (w : World) (ha : a.m.l.length = na) (hb : b.m.l.length = nb) (HR : Hid (ordC a.m b.m = r)) :
    Calls Try.prog 40 #[.agg #[.int .i64 a.m.id, .int .i64 a.m.ep, .string a.m.t, .int .i64 a.m.p, .slice a.A na a.c], .agg #[.int .i64 b.m.id, .int .i64 b.m.ep, .string b.m.t, .int .i64 b.m.p, .slice b.A nb b.c]] w fun e w' => e = .returned (.int .i64 r) ∧ Below w.heap.size w w' := by
  subst ha hb
  exact (order_is a b r w HR).mono fun _ _ ⟨h1, h2⟩ => ⟨h1, h2.below⟩
/-- while what came in is gone over -/
structure LGo (w : World) (es : List Int) (ms : List Mk) (g : Nat) (A : Option Addr) (c b k : Nat) (q : Option Mk) (cb : Bool) (wr : World) : Prop where
  tab : Tab wr g A c b k es (ms.take k)
  news : ∀ j ∈ blocks g A b, w.heap.size ≤ j
  bel : Below w.heap.size w wr
  chain : chainB es q (ms.drop k) = cb
  pre : (k = 0 → q = none) ∧ ∀ j, k = j + 1 → ms[j]? = q
  sorted : Sorted (ms.take k)
  fit : ∀ x ∈ ms.take k, fitB es x = true
/-- what may come in -/
def RowsIn (w : World) (vs : List MV) : Prop := ∀ v ∈ vs, RowC w v.A v.c v.m.l ∧ (v.A = none → v.c = 0)
def Texts (ms : List Mk) : Prop := ∀ m ∈ ms, m.t.size ≤ 281474976710656 ∧ (Lit.int .i64 m.p).wf = true
theorem fit_keys {es : List Int} {ms : List Mk} (hl : es.length ≤ 32) (hf : ∀ x ∈ ms, fitB es x = true) (ht : Texts ms) : Keys ms := fun m hm => by
  have h := hf m hm
  unfold fitB at h
  simp only [Bool.and_eq_true, decide_eq_true_eq] at h
  obtain ⟨⟨h1, h2, _⟩, _⟩ := h
  obtain ⟨t1, t2⟩ := ht m hm
  exact ⟨WalkArith.wf_i64 (by omega), by unfold maxLen; omega, t2⟩

section
variable {W w1 w2 : World} {b : Nat} {a1 a2 a3 a4 : Addr} {v1 v2 v3 v4 : Value}
theorem keep4 (h : (w1.cell? a1 = some v1 ∧ w1.cell? a2 = some v2 ∧ w1.cell? a3 = some v3 ∧ w1.cell? a4 = some v4) ∧ Only [b] W w1) (hb : Below w1.heap.size w1 w2) :
    (w2.cell? a1 = some v1 ∧ w2.cell? a2 = some v2 ∧ w2.cell? a3 = some v3 ∧ w2.cell? a4 = some v4) ∧ Only [b] W w2 := by
  obtain ⟨⟨h1, h2, h3, h4⟩, ho⟩ := h
  exact ⟨⟨cell_at hb h1, cell_at hb h2, cell_at hb h3, cell_at hb h4⟩, ho.trans (S' := []) (Only.ofBelow hb) (fun q hq => by cases hq)⟩
theorem keep4o (h : (w1.cell? a1 = some v1 ∧ w1.cell? a2 = some v2 ∧ w1.cell? a3 = some v3 ∧ w1.cell? a4 = some v4) ∧ Only [b] W w1) (ho : Only [b] w1 w2) (hm : ∃ es c, w1.heap[b]? = some (.map es c)) :
    (w2.cell? a1 = some v1 ∧ w2.cell? a2 = some v2 ∧ w2.cell? a3 = some v3 ∧ w2.cell? a4 = some v4) ∧ Only [b] W w2 := by
  obtain ⟨⟨h1, h2, h3, h4⟩, hO⟩ := h
  exact ⟨⟨cell_only ho hm h1, cell_only ho hm h2, cell_only ho hm h3, cell_only ho hm h4⟩, hO.trans ho (fun q hq => .inl hq)⟩
end
/-- a copy, told from a world that lies before it -/
def CopyQ (W0 : World) (B n : Nat) (l : List Did) (e : Ending) (w' : World) : Prop := ∃ A c, e = .returned (.slice A n c) ∧ w'.ownsRow B 50 3 (.slice A n c) n (rowD l) ∧ Below W0.heap.size W0 w'
theorem pre_step {ms : List Mk} {j : Nat} {m : Mk} (h : ms[j]? = some m) : (j + 1 = 0 → some m = none) ∧ ∀ i, j + 1 = i + 1 → ms[i]? = some m :=
  ⟨fun e => by omega, fun i e => by
    obtain rfl : i = j := by omega
    exact h⟩
theorem take_mem {ms : List Mk} {j : Nat} {m : Mk} (h : ms[j]? = some m) (hs : ∀ x ∈ ms.take j, befB x m = true) : ∀ x, x ∈ ms.take (j + 1) ↔ x = m ∨ (x ∈ ms.take j ∧ ¬ Same x m) := fun x => by
  rw [List.take_add_one, h, List.mem_append]
  constructor
  · rintro (q | q)
    · exact .inr ⟨q, bef_not_same (hs x q)⟩
    · left; simpa using q
  · rintro (rfl | ⟨q, _⟩)
    · right; simp
    · exact .inl q
/-- a table of epochs alone -/
theorem made_tab {w w1 : World} {A1 : Option Addr} {k c1 : Nat} {es : List Int} (hk : es.length = k) (ho : w1.ownsRow w.heap.size 3 1 (.slice A1 k c1) k (rowN es)) (hb : Below w.heap.size w w1) :
    let Wt := (w1.alloc (.map #[] 0)).alloc (.cells #[.slice A1 k c1, .map (some w1.heap.size)] 65)
    Tab Wt (w1.heap.size + 1) A1 c1 w1.heap.size 0 es [] ∧ (∀ j ∈ blocks (w1.heap.size + 1) A1 w1.heap.size, w.heap.size ≤ j) ∧ Below w.heap.size w Wt := by
  intro Wt
  subst hk
  have e1 : (w1.alloc (.map #[] 0)).heap.size = w1.heap.size + 1 := by simp
  have b1 := one_box' (w := w1) (.map #[] 0)
  have bt : Below w1.heap.size w1 Wt := b1.alloc b1.size _
  refine ⟨⟨?_, own_below (own_base ho (Nat.zero_le _)) bt, (isTab_made w1).below (one_box' _)⟩, fun j hj => ?_, hb.trans (bt.mono hb.size)⟩
  · rw [← e1]; exact heap_alloc_new _ _
  · have := hb.size
    rcases List.mem_cons.1 hj with rfl | hj
    · omega
    · rcases List.mem_cons.1 hj with rfl | hj
      · exact this
      · obtain ⟨_, q, _⟩ := own_bk ho j hj; exact q
set_option maxRecDepth 100000 in
set_option maxHeartbeats 4000000 in
theorem load_run {w : World} (A X : Option Addr) (n cap m xc : Nat) (es : List Int) (vs : List MV) (cb : Bool) (hn : n ≤ 32) (hes : Hid (es.length = n)) (HE : Hid (ReadsN w A es)) (hA : A = none → cap = 0) (HB : Hid (es.all numB8 = true))
    (hm : Hid (vs.length = m)) (hm1 : m ≤ 100000) (HX : Hid (ReadsM w X vs)) (HR : Hid (RowsIn w vs)) (HT : Hid (Texts (vs.map (·.m)))) (HL : Hid (∀ v ∈ vs, v.m.l.length ≤ 1000000)) (HC : Hid (chainB es none (vs.map (·.m)) = cb)) :
    Calls Try.prog 19 #[.slice A n cap, .slice X m xc] w (LoadP w (if cb then 0 else 1) es (vs.map (·.m))) := by
  have h1 : ¬ (n : Int) > 32 := by omega
  have hmm := @run_makeMap Try.prog
  go_enter Try.func19, Try.ntmps19
  go_wp2_with fail
  go_loopw [16] (fun i wr => ∃ k : Nat, k ≤ n ∧ i = .int .i64 k ∧ Hid ((es.drop k).all numB8 = true) ∧ w = wr) (fun i _ => n - (intOf i).toNat)
  case atStart => exact ⟨0, by omega, rfl, Lib.hid (by simpa using HB.out), rfl⟩
  case round =>
    obtain ⟨k, hk, rfl, HK, rfl⟩ := hrel
    by_cases hlt : k < n
    · obtain ⟨g, o, rfl, hc⟩ := HE.out (by rw [hes.out]; omega)
      obtain ⟨x, hx⟩ : ∃ x, es[k]? = some x := ⟨_, List.getElem?_eq_getElem (by rw [hes.out]; omega)⟩
      have c0 := hc k x hx
      have hnx := all_next hx
      rw [HK.out] at hnx
      have k0 : (0 : Int) ≤ (k : Int) := by omega
      have k1 : (k : Int) < (n : Int) := by omega
      have ha : numB8 x = true := by cases q : numB8 x; rw [q] at hnx; cases hnx; rfl
      have HA := Lib.hid ha
      have HF : Hid ((es.drop (k + 1)).all numB8 = true) := Lib.hid (by rw [ha, Bool.true_and] at hnx; exact hnx.symm)
      clear hc hx hnx ha
      go_wp2_with (go_at_call 31; refine (within_is x true _ HA).mono ?_; rintro e w2 ⟨rfl, rfl⟩)
      go_roundw
      case rel => exact ⟨k + 1, by omega, by go_num, HF, by trivial⟩
      case measure => simp [intOf]; omega
    · obtain rfl : k = n := by omega
      go_wp2_with (go_at_call 35; refine (cloneN_is A k cap (rowN es) _ (fun e => ⟨by
          by_cases z : 0 < es.length
          · obtain ⟨_, _, e', _⟩ := HE.out z
            rw [e'] at e; cases e
          · rw [← hes.out]; omega, hA e⟩) (Lib.hid (by rw [rowN_len, hes.out, Nat.mul_one])) (by omega) (Lib.hid (rowN_one es)) (Lib.hid HE.out.src)).mono ?_; rintro e w1 ⟨A1, c1, rfl, ho1, hb1⟩)
      obtain ⟨Wt, hWt⟩ : ∃ Wt, (w1.alloc (.map #[] 0)).alloc (.cells #[.slice A1 k c1, .map (some w1.heap.size)] 65) = Wt := ⟨_, rfl⟩
      obtain ⟨g, hg⟩ : ∃ g, w1.heap.size + 1 = g := ⟨_, rfl⟩
      obtain ⟨b, hb⟩ : ∃ b, w1.heap.size = b := ⟨_, rfl⟩
      obtain ⟨t1, t2, t3⟩ := made_tab hes.out ho1 hb1
      rw [hWt, hg, hb] at t1
      rw [hg, hb] at t2
      rw [hWt] at t3
      rw [hg]
      rw [hb] at hWt ⊢
      rw [hWt]
      have HG0 : Hid (LGo w es (vs.map (·.m)) g A1 c1 b 0 none cb Wt) := Lib.hid ⟨t1, t2, t3, by rw [List.drop_zero]; exact HC.out, ⟨fun _ => rfl, fun j e => by omega⟩, List.Pairwise.nil, fun x hx => by simp at hx⟩
      have HMS : Hid ((vs.map (·.m)).length = m) := Lib.hid (by rw [List.length_map]; exact hm.out)
      clear hWt hg hb t1 t2 t3 ho1 hb1 HK HB hmm h1 hlt HE hA
      go_loopw [31] (fun i wr => ∃ (j : Nat) (q : Option Mk), j ≤ m ∧ i = .int .i64 j ∧ Hid (LGo w es (vs.map (·.m)) g A1 c1 b j q cb wr)) (fun i _ => m - (intOf i).toNat)
      case atStart => exact ⟨0, none, by omega, rfl, HG0⟩
      case round =>
        obtain ⟨j, q, hj, rfl, HG⟩ := hrel
        by_cases hlt : j < m
        · obtain ⟨xg, xo, rfl, hxg, hcells⟩ := HX.out (by rw [hm.out]; omega)
          obtain ⟨v, hv⟩ : ∃ v, vs[j]? = some v := ⟨_, List.getElem?_eq_getElem (by rw [hm.out]; omega)⟩
          obtain ⟨x0, x1, x2, x3, x4⟩ := hcells j v hv
          have bel := HG.out.bel
          have y0 := cell_at bel x0; have y1 := cell_at bel x1; have y2 := cell_at bel x2; have y3 := cell_at bel x3; have y4 := cell_at bel x4
          obtain ⟨nl, hnl⟩ : ∃ nl, v.m.l.length = nl := ⟨_, rfl⟩
          rw [hnl] at y4
          have hvm : (vs.map (·.m))[j]? = some v.m := by rw [List.getElem?_map, hv]; rfl
          have hnx := chain_next (es := es) (q := q) hvm
          rw [HG.out.chain] at hnx
          have k0 : (0 : Int) ≤ (j : Int) := by omega
          have k1 : (j : Int) < (m : Int) := by omega
          have hvin := List.mem_of_getElem? hv
          obtain ⟨Wx, hWx⟩ : ∃ Wx, wr.alloc (.cells #[.int .i64 v.m.id, .int .i64 v.m.ep, .string v.m.t, .int .i64 v.m.p, .slice v.A nl v.c] 48) = Wx := ⟨_, rfl⟩
          obtain ⟨⟨p0, p1, p2, p3, p4⟩, hbx⟩ := maker_box (v := v) (n := nl) (Below.refl (wr.alloc (.cells #[.int .i64 v.m.id, .int .i64 v.m.ep, .string v.m.t, .int .i64 v.m.p, .slice v.A nl v.c] 48)).heap.size _)
          rw [hWx] at p0 p1 p2 p3 p4 hbx
          have HBW : Hid (Below w.heap.size w Wx) := Lib.hid (bel.trans (hbx.mono bel.size))
          have HTX := Lib.hid (HG.out.tab.below hbx)
          have HRC : Hid (RowC Wx v.A v.c v.m.l) := Lib.hid ((HR.out v hvin).1.below HBW.out)
          have HCN := Lib.hid (HR.out v hvin).2
          have HNL := Lib.hid hnl
          have HN1 : Hid (nl ≤ 1000000) := Lib.hid (by rw [← hnl]; exact HL.out v hvin)
          obtain ⟨fb, hfb⟩ : ∃ fb, fitB es v.m = fb := ⟨_, rfl⟩
          have HFB := Lib.hid hfb
          have HNX := Lib.hid hnx
          have HVM := Lib.hid hvm
          have HWX := Lib.hid hWx
          have HBX := Lib.hid hbx
          have FIT : ∀ W', Below Wx.heap.size Wx W' → Calls Try.prog 41 #[.pointer (some ⟨g, 0, none⟩), .agg #[.int .i64 v.m.id, .int .i64 v.m.ep, .string v.m.t, .int .i64 v.m.p, .slice v.A nl v.c]] W' fun e w' => e = .returned (.bool fb) ∧ Below W'.heap.size W' w' := fun W' h => fits_is v nl fb (Lib.hid (HTX.out.below h)) HNL.out HN1.out (by rw [hes.out]; omega) (Lib.hid (HRC.out.below h)) HFB
          have hB := Below.refl Wx.heap.size Wx
          clear x0 x1 x2 x3 x4 hnx hvm hWx hbx bel hfb hnl
          go_upto_region 13 with (fail)
          rw [HWX.out]
          go_cut [53] (fun sv wc => sv = .bool (!(firstM q v.m && fb)) ∧ Below Wx.heap.size Wx wc)
          case first =>
            by_cases hz : j = 0
            · obtain rfl : q = none := HG.out.pre.1 hz
              have z1 : decide ((0 : Int) < (j : Int)) = false := decide_eq_false (by omega)
              have z2 : decide (0 < j) = false := decide_eq_false (by omega)
              clear y0 y1 y2 y3 y4 hcells hv hz
              refine wp_region_held_drew (S := fun w' => (w'.cell? ⟨wr.heap.size, 0, none⟩ = some (.int .i64 v.m.id) ∧ w'.cell? ⟨wr.heap.size, 1, none⟩ = some (.int .i64 v.m.ep) ∧ w'.cell? ⟨wr.heap.size, 2, none⟩ = some (.string v.m.t) ∧ w'.cell? ⟨wr.heap.size, 3, none⟩ = some (.int .i64 v.m.p) ∧ w'.cell? ⟨wr.heap.size, 4, none⟩ = some (.slice v.A nl v.c)) ∧ Only [] Wx w') (by kernel_rfl) (keep5s (drewB _) p0 p1 p2 p3 p4) (fun hHeld => ?_)
              refine wpAnyH_take (i := 0) (oi := ?o1) (v := ?v1) ?a1 (by kernel_rfl) (by kernel_rfl) (by kernel_rfl) ?q1 (Or.inl ⟨?g1, ?y1⟩) (by assumption) ?r1; (case' a1 => (simp only [List.getElem?_toArray, List.getElem?_cons_zero]; rfl)); (case' q1 => (exact fun _ _ _ h => h)); (case' g1 => rfl); (case' y1 => (intro w hSw; (try dsimp only at hSw); go_simp; try with_reducible rfl)); (case' r1 => (try simp only [Act.put, List.setIfInBounds_toArray, List.set_cons_zero, List.set_cons_succ]))
              refine wpAnyH_take (i := 1) (oi := ?o2) (v := ?v2) ?a2 (by kernel_rfl) (by kernel_rfl) (by kernel_rfl) ?q2 (Or.inl ⟨?g2, ?y2⟩) (by assumption) ?r2; (case' a2 => (simp only [List.getElem?_toArray, List.getElem?_cons_zero, List.getElem?_cons_succ]; rfl)); (case' q2 => (exact fun _ _ _ h => h)); (case' g2 => rfl); (case' y2 => (intro w hSw; (try dsimp only at hSw); go_simp; try with_reducible rfl)); (case' r2 => (try simp only [Act.put, List.setIfInBounds_toArray, List.set_cons_zero, List.set_cons_succ]))
              refine wpAnyH_take (i := 2) (oi := ?o3) (v := ?v3) ?a3 (by kernel_rfl) (by kernel_rfl) (by kernel_rfl) ?q3 (Or.inl ⟨?g3, ?y3⟩) (by assumption) ?r3; (case' a3 => (simp only [List.getElem?_toArray, List.getElem?_cons_zero, List.getElem?_cons_succ]; rfl)); (case' q3 => (exact fun _ _ _ h => h)); (case' g3 => rfl); (case' y3 => (intro w hSw; (try dsimp only at hSw); go_simp; try with_reducible rfl)); (case' r3 => (try simp only [Act.put, List.setIfInBounds_toArray, List.set_cons_zero, List.set_cons_succ]))
              refine wpAnyH_take (i := 3) (oi := ?o4) (v := undef) ?a4 (by kernel_rfl) (by kernel_rfl) (by kernel_rfl) ?q4 (Or.inr ⟨?g4, rfl⟩) (by assumption) ?r4; (case' a4 => (simp only [List.getElem?_toArray, List.getElem?_cons_zero, List.getElem?_cons_succ]; rfl)); (case' q4 => (exact fun _ _ _ h => h)); (case' g4 => rfl); (case' r4 => (try simp only [Act.put, List.setIfInBounds_toArray, List.set_cons_zero, List.set_cons_succ]))
              refine wpAnyH_take (i := 4) (oi := ?o5) (v := undef) ?a5 (by kernel_rfl) (by kernel_rfl) (by kernel_rfl) ?q5 (Or.inr ⟨?g5, rfl⟩) (by assumption) ?r5; (case' a5 => (simp only [List.getElem?_toArray, List.getElem?_cons_zero, List.getElem?_cons_succ]; rfl)); (case' q5 => (exact fun _ _ _ h => h)); (case' g5 => rfl); (case' r5 => (try simp only [Act.put, List.setIfInBounds_toArray, List.set_cons_zero, List.set_cons_succ]))
              refine wpAnyH_take (i := 5) (oi := ?o6) (v := undef) ?a6 (by kernel_rfl) (by kernel_rfl) (by kernel_rfl) ?q6 (Or.inr ⟨?g6, rfl⟩) (by assumption) ?r6; (case' a6 => (simp only [List.getElem?_toArray, List.getElem?_cons_zero, List.getElem?_cons_succ]; rfl)); (case' q6 => (exact fun _ _ _ h => h)); (case' g6 => rfl); (case' r6 => (try simp only [Act.put, List.setIfInBounds_toArray, List.set_cons_zero, List.set_cons_succ]))
              refine wpAnyH_take (i := 6) (oi := ?o7) (v := undef) ?a7 (by kernel_rfl) (by kernel_rfl) (by kernel_rfl) ?q7 (Or.inr ⟨?g7, rfl⟩) (by assumption) ?r7; (case' a7 => (simp only [List.getElem?_toArray, List.getElem?_cons_zero, List.getElem?_cons_succ]; rfl)); (case' q7 => (exact fun _ _ _ h => h)); (case' g7 => rfl); (case' r7 => (try simp only [Act.put, List.setIfInBounds_toArray, List.set_cons_zero, List.set_cons_succ]))
              refine wpAnyH_take (i := 7) (oi := ?o8) (v := undef) ?a8 (by kernel_rfl) (by kernel_rfl) (by kernel_rfl) ?q8 (Or.inr ⟨?g8, rfl⟩) (by assumption) ?r8; (case' a8 => (simp only [List.getElem?_toArray, List.getElem?_cons_zero, List.getElem?_cons_succ]; rfl)); (case' q8 => (exact fun _ _ _ h => h)); (case' g8 => rfl); (case' r8 => (try simp only [Act.put, List.setIfInBounds_toArray, List.set_cons_zero, List.set_cons_succ]))
              refine wpAnyH_take (i := 8) (oi := ?o9) (v := undef) ?a9 (by kernel_rfl) (by kernel_rfl) (by kernel_rfl) ?q9 (Or.inr ⟨?g9, rfl⟩) (by assumption) ?r9; (case' a9 => (simp only [List.getElem?_toArray, List.getElem?_cons_zero, List.getElem?_cons_succ]; rfl)); (case' q9 => (exact fun _ _ _ h => h)); (case' g9 => rfl); (case' r9 => (try simp only [Act.put, List.setIfInBounds_toArray, List.set_cons_zero, List.set_cons_succ]))
              refine wpAnyH_take (i := 9) (oi := ?o10) (v := undef) ?a10 (by kernel_rfl) (by kernel_rfl) (by kernel_rfl) ?q10 (Or.inr ⟨?g10, rfl⟩) (by assumption) ?r10; (case' a10 => (simp only [List.getElem?_toArray, List.getElem?_cons_zero, List.getElem?_cons_succ]; rfl)); (case' q10 => (exact fun _ _ _ h => h)); (case' g10 => rfl); (case' r10 => (try simp only [Act.put, List.setIfInBounds_toArray, List.set_cons_zero, List.set_cons_succ]))
              refine wpAnyH_take (i := 10) (oi := ?o11) (v := undef) ?a11 (by kernel_rfl) (by kernel_rfl) (by kernel_rfl) ?q11 (Or.inr ⟨?g11, rfl⟩) (by assumption) ?r11; (case' a11 => (simp only [List.getElem?_toArray, List.getElem?_cons_zero, List.getElem?_cons_succ]; rfl)); (case' q11 => (exact fun _ _ _ h => h)); (case' g11 => rfl); (case' r11 => (try simp only [Act.put, List.setIfInBounds_toArray, List.set_cons_zero, List.set_cons_succ]))
              refine wpAnyH_take (i := 11) (oi := ?o12) (v := ?v12) ?a12 (by kernel_rfl) (by kernel_rfl) (by kernel_rfl) ?q12 (Or.inl ⟨?g12, ?y12⟩) (by assumption) ?r12; (case' a12 => (simp only [List.getElem?_toArray, List.getElem?_cons_zero, List.getElem?_cons_succ]; rfl)); (case' q12 => (exact fun _ _ _ h => h)); (case' g12 => rfl); (case' y12 => (intro w hSw; (try dsimp only at hSw); go_simp; try with_reducible rfl)); (case' r12 => (try simp only [Act.put, List.setIfInBounds_toArray, List.set_cons_zero, List.set_cons_succ]))
              refine wpAnyH_take (i := 12) (oi := ?o13) (v := ?v13) ?a13 (by kernel_rfl) (by kernel_rfl) (by kernel_rfl) ?q13 (Or.inl ⟨?g13, ?y13⟩) (by assumption) ?r13; (case' a13 => (simp only [List.getElem?_toArray, List.getElem?_cons_zero, List.getElem?_cons_succ]; rfl)); (case' q13 => (exact fun _ _ _ h => h)); (case' g13 => rfl); (case' y13 => (intro w hSw; (try dsimp only at hSw); go_simp; try with_reducible rfl)); (case' r13 => (try simp only [Act.put, List.setIfInBounds_toArray, List.set_cons_zero, List.set_cons_succ]))
              refine wpAnyH_take (i := 13) (oi := ?o14) (v := ?v14) ?a14 (by kernel_rfl) (by kernel_rfl) (by kernel_rfl) ?q14 (Or.inl ⟨?g14, ?y14⟩) (by assumption) ?r14; (case' a14 => (simp only [List.getElem?_toArray, List.getElem?_cons_zero, List.getElem?_cons_succ]; rfl)); (case' q14 => (exact fun _ _ _ h => h)); (case' g14 => rfl); (case' y14 => (intro w hSw; (try dsimp only at hSw); go_simp; try with_reducible rfl)); (case' r14 => (try simp only [Act.put, List.setIfInBounds_toArray, List.set_cons_zero, List.set_cons_succ]))
              refine wpAnyH_take (i := 14) (oi := ?o15) (v := ?v15) ?a15 (by kernel_rfl) (by kernel_rfl) (by kernel_rfl) ?q15 (Or.inl ⟨?g15, ?y15⟩) (by assumption) ?r15; (case' a15 => (simp only [List.getElem?_toArray, List.getElem?_cons_zero, List.getElem?_cons_succ]; rfl)); (case' q15 => (exact fun _ _ _ h => h)); (case' g15 => rfl); (case' y15 => (intro w hSw; (try dsimp only at hSw); go_simp; try with_reducible rfl)); (case' r15 => (try simp only [Act.put, List.setIfInBounds_toArray, List.set_cons_zero, List.set_cons_succ]))
              refine wpAnyH_ready (rs := [15]) (by kernel_rfl) (by simp) ?_
              refine AllReadyH.cons (o := ?o16) ?a16 (fun K hK => ?s16) ?m16; (case' a16 => (simp only [List.getElem?_toArray, List.getElem?_cons_zero, List.getElem?_cons_succ]; rfl))
              case s16 =>
                go_simp
                go_at_call 41
                refine (FIT _ hHeld.2.nil).mono ?_
                rintro e wn ⟨rfl, hbn⟩
                go_wp2_with fail
                refine hK.out _ _ (keep5 hHeld hbn) (fun hHeld => ?_)
                clear hK K
                (try simp only [Act.put, List.setIfInBounds_toArray, List.set_cons_zero, List.set_cons_succ])
                refine wpAnyH_take (i := 16) (oi := ?o17) (v := ?v17) ?a17 (by kernel_rfl) (by kernel_rfl) (by kernel_rfl) ?q17 (Or.inl ⟨?g17, ?y17⟩) (by assumption) ?r17; (case' a17 => (simp only [List.getElem?_toArray, List.getElem?_cons_zero, List.getElem?_cons_succ]; rfl)); (case' q17 => (exact fun _ _ _ h => h)); (case' g17 => rfl); (case' y17 => (intro w hSw; (try dsimp only at hSw); go_simp; try with_reducible rfl)); (case' r17 => (try simp only [Act.put, List.setIfInBounds_toArray, List.set_cons_zero, List.set_cons_succ]))
                refine wpAnyH_take (i := 17) (oi := ?o18) (v := ?v18) ?a18 (by kernel_rfl) (by kernel_rfl) (by kernel_rfl) ?q18 (Or.inl ⟨?g18, ?y18⟩) (by assumption) ?r18; (case' a18 => (simp only [List.getElem?_toArray, List.getElem?_cons_zero, List.getElem?_cons_succ]; rfl)); (case' q18 => (exact fun _ _ _ h => h)); (case' g18 => rfl); (case' y18 => (intro w hSw; (try dsimp only at hSw); go_simp; try with_reducible rfl)); (case' r18 => (try simp only [Act.put, List.setIfInBounds_toArray, List.set_cons_zero, List.set_cons_succ]))
                refine wpAnyH_done (by kernel_rfl) ?_ _
                go_wp2_with fail
                go_meet
                exact ⟨rfl, hHeld.2.nil⟩
              exact AllReadyH.nil
            · obtain ⟨i, hi⟩ : ∃ i, j = i + 1 := ⟨j - 1, by omega⟩
              obtain ⟨u, hu⟩ : ∃ u, vs[i]? = some u := ⟨_, List.getElem?_eq_getElem (by rw [hm.out]; omega)⟩
              have hq := HG.out.pre.2 i hi
              rw [List.getElem?_map, hu] at hq
              obtain rfl : q = some u.m := hq.symm
              obtain ⟨s0, s1, s2, s3, s4⟩ := hcells i u hu
              have s0 := cell_at HBW.out s0; have s1 := cell_at HBW.out s1; have s2 := cell_at HBW.out s2; have s3 := cell_at HBW.out s3; have s4 := cell_at HBW.out s4
              obtain ⟨ul, hul⟩ : ∃ ul, u.m.l.length = ul := ⟨_, rfl⟩
              rw [hul] at s4
              have HUL := Lib.hid hul
              have z1 : decide ((0 : Int) < (j : Int)) = true := decide_eq_true (by omega)
              have z2 : decide (0 < j) = true := decide_eq_true (by omega)
              have i1 : wrap64 ((j : Int) - 1) = (i : Int) := by simp only [wrap64]; omega
              have i2 : ((j : Int) - 1) = (i : Int) := by omega
              have i3 : IntKind.i64.wrap ((j : Int) - 1) = (i : Int) := by rw [i2]; exact IntWalk.i64_in _ (by omega)
              have i4 : IntKind.i64.wrap (i : Int) = (i : Int) := IntWalk.i64_in _ (by omega)
              have i5 : (0 : Int) ≤ (i : Int) := by omega
              have i6 : (i : Int) < (m : Int) := by omega
              obtain ⟨r, hr⟩ : ∃ r, ordC u.m v.m = r := ⟨_, rfl⟩
              have HRO := Lib.hid hr
              clear y0 y1 y2 y3 y4 hcells hv hz hu hul hi hq
              by_cases hneg : r < 0
              · have HFM : Hid (firstM (some u.m) v.m = true) := Lib.hid (decide_eq_true (by rw [hr]; exact hneg))
                have g1 : decide (0 ≤ r) = false := decide_eq_false (by omega)
                clear hr
                refine wp_region_held_drew (S := fun w' => ((w'.cell? ⟨wr.heap.size, 0, none⟩ = some (.int .i64 v.m.id) ∧ w'.cell? ⟨wr.heap.size, 1, none⟩ = some (.int .i64 v.m.ep) ∧ w'.cell? ⟨wr.heap.size, 2, none⟩ = some (.string v.m.t) ∧ w'.cell? ⟨wr.heap.size, 3, none⟩ = some (.int .i64 v.m.p) ∧ w'.cell? ⟨wr.heap.size, 4, none⟩ = some (.slice v.A nl v.c)) ∧ Only [] Wx w') ∧ ((w'.cell? ⟨xg, xo + i * 5, none⟩ = some (.int .i64 u.m.id) ∧ w'.cell? ⟨xg, xo + i * 5 + 1, none⟩ = some (.int .i64 u.m.ep) ∧ w'.cell? ⟨xg, xo + i * 5 + 2, none⟩ = some (.string u.m.t) ∧ w'.cell? ⟨xg, xo + i * 5 + 3, none⟩ = some (.int .i64 u.m.p) ∧ w'.cell? ⟨xg, xo + i * 5 + 4, none⟩ = some (.slice u.A ul u.c)) ∧ Only [] Wx w')) (by kernel_rfl) ⟨keep5s (drewB _) p0 p1 p2 p3 p4, keep5s (drewB _) s0 s1 s2 s3 s4⟩ (fun hHeld => ?_)
                refine wpAnyH_take (i := 0) (oi := ?o19) (v := ?v19) ?a19 (by kernel_rfl) (by kernel_rfl) (by kernel_rfl) ?q19 (Or.inl ⟨?g19, ?y19⟩) (by assumption) ?r19; (case' a19 => (simp only [List.getElem?_toArray, List.getElem?_cons_zero]; rfl)); (case' q19 => (exact fun _ _ _ h => h)); (case' g19 => rfl); (case' y19 => (intro w hSw; (try dsimp only at hSw); go_simp; try with_reducible rfl)); (case' r19 => (try simp only [Act.put, List.setIfInBounds_toArray, List.set_cons_zero, List.set_cons_succ]))
                refine wpAnyH_take (i := 1) (oi := ?o20) (v := ?v20) ?a20 (by kernel_rfl) (by kernel_rfl) (by kernel_rfl) ?q20 (Or.inl ⟨?g20, ?y20⟩) (by assumption) ?r20; (case' a20 => (simp only [List.getElem?_toArray, List.getElem?_cons_zero, List.getElem?_cons_succ]; rfl)); (case' q20 => (exact fun _ _ _ h => h)); (case' g20 => rfl); (case' y20 => (intro w hSw; (try dsimp only at hSw); go_simp; try with_reducible rfl)); (case' r20 => (try simp only [Act.put, List.setIfInBounds_toArray, List.set_cons_zero, List.set_cons_succ]))
                refine wpAnyH_take (i := 2) (oi := ?o21) (v := ?v21) ?a21 (by kernel_rfl) (by kernel_rfl) (by kernel_rfl) ?q21 (Or.inl ⟨?g21, ?y21⟩) (by assumption) ?r21; (case' a21 => (simp only [List.getElem?_toArray, List.getElem?_cons_zero, List.getElem?_cons_succ]; rfl)); (case' q21 => (exact fun _ _ _ h => h)); (case' g21 => rfl); (case' y21 => (intro w hSw; (try dsimp only at hSw); go_simp; try with_reducible rfl)); (case' r21 => (try simp only [Act.put, List.setIfInBounds_toArray, List.set_cons_zero, List.set_cons_succ]))
                refine wpAnyH_take (i := 3) (oi := ?o22) (v := ?v22) ?a22 (by kernel_rfl) (by kernel_rfl) (by kernel_rfl) ?q22 (Or.inl ⟨?g22, ?y22⟩) (by assumption) ?r22; (case' a22 => (simp only [List.getElem?_toArray, List.getElem?_cons_zero, List.getElem?_cons_succ]; rfl)); (case' q22 => (exact fun _ _ _ h => h)); (case' g22 => rfl); (case' y22 => (intro w hSw; (try dsimp only at hSw); go_simp; try with_reducible rfl)); (case' r22 => (try simp only [Act.put, List.setIfInBounds_toArray, List.set_cons_zero, List.set_cons_succ]))
                refine wpAnyH_take (i := 4) (oi := ?o23) (v := ?v23) ?a23 (by kernel_rfl) (by kernel_rfl) (by kernel_rfl) ?q23 (Or.inl ⟨?g23, ?y23⟩) (by assumption) ?r23; (case' a23 => (simp only [List.getElem?_toArray, List.getElem?_cons_zero, List.getElem?_cons_succ]; rfl)); (case' q23 => (exact fun _ _ _ h => h)); (case' g23 => rfl); (case' y23 => (intro w hSw; (try dsimp only at hSw); go_simp; try with_reducible rfl)); (case' r23 => (try simp only [Act.put, List.setIfInBounds_toArray, List.set_cons_zero, List.set_cons_succ]))
                refine wpAnyH_take (i := 5) (oi := ?o24) (v := ?v24) ?a24 (by kernel_rfl) (by kernel_rfl) (by kernel_rfl) ?q24 (Or.inl ⟨?g24, ?y24⟩) (by assumption) ?r24; (case' a24 => (simp only [List.getElem?_toArray, List.getElem?_cons_zero, List.getElem?_cons_succ]; rfl)); (case' q24 => (exact fun _ _ _ h => h)); (case' g24 => rfl); (case' y24 => (intro w hSw; (try dsimp only at hSw); go_simp; try with_reducible rfl)); (case' r24 => (try simp only [Act.put, List.setIfInBounds_toArray, List.set_cons_zero, List.set_cons_succ]))
                refine wpAnyH_take (i := 6) (oi := ?o25) (v := ?v25) ?a25 (by kernel_rfl) (by kernel_rfl) (by kernel_rfl) ?q25 (Or.inl ⟨?g25, ?y25⟩) (by assumption) ?r25; (case' a25 => (simp only [List.getElem?_toArray, List.getElem?_cons_zero, List.getElem?_cons_succ]; rfl)); (case' q25 => (exact fun _ _ _ h => h)); (case' g25 => rfl); (case' y25 => (intro w hSw; (try dsimp only at hSw); go_simp; try with_reducible rfl)); (case' r25 => (try simp only [Act.put, List.setIfInBounds_toArray, List.set_cons_zero, List.set_cons_succ]))
                refine wpAnyH_take (i := 7) (oi := ?o26) (v := ?v26) ?a26 (by kernel_rfl) (by kernel_rfl) (by kernel_rfl) ?q26 (Or.inl ⟨?g26, ?y26⟩) (by assumption) ?r26; (case' a26 => (simp only [List.getElem?_toArray, List.getElem?_cons_zero, List.getElem?_cons_succ]; rfl)); (case' q26 => (exact fun _ _ _ h => h)); (case' g26 => rfl); (case' y26 => (intro w hSw; (try dsimp only at hSw); go_simp; try with_reducible rfl)); (case' r26 => (try simp only [Act.put, List.setIfInBounds_toArray, List.set_cons_zero, List.set_cons_succ]))
                refine wpAnyH_take (i := 8) (oi := ?o27) (v := ?v27) ?a27 (by kernel_rfl) (by kernel_rfl) (by kernel_rfl) ?q27 (Or.inl ⟨?g27, ?y27⟩) (by assumption) ?r27; (case' a27 => (simp only [List.getElem?_toArray, List.getElem?_cons_zero, List.getElem?_cons_succ]; rfl)); (case' q27 => (exact fun _ _ _ h => h)); (case' g27 => rfl); (case' y27 => (intro w hSw; (try dsimp only at hSw); go_simp; try with_reducible rfl)); (case' r27 => (try simp only [Act.put, List.setIfInBounds_toArray, List.set_cons_zero, List.set_cons_succ]))
                refine wpAnyH_ready (rs := [9]) (by kernel_rfl) (by simp) ?_
                refine AllReadyH.cons (o := ?o28) ?a28 (fun K hK => ?s28) ?m28; (case' a28 => (simp only [List.getElem?_toArray, List.getElem?_cons_zero, List.getElem?_cons_succ]; rfl))
                case s28 =>
                  go_simp
                  go_at_call 40
                  refine (order_at u v ul nl r _ HUL.out HNL.out HRO).mono ?_
                  rintro e wn ⟨rfl, hbn⟩
                  go_wp2_with fail
                  refine hK.out _ _ (⟨keep5 hHeld.1 hbn, keep5 hHeld.2 hbn⟩) (fun hHeld => ?_)
                  clear hK K
                  (try simp only [Act.put, List.setIfInBounds_toArray, List.set_cons_zero, List.set_cons_succ])
                  refine wpAnyH_take (i := 10) (oi := ?o29) (v := ?v29) ?a29 (by kernel_rfl) (by kernel_rfl) (by kernel_rfl) ?q29 (Or.inl ⟨?g29, ?y29⟩) (by assumption) ?r29; (case' a29 => (simp only [List.getElem?_toArray, List.getElem?_cons_zero, List.getElem?_cons_succ]; rfl)); (case' q29 => (exact fun _ _ _ h => h)); (case' g29 => rfl); (case' y29 => (intro w hSw; (try dsimp only at hSw); go_simp; try with_reducible rfl)); (case' r29 => (try simp only [Act.put, List.setIfInBounds_toArray, List.set_cons_zero, List.set_cons_succ]))
                  refine wpAnyH_take (i := 11) (oi := ?o30) (v := ?v30) ?a30 (by kernel_rfl) (by kernel_rfl) (by kernel_rfl) ?q30 (Or.inl ⟨?g30, ?y30⟩) (by assumption) ?r30; (case' a30 => (simp only [List.getElem?_toArray, List.getElem?_cons_zero, List.getElem?_cons_succ]; rfl)); (case' q30 => (exact fun _ _ _ h => h)); (case' g30 => rfl); (case' y30 => (intro w hSw; (try dsimp only at hSw); go_simp; try with_reducible rfl)); (case' r30 => (try simp only [Act.put, List.setIfInBounds_toArray, List.set_cons_zero, List.set_cons_succ]))
                  refine wpAnyH_take (i := 12) (oi := ?o31) (v := ?v31) ?a31 (by kernel_rfl) (by kernel_rfl) (by kernel_rfl) ?q31 (Or.inl ⟨?g31, ?y31⟩) (by assumption) ?r31; (case' a31 => (simp only [List.getElem?_toArray, List.getElem?_cons_zero, List.getElem?_cons_succ]; rfl)); (case' q31 => (exact fun _ _ _ h => h)); (case' g31 => rfl); (case' y31 => (intro w hSw; (try dsimp only at hSw); go_simp; try with_reducible rfl)); (case' r31 => (try simp only [Act.put, List.setIfInBounds_toArray, List.set_cons_zero, List.set_cons_succ]))
                  refine wpAnyH_take (i := 13) (oi := ?o32) (v := ?v32) ?a32 (by kernel_rfl) (by kernel_rfl) (by kernel_rfl) ?q32 (Or.inl ⟨?g32, ?y32⟩) (by assumption) ?r32; (case' a32 => (simp only [List.getElem?_toArray, List.getElem?_cons_zero, List.getElem?_cons_succ]; rfl)); (case' q32 => (exact fun _ _ _ h => h)); (case' g32 => rfl); (case' y32 => (intro w hSw; (try dsimp only at hSw); go_simp; try with_reducible rfl)); (case' r32 => (try simp only [Act.put, List.setIfInBounds_toArray, List.set_cons_zero, List.set_cons_succ]))
                  refine wpAnyH_take (i := 14) (oi := ?o33) (v := ?v33) ?a33 (by kernel_rfl) (by kernel_rfl) (by kernel_rfl) ?q33 (Or.inl ⟨?g33, ?y33⟩) (by assumption) ?r33; (case' a33 => (simp only [List.getElem?_toArray, List.getElem?_cons_zero, List.getElem?_cons_succ]; rfl)); (case' q33 => (exact fun _ _ _ h => h)); (case' g33 => rfl); (case' y33 => (intro w hSw; (try dsimp only at hSw); go_simp; try with_reducible rfl)); (case' r33 => (try simp only [Act.put, List.setIfInBounds_toArray, List.set_cons_zero, List.set_cons_succ]))
                  refine wpAnyH_ready (rs := [15]) (by kernel_rfl) (by simp) ?_
                  refine AllReadyH.cons (o := ?o34) ?a34 (fun K hK => ?s34) ?m34; (case' a34 => (simp only [List.getElem?_toArray, List.getElem?_cons_zero, List.getElem?_cons_succ]; rfl))
                  case s34 =>
                    go_simp
                    go_at_call 41
                    refine (FIT _ hHeld.1.2.nil).mono ?_
                    rintro e wn ⟨rfl, hbn⟩
                    go_wp2_with fail
                    refine hK.out _ _ (⟨keep5 hHeld.1 hbn, keep5 hHeld.2 hbn⟩) (fun hHeld => ?_)
                    clear hK K
                    (try simp only [Act.put, List.setIfInBounds_toArray, List.set_cons_zero, List.set_cons_succ])
                    refine wpAnyH_take (i := 16) (oi := ?o35) (v := ?v35) ?a35 (by kernel_rfl) (by kernel_rfl) (by kernel_rfl) ?q35 (Or.inl ⟨?g35, ?y35⟩) (by assumption) ?r35; (case' a35 => (simp only [List.getElem?_toArray, List.getElem?_cons_zero, List.getElem?_cons_succ]; rfl)); (case' q35 => (exact fun _ _ _ h => h)); (case' g35 => rfl); (case' y35 => (intro w hSw; (try dsimp only at hSw); go_simp; try with_reducible rfl)); (case' r35 => (try simp only [Act.put, List.setIfInBounds_toArray, List.set_cons_zero, List.set_cons_succ]))
                    refine wpAnyH_take (i := 17) (oi := ?o36) (v := ?v36) ?a36 (by kernel_rfl) (by kernel_rfl) (by kernel_rfl) ?q36 (Or.inl ⟨?g36, ?y36⟩) (by assumption) ?r36; (case' a36 => (simp only [List.getElem?_toArray, List.getElem?_cons_zero, List.getElem?_cons_succ]; rfl)); (case' q36 => (exact fun _ _ _ h => h)); (case' g36 => rfl); (case' y36 => (intro w hSw; (try dsimp only at hSw); go_simp; try with_reducible rfl)); (case' r36 => (try simp only [Act.put, List.setIfInBounds_toArray, List.set_cons_zero, List.set_cons_succ]))
                    refine wpAnyH_done (by kernel_rfl) ?_ _
                    go_wp2_with fail
                    go_meet
                    exact ⟨by rw [HFM.out, Bool.true_and], hHeld.1.2.nil⟩
                  exact AllReadyH.nil
                exact AllReadyH.nil
              · have HFM : Hid (firstM (some u.m) v.m = false) := Lib.hid (decide_eq_false (by rw [hr]; exact hneg))
                have g1 : decide (0 ≤ r) = true := decide_eq_true (by omega)
                clear hr
                refine wp_region_held_drew (S := fun w' => ((w'.cell? ⟨wr.heap.size, 0, none⟩ = some (.int .i64 v.m.id) ∧ w'.cell? ⟨wr.heap.size, 1, none⟩ = some (.int .i64 v.m.ep) ∧ w'.cell? ⟨wr.heap.size, 2, none⟩ = some (.string v.m.t) ∧ w'.cell? ⟨wr.heap.size, 3, none⟩ = some (.int .i64 v.m.p) ∧ w'.cell? ⟨wr.heap.size, 4, none⟩ = some (.slice v.A nl v.c)) ∧ Only [] Wx w') ∧ ((w'.cell? ⟨xg, xo + i * 5, none⟩ = some (.int .i64 u.m.id) ∧ w'.cell? ⟨xg, xo + i * 5 + 1, none⟩ = some (.int .i64 u.m.ep) ∧ w'.cell? ⟨xg, xo + i * 5 + 2, none⟩ = some (.string u.m.t) ∧ w'.cell? ⟨xg, xo + i * 5 + 3, none⟩ = some (.int .i64 u.m.p) ∧ w'.cell? ⟨xg, xo + i * 5 + 4, none⟩ = some (.slice u.A ul u.c)) ∧ Only [] Wx w')) (by kernel_rfl) ⟨keep5s (drewB _) p0 p1 p2 p3 p4, keep5s (drewB _) s0 s1 s2 s3 s4⟩ (fun hHeld => ?_)
                refine wpAnyH_take (i := 0) (oi := ?o37) (v := ?v37) ?a37 (by kernel_rfl) (by kernel_rfl) (by kernel_rfl) ?q37 (Or.inl ⟨?g37, ?y37⟩) (by assumption) ?r37; (case' a37 => (simp only [List.getElem?_toArray, List.getElem?_cons_zero]; rfl)); (case' q37 => (exact fun _ _ _ h => h)); (case' g37 => rfl); (case' y37 => (intro w hSw; (try dsimp only at hSw); go_simp; try with_reducible rfl)); (case' r37 => (try simp only [Act.put, List.setIfInBounds_toArray, List.set_cons_zero, List.set_cons_succ]))
                refine wpAnyH_take (i := 1) (oi := ?o38) (v := ?v38) ?a38 (by kernel_rfl) (by kernel_rfl) (by kernel_rfl) ?q38 (Or.inl ⟨?g38, ?y38⟩) (by assumption) ?r38; (case' a38 => (simp only [List.getElem?_toArray, List.getElem?_cons_zero, List.getElem?_cons_succ]; rfl)); (case' q38 => (exact fun _ _ _ h => h)); (case' g38 => rfl); (case' y38 => (intro w hSw; (try dsimp only at hSw); go_simp; try with_reducible rfl)); (case' r38 => (try simp only [Act.put, List.setIfInBounds_toArray, List.set_cons_zero, List.set_cons_succ]))
                refine wpAnyH_take (i := 2) (oi := ?o39) (v := ?v39) ?a39 (by kernel_rfl) (by kernel_rfl) (by kernel_rfl) ?q39 (Or.inl ⟨?g39, ?y39⟩) (by assumption) ?r39; (case' a39 => (simp only [List.getElem?_toArray, List.getElem?_cons_zero, List.getElem?_cons_succ]; rfl)); (case' q39 => (exact fun _ _ _ h => h)); (case' g39 => rfl); (case' y39 => (intro w hSw; (try dsimp only at hSw); go_simp; try with_reducible rfl)); (case' r39 => (try simp only [Act.put, List.setIfInBounds_toArray, List.set_cons_zero, List.set_cons_succ]))
                refine wpAnyH_take (i := 3) (oi := ?o40) (v := ?v40) ?a40 (by kernel_rfl) (by kernel_rfl) (by kernel_rfl) ?q40 (Or.inl ⟨?g40, ?y40⟩) (by assumption) ?r40; (case' a40 => (simp only [List.getElem?_toArray, List.getElem?_cons_zero, List.getElem?_cons_succ]; rfl)); (case' q40 => (exact fun _ _ _ h => h)); (case' g40 => rfl); (case' y40 => (intro w hSw; (try dsimp only at hSw); go_simp; try with_reducible rfl)); (case' r40 => (try simp only [Act.put, List.setIfInBounds_toArray, List.set_cons_zero, List.set_cons_succ]))
                refine wpAnyH_take (i := 4) (oi := ?o41) (v := ?v41) ?a41 (by kernel_rfl) (by kernel_rfl) (by kernel_rfl) ?q41 (Or.inl ⟨?g41, ?y41⟩) (by assumption) ?r41; (case' a41 => (simp only [List.getElem?_toArray, List.getElem?_cons_zero, List.getElem?_cons_succ]; rfl)); (case' q41 => (exact fun _ _ _ h => h)); (case' g41 => rfl); (case' y41 => (intro w hSw; (try dsimp only at hSw); go_simp; try with_reducible rfl)); (case' r41 => (try simp only [Act.put, List.setIfInBounds_toArray, List.set_cons_zero, List.set_cons_succ]))
                refine wpAnyH_take (i := 5) (oi := ?o42) (v := ?v42) ?a42 (by kernel_rfl) (by kernel_rfl) (by kernel_rfl) ?q42 (Or.inl ⟨?g42, ?y42⟩) (by assumption) ?r42; (case' a42 => (simp only [List.getElem?_toArray, List.getElem?_cons_zero, List.getElem?_cons_succ]; rfl)); (case' q42 => (exact fun _ _ _ h => h)); (case' g42 => rfl); (case' y42 => (intro w hSw; (try dsimp only at hSw); go_simp; try with_reducible rfl)); (case' r42 => (try simp only [Act.put, List.setIfInBounds_toArray, List.set_cons_zero, List.set_cons_succ]))
                refine wpAnyH_take (i := 6) (oi := ?o43) (v := ?v43) ?a43 (by kernel_rfl) (by kernel_rfl) (by kernel_rfl) ?q43 (Or.inl ⟨?g43, ?y43⟩) (by assumption) ?r43; (case' a43 => (simp only [List.getElem?_toArray, List.getElem?_cons_zero, List.getElem?_cons_succ]; rfl)); (case' q43 => (exact fun _ _ _ h => h)); (case' g43 => rfl); (case' y43 => (intro w hSw; (try dsimp only at hSw); go_simp; try with_reducible rfl)); (case' r43 => (try simp only [Act.put, List.setIfInBounds_toArray, List.set_cons_zero, List.set_cons_succ]))
                refine wpAnyH_take (i := 7) (oi := ?o44) (v := ?v44) ?a44 (by kernel_rfl) (by kernel_rfl) (by kernel_rfl) ?q44 (Or.inl ⟨?g44, ?y44⟩) (by assumption) ?r44; (case' a44 => (simp only [List.getElem?_toArray, List.getElem?_cons_zero, List.getElem?_cons_succ]; rfl)); (case' q44 => (exact fun _ _ _ h => h)); (case' g44 => rfl); (case' y44 => (intro w hSw; (try dsimp only at hSw); go_simp; try with_reducible rfl)); (case' r44 => (try simp only [Act.put, List.setIfInBounds_toArray, List.set_cons_zero, List.set_cons_succ]))
                refine wpAnyH_take (i := 8) (oi := ?o45) (v := ?v45) ?a45 (by kernel_rfl) (by kernel_rfl) (by kernel_rfl) ?q45 (Or.inl ⟨?g45, ?y45⟩) (by assumption) ?r45; (case' a45 => (simp only [List.getElem?_toArray, List.getElem?_cons_zero, List.getElem?_cons_succ]; rfl)); (case' q45 => (exact fun _ _ _ h => h)); (case' g45 => rfl); (case' y45 => (intro w hSw; (try dsimp only at hSw); go_simp; try with_reducible rfl)); (case' r45 => (try simp only [Act.put, List.setIfInBounds_toArray, List.set_cons_zero, List.set_cons_succ]))
                refine wpAnyH_ready (rs := [9]) (by kernel_rfl) (by simp) ?_
                refine AllReadyH.cons (o := ?o46) ?a46 (fun K hK => ?s46) ?m46; (case' a46 => (simp only [List.getElem?_toArray, List.getElem?_cons_zero, List.getElem?_cons_succ]; rfl))
                case s46 =>
                  go_simp
                  go_at_call 40
                  refine (order_at u v ul nl r _ HUL.out HNL.out HRO).mono ?_
                  rintro e wn ⟨rfl, hbn⟩
                  go_wp2_with fail
                  refine hK.out _ _ (⟨keep5 hHeld.1 hbn, keep5 hHeld.2 hbn⟩) (fun hHeld => ?_)
                  clear hK K
                  (try simp only [Act.put, List.setIfInBounds_toArray, List.set_cons_zero, List.set_cons_succ])
                  refine wpAnyH_take (i := 10) (oi := ?o47) (v := ?v47) ?a47 (by kernel_rfl) (by kernel_rfl) (by kernel_rfl) ?q47 (Or.inl ⟨?g47, ?y47⟩) (by assumption) ?r47; (case' a47 => (simp only [List.getElem?_toArray, List.getElem?_cons_zero, List.getElem?_cons_succ]; rfl)); (case' q47 => (exact fun _ _ _ h => h)); (case' g47 => rfl); (case' y47 => (intro w hSw; (try dsimp only at hSw); go_simp; try with_reducible rfl)); (case' r47 => (try simp only [Act.put, List.setIfInBounds_toArray, List.set_cons_zero, List.set_cons_succ]))
                  refine wpAnyH_take (i := 11) (oi := ?o48) (v := ?v48) ?a48 (by kernel_rfl) (by kernel_rfl) (by kernel_rfl) ?q48 (Or.inl ⟨?g48, ?y48⟩) (by assumption) ?r48; (case' a48 => (simp only [List.getElem?_toArray, List.getElem?_cons_zero, List.getElem?_cons_succ]; rfl)); (case' q48 => (exact fun _ _ _ h => h)); (case' g48 => rfl); (case' y48 => (intro w hSw; (try dsimp only at hSw); go_simp; try with_reducible rfl)); (case' r48 => (try simp only [Act.put, List.setIfInBounds_toArray, List.set_cons_zero, List.set_cons_succ]))
                  refine wpAnyH_take (i := 12) (oi := ?o49) (v := ?v49) ?a49 (by kernel_rfl) (by kernel_rfl) (by kernel_rfl) ?q49 (Or.inl ⟨?g49, ?y49⟩) (by assumption) ?r49; (case' a49 => (simp only [List.getElem?_toArray, List.getElem?_cons_zero, List.getElem?_cons_succ]; rfl)); (case' q49 => (exact fun _ _ _ h => h)); (case' g49 => rfl); (case' y49 => (intro w hSw; (try dsimp only at hSw); go_simp; try with_reducible rfl)); (case' r49 => (try simp only [Act.put, List.setIfInBounds_toArray, List.set_cons_zero, List.set_cons_succ]))
                  refine wpAnyH_take (i := 13) (oi := ?o50) (v := undef) ?a50 (by kernel_rfl) (by kernel_rfl) (by kernel_rfl) ?q50 (Or.inr ⟨?g50, rfl⟩) (by assumption) ?r50; (case' a50 => (simp only [List.getElem?_toArray, List.getElem?_cons_zero, List.getElem?_cons_succ]; rfl)); (case' q50 => (exact fun _ _ _ h => h)); (case' g50 => rfl); (case' r50 => (try simp only [Act.put, List.setIfInBounds_toArray, List.set_cons_zero, List.set_cons_succ]))
                  refine wpAnyH_take (i := 14) (oi := ?o51) (v := undef) ?a51 (by kernel_rfl) (by kernel_rfl) (by kernel_rfl) ?q51 (Or.inr ⟨?g51, rfl⟩) (by assumption) ?r51; (case' a51 => (simp only [List.getElem?_toArray, List.getElem?_cons_zero, List.getElem?_cons_succ]; rfl)); (case' q51 => (exact fun _ _ _ h => h)); (case' g51 => rfl); (case' r51 => (try simp only [Act.put, List.setIfInBounds_toArray, List.set_cons_zero, List.set_cons_succ]))
                  refine wpAnyH_take (i := 15) (oi := ?o52) (v := undef) ?a52 (by kernel_rfl) (by kernel_rfl) (by kernel_rfl) ?q52 (Or.inr ⟨?g52, rfl⟩) (by assumption) ?r52; (case' a52 => (simp only [List.getElem?_toArray, List.getElem?_cons_zero, List.getElem?_cons_succ]; rfl)); (case' q52 => (exact fun _ _ _ h => h)); (case' g52 => rfl); (case' r52 => (try simp only [Act.put, List.setIfInBounds_toArray, List.set_cons_zero, List.set_cons_succ]))
                  refine wpAnyH_take (i := 16) (oi := ?o53) (v := undef) ?a53 (by kernel_rfl) (by kernel_rfl) (by kernel_rfl) ?q53 (Or.inr ⟨?g53, rfl⟩) (by assumption) ?r53; (case' a53 => (simp only [List.getElem?_toArray, List.getElem?_cons_zero, List.getElem?_cons_succ]; rfl)); (case' q53 => (exact fun _ _ _ h => h)); (case' g53 => rfl); (case' r53 => (try simp only [Act.put, List.setIfInBounds_toArray, List.set_cons_zero, List.set_cons_succ]))
                  refine wpAnyH_take (i := 17) (oi := ?o54) (v := ?v54) ?a54 (by kernel_rfl) (by kernel_rfl) (by kernel_rfl) ?q54 (Or.inl ⟨?g54, ?y54⟩) (by assumption) ?r54; (case' a54 => (simp only [List.getElem?_toArray, List.getElem?_cons_zero, List.getElem?_cons_succ]; rfl)); (case' q54 => (exact fun _ _ _ h => h)); (case' g54 => rfl); (case' y54 => (intro w hSw; (try dsimp only at hSw); go_simp; try with_reducible rfl)); (case' r54 => (try simp only [Act.put, List.setIfInBounds_toArray, List.set_cons_zero, List.set_cons_succ]))
                  refine wpAnyH_done (by kernel_rfl) ?_ _
                  go_wp2_with fail
                  go_meet
                  exact ⟨by rw [HFM.out]; rfl, hHeld.1.2.nil⟩
                exact AllReadyH.nil
          case rest =>
            obtain ⟨rfl, hcb⟩ := hcut
            clear FIT hB
            cases hok : firstM q v.m && fb with
            | false =>
              have hcf : cb = false := by
                have e := HNX.out
                rw [HFB.out, hok] at e; exact e
              subst hcf
              have HCB := Lib.hid (HBW.out.trans (hcb.mono HBW.out.size))
              clear hcb y0 y1 y2 y3 y4 hcells hv hok
              go_wp2_with fail
              go_ret2
              exact ⟨HCB.out, .inl ⟨by decide, rfl⟩⟩
            | true =>
              have hfq : firstM q v.m = true ∧ fb = true := by simpa using hok
              have HCH : Hid (chainB es (some v.m) ((vs.map (·.m)).drop (j + 1)) = cb) := Lib.hid (by
                have e := HNX.out
                rw [HFB.out, hok, Bool.true_and] at e; exact e.symm)
              obtain ⟨ts1, ts2⟩ := take_sorted HVM.out HG.out.sorted HG.out.pre hfq.1
              have HSO := Lib.hid ts1
              have HMEM := Lib.hid (take_mem HVM.out ts2)
              have HFT : Hid (∀ x ∈ (vs.map (·.m)).take (j + 1), fitB es x = true) := Lib.hid (fun x hx => by
                rw [List.take_add_one, HVM.out] at hx
                rcases List.mem_append.1 hx with hx | hx
                · exact HG.out.fit x hx
                · have : x = v.m := by simpa using hx
                  rw [this, HFB.out]; exact hfq.2)
              have hkeys := fit_keys (ms := (vs.map (·.m)).take (j + 1)) (by rw [hes.out]; omega) HFT.out (fun x hx => HT.out x (List.mem_of_mem_take hx))
              have hvk := hkeys v.m (by rw [List.take_add_one, HVM.out]; simp)
              have HKE : Hid (Keys ((vs.map (·.m)).take j)) := Lib.hid (fun x hx => hkeys x (by rw [List.take_add_one]; simp [hx]))
              have HVK := Lib.hid hvk
              have HVT := Lib.hid (HT.out v.m (List.mem_of_getElem? HVM.out)).1
              have q0 := cell_at hcb p0; have q2 := cell_at hcb p2; have q3 := cell_at hcb p3; have q4 := cell_at hcb p4
              have HT9 := Lib.hid (HTX.out.below hcb)
              have HB9 : Hid (Below w.heap.size w wc) := Lib.hid (HBW.out.trans (hcb.mono HBW.out.size))
              have hnn : v.A = none → nl = 0 ∧ v.c = 0 := fun e => ⟨by
                have e1 := HRC.out.1.src.1 e
                have e2 := rowD_len v.m.l
                rw [e1, HNL.out] at e2; simp at e2; omega, HCN.out e⟩
              have CLN : ∀ V, Below wc.heap.size wc V → Calls Try.prog 38 #[.slice v.A nl v.c] V (CopyQ wc w.heap.size nl v.m.l) := fun V hV => by
                refine (cloneD_is v.A nl v.c (rowD v.m.l) V hnn (Lib.hid (by rw [rowD_len, HNL.out])) HN1.out (Lib.hid (rowD_one _)) (Lib.hid (((HRC.out.below hcb).below hV).1.src))).mono ?_
                rintro e w4 ⟨A4, c4, rfl, ho4, hb4⟩
                exact ⟨A4, c4, rfl, own_base ho4 (Nat.le_trans HB9.out.size hV.size), hV.trans (hb4.mono hV.size)⟩
              have hO := Only.refl [b] wc
              have hB := Below.refl wc.heap.size wc
              clear hcb y0 y1 y2 y3 y4 hcells hv hok hfq ts1 ts2 hkeys hvk p0 p1 p2 p3 p4 hnn
              go_upto_region 15 with (fail)
              go_region_held3 (fun w' => (w'.cell? ⟨wr.heap.size, 0, none⟩ = some (.int .i64 v.m.id) ∧ w'.cell? ⟨wr.heap.size, 2, none⟩ = some (.string v.m.t) ∧ w'.cell? ⟨wr.heap.size, 3, none⟩ = some (.int .i64 v.m.p) ∧ w'.cell? ⟨wr.heap.size, 4, none⟩ = some (.slice v.A nl v.c)) ∧ Only [b] wc w')
                (first | assumption | exact ⟨⟨q0, q2, q3, q4⟩, hO⟩ | exact ⟨⟨q0, q2, q3, q4⟩, hO.drew⟩ | exact keep4 (by assumption) ((Below.refl _ _).drew) | exact ⟨⟨cell_at hb4 q0, cell_at hb4 q2, cell_at hb4 q3, cell_at hb4 q4⟩, Only.ofBelow hb4⟩ | exact keep4o (by assumption) (by assumption) (by assumption))
                (first
                  | (go_at_call 38; refine (CLN _ (by first | exact hB | exact hB.drew | exact hB.drew.drew)).mono ?_; rintro e w4 ⟨A4, c4, rfl, ho4, hb4⟩; have HO4 := Lib.hid ho4; have hm4 := (HT9.out.below hb4).map.map; clear ho4)
                  | (go_at_call 32; refine (keep_is v.m.id v.m.ep v.m.p v.m.t A4 nl c4 v.m.l (Lib.hid (HT9.out.below hb4)) (by omega) HKE HVK.out.1 HVT.out (Lib.hid HVK.out.2.2) (Lib.hid HNL.out.symm) (Lib.hid (RowC.own HO4.out HNL.out)) HMEM).mono ?_; rintro e w5 ⟨rfl, ht5, ho5⟩))
              all_goals
                rename_i hh
                have HG5 : Hid (LGo w es (vs.map (·.m)) g A1 c1 b (j + 1) (some v.m) cb w5) := Lib.hid ⟨ht5, HG.out.news, HB9.out.trans (hh.2.below HB9.out.size (fun q hq => by
                  have : q = b := by simpa using hq
                  rw [this]; exact HG.out.news b (by simp [blocks]))), HCH.out, pre_step HVM.out, HSO.out, HFT.out⟩
                clear hh ht5 ho5 hb4 hm4 q0 q2 q3 q4 CLN hO hB
                go_wp2_with fail
                go_roundw
                case rel => exact ⟨j + 1, some v.m, by omega, by go_num, HG5⟩
                case measure => simp [intOf]; omega
        · obtain rfl : j = m := by omega
          have hc := HG.out.chain
          rw [List.drop_of_length_le (by rw [HMS.out]; exact Nat.le_refl _)] at hc
          have hc' : cb = true := by rw [← hc]; cases q <;> rfl
          subst hc'
          have ht := HG.out.tab
          rw [List.take_of_length_le (by rw [HMS.out]; exact Nat.le_refl _)] at ht
          have HTF := Lib.hid ht
          clear hc ht
          go_wp2_with fail
          go_ret2
          exact ⟨HG.out.bel, .inr ⟨rfl, g, rfl, A1, c1, b, by rw [HMS.out]; exact HTF.out, HG.out.news⟩⟩
end Go.Proofs.Ytcmlopflandlgaa.L8
