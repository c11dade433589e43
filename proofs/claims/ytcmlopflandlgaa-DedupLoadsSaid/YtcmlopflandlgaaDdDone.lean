/-
  Contracts: Done.
-/
import Derived.Test.YtcmlopflandlgaaDdConcat
namespace Go.Proofs.Ytcmlopflandlgaa.L8
open Go.RowKit
open Go.Maps
open L3 L4

set_option maxRecDepth 100000 in
theorem last_nil {es : List Int} {ms : List Mk} (G : Good es ms) {w : World} {b N : Nat} (h : IsTab w b N ms) {id p : Int} {t : ByteArray} (hi : (Lit.int .i64 id).wf = true) (ht : t.size ≤ maxLen) (hp : (Lit.int .i64 p).wf = true) (hnil : lastOf ms id t p = []) :
    ∀ W', Below w.heap.size w W' → (Instr.lookup 63 (.map (some b)) (.agg #[.int .i64 id, .string t, .int .i64 p]) false).run Try.prog W' = .ok (.slice none 0 0) W' := fun W' hb => by
  have hno : ¬ ∃ m ∈ ms, m.id = id ∧ m.t = t ∧ m.p = p := by
    rintro ⟨m, hm, rfl, rfl, rfl⟩
    rw [lastOf_mem G.sorted hm] at hnil
    have := (G.fit m hm).2.1
    rw [hnil] at this
    simp at this
  obtain ⟨D, ho, hh, hr⟩ := h.below hb
  have hn := has_false (kl := kLit id t p) hh (fun m h1 e => hno ⟨m, h1, kLit_inj (G.keys m h1).1 (G.keys m h1).2.1 (G.keys m h1).2.2 hi ht hp e⟩)
  obtain ⟨v, ps, hrun, hv⟩ := ho.lookup lawSpot Try.underlying63 (zeroDids W') (show rd (.slice none 0 0) = some (.held (.slice none 0 0), []) from rfl) (keyOf_spot hi ht hp)
  obtain ⟨x, rfl, e⟩ := rd_inv hv
  have e' : D.atKey (kLit id t p) (.held (.slice none 0 0)) = .held (.slice x.1 x.2.1 x.2.2) := congrArg Prod.fst e
  rw [atKey_of_not_has hn] at e'
  injection e' with e'
  rw [hrun, ← e']
theorem IsTab.look2 {es : List Int} {ms : List Mk} (G : Good es ms) {w : World} {b N : Nat} (h : IsTab w b N ms) {id p : Int} {t : ByteArray} (hi : (Lit.int .i64 id).wf = true) (ht : t.size ≤ maxLen) (hp : (Lit.int .i64 p).wf = true) :
    ∃ A c, RowC w A c (lastOf ms id t p) ∧ (A = none → c = 0) ∧ (lastOf ms id t p = [] → A = none) ∧ ∀ W', Below w.heap.size w W' → (Instr.lookup 63 (.map (some b)) (.agg #[.int .i64 id, .string t, .int .i64 p]) false).run Try.prog W' = .ok (.slice A (lastOf ms id t p).length c) W' := by
  by_cases hnil : lastOf ms id t p = []
  · have k := last_nil G h hi ht hp hnil
    rw [hnil]
    exact ⟨none, 0, ⟨rowD_nil _ _, by simp⟩, fun _ => rfl, fun _ => rfl, k⟩
  · obtain ⟨A, c, hR, k⟩ := h.look G.sorted G.keys hi ht hp
    refine ⟨A, c, hR, fun e => ?_, fun e => absurd e hnil, k⟩
    obtain ⟨g, o, cs, fr, e', _⟩ := hR.1 (List.length_pos_iff.2 hnil)
    rw [e'] at e; cases e
theorem done_boxes {w : World} {pr ep sq p : Int} {t : ByteArray} {v : Value} {W w1 : World} (hW : (w.alloc (.cells #[.string t, .int .i64 p] 31)).alloc (.cells #[.int .i64 pr, .int .i64 ep, .int .i64 sq, v] 34) = W) (hb : Below W.heap.size W w1) :
    Below w.heap.size w w1 ∧ (w1.cell? ⟨w.heap.size, 0, none⟩ = some (.string t) ∧ w1.cell? ⟨w.heap.size, 1, none⟩ = some (.int .i64 p)) ∧ w1.cell? ⟨w.heap.size + 1, 0, none⟩ = some (.int .i64 pr) ∧ w1.cell? ⟨w.heap.size + 1, 2, none⟩ = some (.int .i64 sq) ∧ w1.cell? ⟨w.heap.size + 1, 3, none⟩ = some v := by
  obtain ⟨h1, h2, h3⟩ := ask_boxes (w := w) (pr := pr) (ep := ep) (sq := sq) (p := p) (t := t) (v := v)
  rw [hW] at h1 h2 h3
  exact ⟨h1.trans (hb.mono h1.size), ⟨cell_at hb ((cell_of_row _ _ 0 _ _ _ h2).trans rfl), cell_at hb ((cell_of_row _ _ 1 _ _ _ h2).trans rfl)⟩, cell_at hb ((cell_of_row _ _ 0 _ _ _ h3).trans rfl), cell_at hb ((cell_of_row _ _ 2 _ _ _ h3).trans rfl), cell_at hb ((cell_of_row _ _ 3 _ _ _ h3).trans rfl)⟩

section
variable {W w1 w2 : World} {b : Nat} {a1 a2 a3 a4 a5 a6 : Addr} {v1 v2 v3 v4 v5 v6 : Value}
theorem keep6 (h : (w1.cell? a1 = some v1 ∧ w1.cell? a2 = some v2 ∧ w1.cell? a3 = some v3 ∧ w1.cell? a4 = some v4 ∧ w1.cell? a5 = some v5 ∧ w1.cell? a6 = some v6) ∧ Only [b] W w1) (hb : Below w1.heap.size w1 w2) :
    (w2.cell? a1 = some v1 ∧ w2.cell? a2 = some v2 ∧ w2.cell? a3 = some v3 ∧ w2.cell? a4 = some v4 ∧ w2.cell? a5 = some v5 ∧ w2.cell? a6 = some v6) ∧ Only [b] W w2 := by
  obtain ⟨⟨h1, h2, h3, h4, h5, h6⟩, ho⟩ := h
  exact ⟨⟨cell_at hb h1, cell_at hb h2, cell_at hb h3, cell_at hb h4, cell_at hb h5, cell_at hb h6⟩, ho.trans (S' := []) (Only.ofBelow hb) (fun q hq => by cases hq)⟩
theorem cell_only (ho : Only [b] w1 w2) (hm : ∃ es c, w1.heap[b]? = some (.map es c)) {a : Addr} {v : Value} (h : w1.cell? a = some v) : w2.cell? a = some v :=
  ho.cell h (fun e => by
    obtain ⟨es, c, hm⟩ := hm
    have e' : a.block = b := by simpa using e
    unfold World.cell? at h
    rw [e', hm] at h
    simp at h)
theorem keep6o (h : (w1.cell? a1 = some v1 ∧ w1.cell? a2 = some v2 ∧ w1.cell? a3 = some v3 ∧ w1.cell? a4 = some v4 ∧ w1.cell? a5 = some v5 ∧ w1.cell? a6 = some v6) ∧ Only [b] W w1) (ho : Only [b] w1 w2) (hm : ∃ es c, w1.heap[b]? = some (.map es c)) :
    (w2.cell? a1 = some v1 ∧ w2.cell? a2 = some v2 ∧ w2.cell? a3 = some v3 ∧ w2.cell? a4 = some v4 ∧ w2.cell? a5 = some v5 ∧ w2.cell? a6 = some v6) ∧ Only [b] W w2 := by
  obtain ⟨⟨h1, h2, h3, h4, h5, h6⟩, hO⟩ := h
  exact ⟨⟨cell_only ho hm h1, cell_only ho hm h2, cell_only ho hm h3, cell_only ho hm h4, cell_only ho hm h5, cell_only ho hm h6⟩, hO.trans ho (fun q hq => .inl hq)⟩
end
section
variable (W : World) (o1 o2 : Array Value) (T1 T2 : TypeId)
theorem two_c : Below W.heap.size W ((W.alloc (.cells o1 T1)).alloc (.cells o2 T2)).drew := by
  have b1 := one_box' (w := W) (.cells o1 T1)
  exact (b1.alloc b1.size _).drew
theorem two_a : ((W.alloc (.cells o1 T1)).alloc (.cells o2 T2)).drew.heap[W.heap.size]? = some (.cells o1 T1 (0, 0)) := by
  show ((W.alloc (.cells o1 T1)).alloc (.cells o2 T2)).heap[W.heap.size]? = _
  exact (Below.heap_alloc _ _ _ (by simp)).trans (heap_alloc_new _ _)
theorem two_b : ((W.alloc (.cells o1 T1)).alloc (.cells o2 T2)).drew.heap[W.heap.size + 1]? = some (.cells o2 T2 (0, 0)) := by
  show ((W.alloc (.cells o1 T1)).alloc (.cells o2 T2)).heap[W.heap.size + 1]? = _
  have e1 : (W.alloc (.cells o1 T1)).heap.size = W.heap.size + 1 := by simp
  rw [← e1]; exact heap_alloc_new _ _
end
theorem concat_done {V : World} {q1 q2 k c' : Nat} {X' : Option Addr} {st : List Did} {sq n off : Int} (h1 : V.heap[q1]? = some (.cells #[.int .i64 sq, .int .i64 n, .int .i64 off] 50 (0, 0))) (h2 : V.heap[q2]? = some (.cells #[.slice X' k c', .slice (some ⟨q1, 0, none⟩) 1 1] 46 (0, 0)))
    (hk : st.length = k) (hk5 : k ≤ 5) (hX : (X' = none → c' = 0) ∧ RowD V X' st) :
    Calls Try.prog 33 #[.slice (some ⟨q2, 0, none⟩) 2 2] V (CopyR V 50 3 (k + 1) (rowD (st ++ [⟨sq, n, off⟩]))) := by
  have hc : cat [⟨X', c', st⟩, ⟨some ⟨q1, 0, none⟩, 1, [⟨sq, n, off⟩]⟩] = st ++ [⟨sq, n, off⟩] := by simp [cat]
  have h := concat_is q2 [⟨X', c', st⟩, ⟨some ⟨q1, 0, none⟩, 1, [⟨sq, n, off⟩]⟩] 2 2 (k + 1) V (Lib.hid rfl) (by omega) (Lib.hid ?_) (Lib.hid ?_) (Lib.hid (by rw [hc]; simp [hk])) (by omega) (by omega)
  · rw [hc] at h; exact h
  · intro i p hp
    match i, hp with
    | 0, hp => simp at hp; subst hp; rw [hk]; exact (cell_of_row _ _ 0 _ _ _ h2).trans rfl
    | 1, hp => simp at hp; subst hp; exact (cell_of_row _ _ 1 _ _ _ h2).trans rfl
    | i + 2, hp => simp at hp
  · intro p hp
    simp at hp
    rcases hp with rfl | rfl
    · exact ⟨hX.2.src, hX.1⟩
    · refine ⟨RowD.src (fun _ => ⟨q1, 0, _, _, rfl, h1, fun i d hd => ?_⟩), fun e => (by cases e)⟩
      match i, hd with
      | 0, hd =>
        simp at hd; subst hd
        exact ⟨(cell_of_row _ _ 0 _ _ _ h1).trans rfl, (cell_of_row _ _ 1 _ _ _ h1).trans rfl, (cell_of_row _ _ 2 _ _ _ h1).trans rfl⟩
      | i + 1, hd => simp at hd
set_option maxRecDepth 100000 in
set_option maxHeartbeats 4000000 in
theorem done_put {w : World} {g cap b N : Nat} {A : Option Addr} {es : List Int} {ms : List Mk} (t : ByteArray) (p pr ep sq off : Int) (R : Option Addr) (n rc L : Nat) (l : List Did) (h : Hid (Tab w g A cap b N es ms)) (G : Hid (Good es ms)) (ht : t.size ≤ 281474976710656) (hp : Hid ((Lit.int .i64 p).wf = true)) (hpr : Hid (1 ≤ pr ∧ pr ≤ 32))
    (HA : Hid (askP es ms t p pr ep sq n = (0, false, 0))) (hn0 : 0 < n) (hoff : Hid (numB8 off = true)) (Hl : Hid (lastOf ms pr t p = l)) (HL : Hid (l.length = L)) (hN : N ≤ 100000) :
    Calls Try.prog 13 #[.pointer (some ⟨g, 0, none⟩), .agg #[.string t, .int .i64 p], .agg #[.int .i64 pr, .int .i64 ep, .int .i64 sq, .slice R n rc], .int .i64 off] w fun e w' => e = .returned (.int .i64 0) ∧ Tab w' g A cap b (N + 1) es (putM ⟨pr, ep, t, p, push l ⟨sq, n, off⟩⟩ false ms) ∧ Only [b] w w' := by
  have HI : Hid ((Lit.int .i64 pr).wf = true) := Lib.hid (num_wf (by have := hpr.out; omega) (by have := hpr.out; omega))
  have HT0 : Hid (t.size ≤ maxLen) := Lib.hid (by unfold maxLen; omega)
  have HL5 : Hid (L ≤ 5) := Lib.hid (by rw [← HL.out, ← Hl.out]; exact G.out.last_len _ _ _)
  obtain ⟨W, hW⟩ : ∃ W, (w.alloc (.cells #[.string t, .int .i64 p] 31)).alloc (.cells #[.int .i64 pr, .int .i64 ep, .int .i64 sq, .slice R n rc] 34) = W := ⟨_, rfl⟩
  have HW := Lib.hid hW
  obtain ⟨hbW, _⟩ := done_boxes hW (Below.refl _ _)
  have HT := Lib.hid (h.out.below hbW)
  clear hW hbW
  have i0 : (pr == 0) = false := by simpa using (by have := hpr.out; omega : pr ≠ 0)
  have n0 : ((n : Int) == 0) = false := by simpa using (by omega : (n : Int) ≠ 0)
  go_enter Try.func13, Try.ntmps13
  go_upto_region 10 with (first
    | (go_at_call 11; rw [HW.out]; refine (ask_is t p pr ep sq 0 0 false R n rc HT G HT0.out hp HA).mono ?_; rintro e w1 ⟨rfl, hb1⟩; obtain ⟨B1, ⟨k0, k1⟩, k2, k3, k4⟩ := done_boxes HW.out hb1; have HB1 := Lib.hid hb1; clear hb1)
    | (go_at_call 31; refine (within_is off true _ hoff).mono ?_; rintro e w2 ⟨rfl, rfl⟩))
  have HBW1 := Lib.hid B1
  have HT1 := Lib.hid (h.out.below B1)
  have c1 := HT1.out.c1
  obtain ⟨X, c, ⟨hR, hLC⟩, hXn, hXl, hlook⟩ := IsTab.look2 G.out HT1.out.map HI.out HT0.out hp.out
  rw [Hl.out] at hR hXl hLC
  rw [HL.out] at hLC
  rw [Hl.out, HL.out] at hlook
  have hb0 : ∀ q, Below w1.heap.size w1 (w1.drewN q) := fun q => drewN_below (Below.refl _ _) q
  have u1 := hlook w1.drew (hb0 1)
  have u2 := hlook w1.drew.drew (hb0 2)
  have u3 := hlook w1.drew.drew.drew (hb0 3)
  go_region
  obtain ⟨W2, hW2⟩ : ∃ W2, w1.drew = W2 := ⟨_, rfl⟩
  have b2 : Below w1.heap.size w1 W2 := by rw [← hW2]; exact hb0 1
  have q0 := cell_at b2 k0; have q1 := cell_at b2 k1; have q2 := cell_at b2 k2; have q3 := cell_at b2 k3; have q4 := cell_at b2 k4
  have HB2 : Hid (Below w.heap.size w W2) := Lib.hid (HBW1.out.trans (b2.mono HBW1.out.size))
  have HT2 := Lib.hid (HT1.out.below b2)
  have HR := Lib.hid (hR.below b2)
  have HXN := Lib.hid hXn
  have HXL := Lib.hid hXl
  rw [hW2]
  have hL5 := HL5.out
  clear u1 u2 u3 k0 k1 k2 k3 k4 c1 hb0 hlook hR hXn hXl hW2 b2 B1 HB1 i0 n0
  go_upto_region 11 with (fail)
  go_cut [13] (fun sv wc => ∃ (X' : Option Addr) (c' : Nat), sv = .slice X' (L - (L + 1 - 5)) c' ∧ Hid ((X' = none → c' = 0) ∧ RowD W2 X' (l.drop (L + 1 - 5))) ∧ W2 = wc)
  case first =>
    by_cases z0 : L = 0
    · have hl : l = [] := List.eq_nil_of_length_eq_zero (HL.out.trans z0)
      obtain rfl : X = none := HXL.out hl
      obtain rfl : c = 0 := HXN.out rfl
      subst z0
      go_wp2_with fail
      go_meet
      exact ⟨none, 0, rfl, Lib.hid ⟨fun _ => rfl, by rw [hl]; exact rowD_nil _ _⟩, rfl⟩
    · obtain ⟨g1, o1, cs, fr, rfl, hg1, _⟩ := HR.out (by rw [HL.out]; omega)
      by_cases z5 : L = 5
      · subst z5
        have hd := HR.out.drop 1
        go_wp2_with fail
        all_goals
          go_meet
          exact ⟨some ⟨g1, o1 + 1 * 3, none⟩, c - 1, rfl, Lib.hid ⟨fun e => (by cases e), hd⟩, rfl⟩
      · have hm : (max (0 : Int) ((L : Int) + 1 - 5)).toNat = 0 := by omega
        have hd : L + 1 - 5 = 0 := by omega
        have HM := Lib.hid hm
        have HDZ := Lib.hid hd
        clear hm hd
        go_wp2_with fail
        all_goals
          go_meet
          exact ⟨some ⟨g1, o1, none⟩, c, by rw [HM.out, HDZ.out]; simp, Lib.hid ⟨fun e => (by cases e), by rw [HDZ.out]; exact HR.out⟩, rfl⟩
  case rest =>
    obtain ⟨X', c', rfl, HX', rfl⟩ := hcut
    obtain ⟨k, hk⟩ : ∃ k, L - (L + 1 - 5) = k := ⟨_, rfl⟩
    obtain ⟨st, hst⟩ : ∃ st, l.drop (L + 1 - 5) = st := ⟨_, rfl⟩
    rw [hst] at HX'
    rw [hk]
    have HK : Hid (st.length = k) := Lib.hid (by rw [← hst, List.length_drop, HL.out]; exact hk)
    have HPU : Hid (push l ⟨sq, n, off⟩ = st ++ [⟨sq, n, off⟩]) := Lib.hid (by rw [push_eq, HL.out, hst])
    have hk5 : k ≤ 5 := by omega
    clear hk hst
    go_upto_region 13 with (fail)
    obtain ⟨W3, hW3⟩ : ∃ W3, W2.alloc (.cells #[.int .i64 sq, .int .i64 n, .int .i64 off] 50) = W3 := ⟨_, rfl⟩
    have b3 : Below W2.heap.size W2 W3 := by rw [← hW3]; exact one_box' _
    have r3 : W3.heap[W2.heap.size]? = some (.cells #[.int .i64 sq, .int .i64 n, .int .i64 off] 50 (0, 0)) := by rw [← hW3]; exact heap_alloc_new _ _
    have p0 := cell_at b3 q0; have p1 := cell_at b3 q1; have p2 := cell_at b3 q2
    have d0 : W3.cell? ⟨W2.heap.size, 0, none⟩ = some (.int .i64 sq) := (cell_of_row _ _ 0 _ _ _ r3).trans rfl
    have d1 : W3.cell? ⟨W2.heap.size, 1, none⟩ = some (.int .i64 n) := (cell_of_row _ _ 1 _ _ _ r3).trans rfl
    have d2 : W3.cell? ⟨W2.heap.size, 2, none⟩ = some (.int .i64 off) := (cell_of_row _ _ 2 _ _ _ r3).trans rfl
    have HT3 := Lib.hid (HT2.out.below b3)
    have HX3 : Hid ((X' = none → c' = 0) ∧ RowD W3 X' st) := Lib.hid ⟨HX'.out.1, HX'.out.2.below b3⟩
    have HB3 : Hid (Below w.heap.size w W3) := Lib.hid (HB2.out.trans (b3.mono HB2.out.size))
    rw [hW3]
    clear q0 q1 q2 q3 q4 hW3 r3 b3
    have hO := Only.refl [b] W3
    have HPM := Lib.hid (putM_mem ⟨pr, ep, t, p, st ++ [⟨sq, n, off⟩]⟩ G.out.sorted).2
    go_region_held3 (fun w' => (w'.cell? ⟨w.heap.size, 0, none⟩ = some (.string t) ∧ w'.cell? ⟨w.heap.size, 1, none⟩ = some (.int .i64 p) ∧ w'.cell? ⟨w.heap.size + 1, 0, none⟩ = some (.int .i64 pr) ∧ w'.cell? ⟨W2.heap.size, 0, none⟩ = some (.int .i64 sq) ∧ w'.cell? ⟨W2.heap.size, 1, none⟩ = some (.int .i64 n) ∧ w'.cell? ⟨W2.heap.size, 2, none⟩ = some (.int .i64 off)) ∧ Only [b] W3 w')
      (first | assumption | exact ⟨⟨p0, p1, p2, d0, d1, d2⟩, hO⟩ | exact ⟨⟨p0, p1, p2, d0, d1, d2⟩, hO.drew⟩ | exact keep6 (by assumption) ((Below.refl _ _).drew) | exact keep6 (by assumption) (one_box' _) | exact keep6 (keep6 (by assumption) (one_box' _)) ((Below.refl _ _).drew) | exact keep6 (by assumption) (by assumption) | exact keep6o (by assumption) (by assumption) (by assumption))
      (first
        | (go_at_call 33; refine (concat_done (two_a _ _ _ _ _) (two_b _ _ _ _ _) HK.out hk5 ⟨HX3.out.1, HX3.out.2.below (two_c _ _ _ _ _)⟩).mono ?_; rintro e w4 ⟨A4, c4, rfl, ho4, hb4⟩; have hb5 : Below W3.heap.size W3 w4 := (two_c W3 _ _ _ _).trans (hb4.mono (two_c W3 _ _ _ _).size); have HO4 := Lib.hid ho4; have hm4 := (HT3.out.below hb5).map.map; clear ho4)
        | (go_at_call 32; refine (keep_is pr ep p t A4 (k + 1) c4 (st ++ [⟨sq, n, off⟩]) (Lib.hid (HT3.out.below hb5)) (by omega) (Lib.hid G.out.keys) HI.out ht hp.out (Lib.hid (by simp [HK.out])) (Lib.hid (RowC.own HO4.out (by simp [HK.out]))) HPM).mono ?_; rintro e w5 ⟨rfl, ht5, ho5⟩))
    all_goals
      rename_i hh
      have HH := Lib.hid hh.2
      have HT5 := Lib.hid ht5
      clear hh ht5 ho5
      go_wp2_with fail
      go_ret
      exact ⟨rfl, by rw [HPU.out]; exact HT5.out, (Only.ofBelow HB3.out).trans HH.out (fun q hq => .inl hq)⟩

theorem IsTab.mono {w : World} {b N N' : Nat} {ms : List Mk} (h : IsTab w b N ms) (hN : N ≤ N') : IsTab w b N' ms := by
  obtain ⟨D, h1, h2⟩ := h
  exact ⟨D, h1.mono hN, h2⟩
theorem Tab.mono {w : World} {g cap b N N' : Nat} {A : Option Addr} {es : List Int} {ms : List Mk} (h : Tab w g A cap b N es ms) (hN : N ≤ N') : Tab w g A cap b N' es ms := ⟨h.row, h.own, h.map.mono hN⟩
theorem ask_zero_x {es : List Int} {ms : List Mk} {t : ByteArray} {p pr ep sq ax : Int} {n : Nat} (h : askP es ms t p pr ep sq n = (ax, false, 0)) : ax = 0 := by
  unfold askP at h
  split at h
  · simp at h; exact h.symm
  · split at h
    · simp at h
    · split at h
      · simp at h
      · split at h
        · simp at h
        · split at h
          · simp at h; exact h.symm
          · split at h <;> simp at h
/-- behind Done -/
def DoneP (w : World) (g : Nat) (A : Option Addr) (cap b N : Nat) (es : List Int) (ms : List Mk) (w' : World) : Prop := Tab w' g A cap b N es ms ∧ Only [b] w w'
set_option maxRecDepth 100000 in
set_option maxHeartbeats 4000000 in
theorem done_is {w : World} {g cap b N : Nat} {A : Option Addr} {es : List Int} {ms : List Mk} (t : ByteArray) (p pr ep sq off x : Int) (R : Option Addr) (n rc : Nat) (h : Hid (Tab w g A cap b N es ms)) (G : Hid (Good es ms)) (ht : t.size ≤ 281474976710656) (hp : Hid ((Lit.int .i64 p).wf = true)) (hN : N ≤ 100000)
    (HX : Hid (doneE es ms t p pr ep sq n off = x)) :
    Calls Try.prog 13 #[.pointer (some ⟨g, 0, none⟩), .agg #[.string t, .int .i64 p], .agg #[.int .i64 pr, .int .i64 ep, .int .i64 sq, .slice R n rc], .int .i64 off] w fun e w' => e = .returned (.int .i64 x) ∧ DoneP w g A cap b (N + 1) es (doneM es ms t p pr ep sq n off) w' := by
  have HT0 : Hid (t.size ≤ maxLen) := Lib.hid (by unfold maxLen; omega)
  obtain ⟨W, hW⟩ : ∃ W, (w.alloc (.cells #[.string t, .int .i64 p] 31)).alloc (.cells #[.int .i64 pr, .int .i64 ep, .int .i64 sq, .slice R n rc] 34) = W := ⟨_, rfl⟩
  have HW := Lib.hid hW
  obtain ⟨hbW, _⟩ := done_boxes hW (Below.refl _ _)
  have HT := Lib.hid (h.out.below hbW)
  clear hW hbW
  obtain ⟨⟨ax, av, ae⟩, ha⟩ : ∃ q, askP es ms t p pr ep sq n = q := ⟨_, rfl⟩
  have HA := Lib.hid ha
  have hx := HX.out
  unfold doneE at hx
  rw [ha] at hx
  dsimp only at hx
  have same : x ≠ 0 ∨ pr = 0 → Hid (doneM es ms t p pr ep sq n off = ms) := fun q => Lib.hid (by unfold doneM; rw [HX.out, if_pos q])
  have fin : ∀ w', Below w.heap.size w w' → DoneP w g A cap b (N + 1) es ms w' := fun w' hb => ⟨(h.out.below hb).mono (Nat.le_succ N), Only.ofBelow hb⟩
  by_cases h1 : ae = 0
  · subst h1
    rw [if_neg (by simp)] at hx
    cases av with
    | true =>
      rw [if_pos rfl] at hx
      subst hx
      rw [(same (.inl (by decide))).out]
      clear ha same
      go_enter Try.func13, Try.ntmps13
      go_wp2_with (go_at_call 11; rw [HW.out]; refine (ask_is t p pr ep sq ax 0 true R n rc HT G HT0.out hp HA).mono ?_; rintro e w1 ⟨rfl, hb1⟩; obtain ⟨B1, ⟨k0, k1⟩, k2, k3, k4⟩ := done_boxes HW.out hb1; have HB1 := Lib.hid B1; clear hb1 B1)
      go_ret
      exact ⟨rfl, fin _ HB1.out⟩
    | false =>
      rw [if_neg (by simp)] at hx
      by_cases h2 : n = 0 ∨ numB8 off = false
      · rw [if_pos h2] at hx
        subst hx
        rw [(same (.inl (by decide))).out]
        have HO : Hid (numB8 off = numB8 off) := Lib.hid rfl
        rcases Nat.eq_zero_or_pos n with h3 | h3
        · subst h3
          clear ha same h2
          go_enter Try.func13, Try.ntmps13
          go_wp2_with (go_at_call 11; rw [HW.out]; refine (ask_is t p pr ep sq ax 0 false R 0 rc HT G HT0.out hp HA).mono ?_; rintro e w1 ⟨rfl, hb1⟩; obtain ⟨B1, ⟨k0, k1⟩, k2, k3, k4⟩ := done_boxes HW.out hb1; have HB1 := Lib.hid B1; clear hb1 B1)
          go_ret
          exact ⟨rfl, fin _ HB1.out⟩
        · have n0 : ((n : Int) == 0) = false := by simpa using (by omega : (n : Int) ≠ 0)
          have HF : Hid (numB8 off = false) := Lib.hid (h2.resolve_left (by omega))
          clear ha same h2
          go_enter Try.func13, Try.ntmps13
          go_wp2_with (first
            | (go_at_call 11; rw [HW.out]; refine (ask_is t p pr ep sq ax 0 false R n rc HT G HT0.out hp HA).mono ?_; rintro e w1 ⟨rfl, hb1⟩; obtain ⟨B1, ⟨k0, k1⟩, k2, k3, k4⟩ := done_boxes HW.out hb1; have HB1 := Lib.hid B1; clear hb1 B1)
            | (go_at_call 31; refine (within_is off false _ HF).mono ?_; rintro e w2 ⟨rfl, rfl⟩))
          go_ret
          exact ⟨rfl, fin _ HB1.out⟩
      · rw [if_neg h2] at hx
        subst hx
        have h3 : 0 < n := by omega
        have h4 : numB8 off = true := by cases q : numB8 off; exact absurd (.inr q) h2; rfl
        by_cases h5 : pr = 0
        · rw [(same (.inr h5)).out]
          subst h5
          have n0 : ((n : Int) == 0) = false := by simpa using (by omega : (n : Int) ≠ 0)
          have HF := Lib.hid h4
          clear ha same h2 h4
          go_enter Try.func13, Try.ntmps13
          go_wp2_with (first
            | (go_at_call 11; rw [HW.out]; refine (ask_is t p 0 ep sq ax 0 false R n rc HT G HT0.out hp HA).mono ?_; rintro e w1 ⟨rfl, hb1⟩; obtain ⟨B1, ⟨k0, k1⟩, k2, k3, k4⟩ := done_boxes HW.out hb1; have HB1 := Lib.hid B1; clear hb1 B1)
            | (go_at_call 31; refine (within_is off true _ HF).mono ?_; rintro e w2 ⟨rfl, rfl⟩))
          go_ret
          exact ⟨rfl, fin _ HB1.out⟩
        · have hz := ask_zero (es := es) (ms := ms) (t := t) (p := p) (pr := pr) (ep := ep) (sq := sq) (n := n) (by rw [ha]) h5
          have hlen := G.out.len
          obtain rfl : ax = 0 := ask_zero_x ha
          have hM : doneM es ms t p pr ep sq n off = putM ⟨pr, ep, t, p, push (lastOf ms pr t p) ⟨sq, n, off⟩⟩ false ms := by
            unfold doneM; rw [if_neg (by rw [HX.out]; simp [h5])]
          rw [hM]
          refine (done_put t p pr ep sq off R n rc _ _ h G ht hp (Lib.hid ⟨hz.1, by omega⟩) HA h3 (Lib.hid h4) (Lib.hid rfl) (Lib.hid rfl) hN).mono ?_
          rintro e w' ⟨rfl, q1, q2⟩
          exact ⟨rfl, q1, q2⟩
  · rw [if_pos h1] at hx
    subst hx
    rw [(same (.inl h1)).out]
    have e0 : (ae != 0) = true := by simpa using h1
    clear ha same h1
    go_enter Try.func13, Try.ntmps13
    go_wp2_with (go_at_call 11; rw [HW.out]; refine (ask_is t p pr ep sq ax ae av R n rc HT G HT0.out hp HA).mono ?_; rintro e w1 ⟨rfl, hb1⟩; obtain ⟨B1, ⟨k0, k1⟩, k2, k3, k4⟩ := done_boxes HW.out hb1; have HB1 := Lib.hid B1; clear hb1 B1)
    go_ret
    exact ⟨rfl, fin _ HB1.out⟩
end Go.Proofs.Ytcmlopflandlgaa.L8
