/-
  Contracts: where reading begins; what is read.
-/
import Derived.Test.YtflcggpeflagiaaSegApp
namespace Go.Proofs.Ytflcggpeflagiaa.L5
open Go.RowKit
open L3 L4

set_option maxRecDepth 100000 in
set_option maxHeartbeats 2000000 in
/-- the library's search: the first place at which it holds -/
theorem search_is (n : Nat) (cb : Array Value) (p : Nat → Bool) (w : World) (hn : n ≤ 1000) (hf : Hid (∀ (W : World) (i : Nat), Below w.heap.size w W → i < n → Calls Try.prog 69 (#[.int .i64 i] ++ cb) W fun e w' => e = .returned (.bool (p i)) ∧ Below w.heap.size w w'))
    (hmono : Hid (∀ a b, a ≤ b → b < n → p a = true → p b = true)) :
    Calls Try.prog 54 #[.int .i64 n, .func (.func 69) #[] cb] w fun e w' => ∃ m : Nat, e = .returned (.int .i64 m) ∧ m ≤ n ∧ (∀ i, i < m → p i = false) ∧ (∀ i, m ≤ i → i < n → p i = true) ∧ Below w.heap.size w w' := by
  go_enter Try.func54, Try.ntmps54
  go_wp2_with fail
  go_loopw [5, 6] (fun s5 s6 wr => ∃ lo hi : Nat, s5 = .int .i64 lo ∧ s6 = .int .i64 hi ∧ lo ≤ hi ∧ hi ≤ n ∧ Hid ((∀ t, t < lo → p t = false) ∧ (∀ t, hi ≤ t → t < n → p t = true)) ∧ Below w.heap.size w wr) (fun s5 s6 _ => (intOf s6).toNat - (intOf s5).toNat)
  case atStart => exact ⟨0, n, rfl, rfl, Nat.zero_le _, Nat.le_refl _, Lib.hid ⟨fun t ht => absurd ht (Nat.not_lt_zero _), fun t h1 h2 => by omega⟩, Below.refl _ _⟩
  case round =>
    obtain ⟨lo, hi, rfl, rfl, hlh, hin, hI, hbel⟩ := hrel
    by_cases hlt : lo < hi
    · obtain ⟨md, hmd⟩ : ∃ md, (lo + hi) / 2 = md := ⟨_, rfl⟩
      have hmd2 : ((lo : Int) + (hi : Int)) / 2 = (md : Int) := by omega
      have hc := hf.out wr md hbel (by omega)
      obtain ⟨b, hb⟩ : ∃ b, p md = b := ⟨_, rfl⟩
      rw [hb] at hc
      have m1 : lo ≤ md := by omega
      have m2 : md < hi := by omega
      have HB := Lib.hid hb
      clear hb hmd
      cases b
      · go_wp2_with (go_at_call 69; refine hc.mono ?_; rintro e w' ⟨rfl, hb'⟩)
        go_roundw
        case rel =>
          refine ⟨md + 1, hi, by go_num, rfl, by omega, hin, Lib.hid ⟨fun t ht => ?_, hI.out.2⟩, hb'⟩
          cases h : p t
          · rfl
          · exact absurd (hmono.out t md (by omega) (by omega) h) (by rw [HB.out]; simp)
        case measure => simp [intOf]; omega
      · go_wp2_with (go_at_call 69; refine hc.mono ?_; rintro e w' ⟨rfl, hb'⟩)
        go_roundw
        case rel => exact ⟨lo, md, rfl, rfl, by omega, by omega, Lib.hid ⟨hI.out.1, fun t ht htn => hmono.out md t ht htn HB.out⟩, hb'⟩
        case measure => simp [intOf]; omega
    · obtain rfl : hi = lo := by omega
      go_wp2_with fail
      go_ret
      exact ⟨hi, rfl, hin, hI.out.1, hI.out.2, hbel⟩

set_option maxRecDepth 100000 in
set_option maxHeartbeats 2000000 in
theorem later_is {T : TypeId} {w : World} {g : Nat} {A : Option Addr} {cap : Nat} {base next : Int} {L : List L4.Fd} (bs bf i n : Nat) (a o : Int) (h : Hid (Seg T w g A cap base next L)) (hs : w.cell? ⟨bs, 0, none⟩ = some (.pointer (some ⟨g, 0, none⟩))) (hf : w.cell? ⟨bf, 0, none⟩ = some (.int .i64 a)) (hn : L.length = n) (hl : n ≤ 64) (hi : i * 8 < n) (ho : (L[i * 8]?).map (·.o) = some o) :
    Calls Try.prog 69 (#[.int .i64 i] ++ #[.pointer (some ⟨bs, 0, none⟩), .pointer (some ⟨bf, 0, none⟩)]) w fun e w' => e = .returned (.bool (decide (a < o))) ∧ Below w.heap.size w w' := by
  obtain ⟨b, rfl, hb, hcells⟩ := h.out.reads (by omega)
  have c2 := h.out.c2
  rw [hn] at c2
  obtain ⟨f, hfd, hfo⟩ := Option.map_eq_some_iff.1 ho
  subst hfo
  have c0 := (hcells _ f hfd).1
  obtain ⟨o, ho'⟩ : ∃ o, f.o = o := ⟨_, rfl⟩
  rw [ho'] at c0 ⊢
  have e1 : wrap64 ((i : Int) * 8) = ((i * 8 : Nat) : Int) := by simp only [wrap64]; omega
  have k0 : (0 : Int) ≤ ((i * 8 : Nat) : Int) := by omega
  have k1 : ((i * 8 : Nat) : Int) < (n : Int) := by omega
  obtain ⟨q, hq⟩ : ∃ q, i * 8 = q := ⟨_, rfl⟩
  rw [hq] at e1 k0 k1 c0
  clear hcells hfd ho' ho hn hi hq
  show Calls _ _ #[.int .i64 i, .pointer (some ⟨bs, 0, none⟩), .pointer (some ⟨bf, 0, none⟩)] _ _
  go_enter Try.func69, Try.ntmps69
  go_wp2_with fail
  go_quiet (fail)
  go_wp2_with fail
  go_ret
  exact ⟨congrArg Ending.returned (congrArg Value.bool (by simp)), drewN_below (Below.refl _ _) _⟩

theorem rise_lt {m n : Int} : ∀ {l : List L4.Fd}, riseB m n l = true → ∀ (i j : Nat) (f f' : L4.Fd), i < j → l[i]? = some f → l[j]? = some f' → f.o < f'.o
  | [], _, i, j, f, f', _, h, _ => by simp at h
  | q :: t, h, i, j, f, f', hij, hi, hj => by
    obtain ⟨h1, h2, h3⟩ := rise_cons.1 h
    cases j with
    | zero => omega
    | succ j =>
      have hj' : t[j]? = some f' := by simpa using hj
      cases i with
      | zero =>
        have e : q = f := by simpa using hi
        subst e
        have := rise_mem h3 f' (List.mem_of_getElem? hj')
        omega
      | succ i => exact rise_lt h3 i j f f' (by omega) (by simpa using hi) hj'
/-- where the index lets looking begin is not behind the place -/
theorem start_le {base next a : Int} {L : List L4.Fd} (h : riseB base next L = true) {m : Nat} (hm : m ≤ (L.length + 7) / 8) (hp : ∀ i, i < m → decide (a < ((L[i * 8]?).map (·.o)).getD 0) = false) : (m - 1) * 8 ≤ posF L a := by
  by_cases h0 : m ≤ 1
  · have : m - 1 = 0 := by omega
    rw [this]; omega
  · have hlt : (m - 1) * 8 < L.length := by omega
    have hq := hp (m - 1) (by omega)
    obtain ⟨f, hf⟩ : ∃ f, L[(m - 1) * 8]? = some f := ⟨_, List.getElem?_eq_getElem hlt⟩
    obtain ⟨f1, hf1⟩ : ∃ f, L[(m - 1) * 8 - 1]? = some f := ⟨_, List.getElem?_eq_getElem (by omega)⟩
    rw [hf] at hq
    have hq' : ¬ a < f.o := by simpa using hq
    have hlt2 := rise_lt h _ _ f1 f (by omega) hf1 hf
    have := (pos_low (a := a) h _ f1 hf1).1 (by omega)
    omega

set_option maxRecDepth 100000 in
set_option maxHeartbeats 4000000 in
theorem place_is {T : TypeId} {w : World} {g : Nat} {A : Option Addr} {cap : Nat} {base next : Int} {L : List L4.Fd} (a : Int) (n p : Nat) (h : Hid (Seg T w g A cap base next L)) (hr : Hid (riseB base next L = true)) (hn : L.length = n) (hl : n ≤ 64) (hp : Hid (posF L a = p)) :
    Calls Try.prog 56 #[.pointer (some ⟨g, 0, none⟩), .int .i64 a] w fun e w' => e = .returned (.int .i64 p) ∧ Below w.heap.size w w' := by
  obtain ⟨mk, hmk⟩ : ∃ mk, (n + 7) / 8 = mk := ⟨_, rfl⟩
  obtain ⟨W0, hW0⟩ : ∃ W0, W0 = (w.alloc (.cells #[.pointer (some ⟨g, 0, none⟩)] 67)).alloc (.cells #[.int .i64 a] 3) := ⟨_, rfl⟩
  have hB0 : Below w.heap.size w W0 := by rw [hW0]; exact two_box _ _
  have hz0 : W0.heap.size = w.heap.size + 1 + 1 := by rw [hW0]; simp
  have k1 : W0.cell? ⟨w.heap.size, 0, none⟩ = some (.pointer (some ⟨g, 0, none⟩)) := by rw [hW0]; simp [go_sem]
  have k2 : W0.cell? ⟨w.heap.size + 1, 0, none⟩ = some (.int .i64 a) := by rw [hW0]; simp [go_sem]
  have hsegB : ∀ W, Below W0.heap.size W0 W → Seg T W g A cap base next L := fun W hW => h.out.below (hB0.trans (hW.mono (by omega)))
  have HSB := Lib.hid hsegB
  have hS := search_is mk #[.pointer (some ⟨w.heap.size, 0, none⟩), .pointer (some ⟨w.heap.size + 1, 0, none⟩)] (fun i => decide (a < ((L[i * 8]?).map (·.o)).getD 0)) W0 (by omega)
    (Lib.hid (fun W i hW hi => by
      have hlt : i * 8 < L.length := by omega
      have e : (L[i * 8]?).map (·.o) = some (((L[i * 8]?).map (·.o)).getD 0) := by rw [List.getElem?_eq_getElem hlt]; rfl
      exact (later_is w.heap.size (w.heap.size + 1) i n a _ (Lib.hid (HSB.out W hW)) ((hW.cell (p := ⟨w.heap.size, 0, none⟩) (by show w.heap.size < _; omega)).trans k1) ((hW.cell (p := ⟨w.heap.size + 1, 0, none⟩) (by show w.heap.size + 1 < _; omega)).trans k2) hn hl (by omega) e).mono (fun e w' ⟨he, hb⟩ => ⟨he, hW.trans (hb.mono hW.size)⟩)))
    (Lib.hid (fun x y hxy hy hx => by
      have hlx : x * 8 < L.length := by omega
      have hly : y * 8 < L.length := by omega
      rw [List.getElem?_eq_getElem hlx] at hx
      rw [List.getElem?_eq_getElem hly]
      simp at hx ⊢
      rcases Nat.lt_or_ge x y with q | q
      · have := rise_lt hr.out _ _ _ _ (by omega : x * 8 < y * 8) (List.getElem?_eq_getElem hlx) (List.getElem?_eq_getElem hly)
        omega
      · obtain rfl : x = y := by omega
        exact hx))
  have HS := Lib.hid hS
  have HMK := Lib.hid hmk
  have hmk8 : mk ≤ 8 := by omega
  clear hS hsegB hmk
  go_enter Try.func56, Try.ntmps56
  go_wp2_with (first
    | (go_at_call 68; refine (marks_is n mk (Lib.hid (h.out.below (two_box _ _))) hn hl HMK.out).mono ?_; rintro e w' ⟨rfl, rfl⟩)
    | (go_at_call 54; rw [← hW0]; refine HS.out.mono ?_; rintro e w1 ⟨m, rfl, hm, hlow, hhigh, hb1⟩; have e1 : wrap64 ((m : Int) - 1) = (m : Int) - 1 := (by simp only [wrap64]; omega); have e2 : max (0 : Int) ((m : Int) - 1) = ((m - 1 : Nat) : Int) := (by omega); have e3 : wrap64 (((m - 1 : Nat) : Int) * 8) = (((m - 1) * 8 : Nat) : Int) := (by simp only [wrap64]; omega)))
  have hst : (m - 1) * 8 ≤ p := by rw [← hp.out]; exact start_le hr.out (by rw [hn, HMK.out]; exact hm) hlow
  have hpn : p ≤ n := by rw [← hp.out, ← hn]; exact posF_le _ _
  have hB1 : Below w.heap.size w w1 := hB0.trans (hb1.mono (by omega))
  have hK1 := (hb1.cell (p := ⟨w.heap.size, 0, none⟩) (by show w.heap.size < _; omega)).trans k1
  have hK2 := (hb1.cell (p := ⟨w.heap.size + 1, 0, none⟩) (by show w.heap.size + 1 < _; omega)).trans k2
  have hz1 : w.heap.size + 1 < w1.heap.size := by have := hb1.size; omega
  have HLOW := Lib.hid (pos_low (a := a) hr.out)
  obtain ⟨st, hst0⟩ : ∃ st, (m - 1) * 8 = st := ⟨_, rfl⟩
  rw [hst0] at hst
  clear hlow hhigh hm k1 k2 hB0 hb1 HSB HS hW0 e1 e2 e3 HMK hz0
  go_loopw [6] (fun s wr => ∃ k : Nat, s = .int .i64 k ∧ k ≤ p ∧ Below (w.heap.size + 1 + 1) w1 wr) (fun s _ => p - (intOf s).toNat)
  case atStart => exact ⟨st, congrArg (Value.int .i64) (by omega), hst, Below.refl _ _⟩
  case round =>
    obtain ⟨k, rfl, hk, hbel⟩ := hrel
    have b1 := (hbel.cell (p := ⟨w.heap.size, 0, none⟩) (by show w.heap.size < _; omega)).trans hK1
    have b2 := (hbel.cell (p := ⟨w.heap.size + 1, 0, none⟩) (by show w.heap.size + 1 < _; omega)).trans hK2
    have hbw : Below w.heap.size w wr := hB1.trans (hbel.mono (by omega))
    have hseg := h.out.below hbw
    have c2 := hseg.c2
    rw [hn] at c2
    by_cases hkn : k < n
    · obtain ⟨b, rfl, hb, hcells⟩ := hseg.reads (by omega)
      obtain ⟨⟨o, r⟩, hf⟩ : ∃ s, L[k]? = some s := ⟨_, List.getElem?_eq_getElem (by omega)⟩
      have d0 := (hcells k _ hf).1
      dsimp only at d0
      have hlow := HLOW.out k _ hf
      have k0 : (0 : Int) ≤ (k : Int) := by omega
      have k1 : (k : Int) < (n : Int) := by omega
      clear hcells hf hseg
      by_cases hkp : k < p
      · have ho : o < a := hlow.2 (by rw [hp.out]; exact hkp)
        clear hlow
        go_wp2_with fail
        go_quiet (fail)
        go_wp2_with fail
        go_roundw
        case rel => exact ⟨k + 1, by go_num, by omega, drewN_below hbel _⟩
        case measure => simp [intOf]; omega
      · obtain rfl : k = p := by omega
        have ho : ¬ o < a := fun q => by have := hlow.1 q; rw [hp.out] at this; omega
        clear hlow
        go_wp2_with fail
        go_quiet (fail)
        go_wp2_with fail
        go_ret
        exact ⟨rfl, drewN_below hbw _⟩
    · obtain rfl : k = p := by omega
      have k1 : ¬ (k : Int) < (n : Int) := by omega
      clear hseg
      go_wp2_with fail
      go_quiet (fail)
      go_wp2_with fail
      go_ret
      exact ⟨rfl, drewN_below hbw _⟩
set_option maxRecDepth 100000 in
set_option maxHeartbeats 4000000 in
theorem read_ok {T : TypeId} {w : World} {g : Nat} {A : Option Addr} {cap : Nat} {base next : Int} {L : List L4.Fd} (a c : Int) (n p : Nat) (h : Hid (Seg T w g A cap base next L)) (hr : Hid (riseB base next L = true)) (hn : L.length = n) (hl : n ≤ 64) (hp : Hid (posF L a = p)) :
    Calls Try.prog 35 #[.pointer (some ⟨g, 0, none⟩), .int .i64 a, .int .i64 c] w (CloneP w (readL L a c)) := by
  have hpn : p ≤ n := by rw [← hp.out, ← hn]; exact posF_le _ _
  have c2 := h.out.c2
  rw [hn] at c2
  obtain ⟨q, hq⟩ : ∃ q, min c.toNat (n - p) = q := ⟨_, rfl⟩
  have hrd : readL L a c = (L.drop p).take q := by
    rw [read_is hr.out, hp.out, ← hq, ← List.take_take, List.take_of_length_le (l := List.drop p L) (i := n - p) (by simp; omega)]
  have HRD := Lib.hid hrd
  have hql : ((L.drop p).take q).length = q := by simp; omega
  have HQ := Lib.hid hql
  have hq64 : q ≤ 64 := by omega
  have eq1 : max (0 : Int) (min c ((n - p : Nat) : Int)) = (q : Int) := by omega
  have hqn : q ≤ n - p := by omega
  clear hrd hql
  rcases h.out.own.2 with ⟨e, e0⟩ | ⟨b, cc, cur, e, hb0, hh, hnc, hcm, _⟩
  · injection e with e1 e2 e3
    subst e1
    subst e3
    obtain rfl : n = 0 := by omega
    obtain rfl : p = 0 := by omega
    obtain rfl : q = 0 := by omega
    have eq2 : max (0 : Int) (min c 0) = 0 := by omega
    have HRD0 : Hid (readL L a c = []) := Lib.hid (by rw [HRD.out]; simp)
    replace HRD := HRD0
    clear HRD0 eq1 hq
    go_enter Try.func35, Try.ntmps35
    go_wp2_with fail
    refine wp_region_held_drew (S := fun w' => (w'.cell? ⟨g, 2, none⟩ = some (.slice none 0 0)) ∧ Below w.heap.size w w') (by kernel_rfl) ⟨c2, (Below.refl _ _).drew⟩ (fun hHeld => ?_)
    refine wpAnyH_take (i := 0) (oi := ?o1) (v := ?v1) ?a1 (by kernel_rfl) (by kernel_rfl) (by kernel_rfl) ?q1 (Or.inl ⟨?g1, ?y1⟩) (by assumption) ?r1; (case' a1 => (simp only [List.getElem?_toArray, List.getElem?_cons_zero]; rfl)); (case' q1 => (exact fun _ _ _ h => h)); (case' g1 => rfl); (case' y1 => (intro w hSw; (try dsimp only at hSw); go_simp; try with_reducible rfl)); (case' r1 => (try simp only [Act.put, List.setIfInBounds_toArray, List.set_cons_zero, List.set_cons_succ]))
    refine wpAnyH_take (i := 1) (oi := ?o2) (v := ?v2) ?a2 (by kernel_rfl) (by kernel_rfl) (by kernel_rfl) ?q2 (Or.inl ⟨?g2, ?y2⟩) (by assumption) ?r2; (case' a2 => (simp only [List.getElem?_toArray, List.getElem?_cons_zero, List.getElem?_cons_succ]; rfl)); (case' q2 => (exact fun _ _ _ h => h)); (case' g2 => rfl); (case' y2 => (intro w hSw; (try dsimp only at hSw); go_simp; try with_reducible rfl)); (case' r2 => (try simp only [Act.put, List.setIfInBounds_toArray, List.set_cons_zero, List.set_cons_succ]))
    refine wpAnyH_take (i := 2) (oi := ?o3) (v := ?v3) ?a3 (by kernel_rfl) (by kernel_rfl) (by kernel_rfl) ?q3 (Or.inl ⟨?g3, ?y3⟩) (by assumption) ?r3; (case' a3 => (simp only [List.getElem?_toArray, List.getElem?_cons_zero, List.getElem?_cons_succ]; rfl)); (case' q3 => (exact fun _ _ _ h => h)); (case' g3 => rfl); (case' y3 => (intro w hSw; (try dsimp only at hSw); go_simp; try with_reducible rfl)); (case' r3 => (try simp only [Act.put, List.setIfInBounds_toArray, List.set_cons_zero, List.set_cons_succ]))
    refine wpAnyH_take (i := 3) (oi := ?o4) (v := ?v4) ?a4 (by kernel_rfl) (by kernel_rfl) (by kernel_rfl) ?q4 (Or.inl ⟨?g4, ?y4⟩) (by assumption) ?r4; (case' a4 => (simp only [List.getElem?_toArray, List.getElem?_cons_zero, List.getElem?_cons_succ]; rfl)); (case' q4 => (exact fun _ _ _ h => h)); (case' g4 => rfl); (case' y4 => (intro w hSw; (try dsimp only at hSw); go_simp; try with_reducible rfl)); (case' r4 => (try simp only [Act.put, List.setIfInBounds_toArray, List.set_cons_zero, List.set_cons_succ]))
    refine wpAnyH_take (i := 4) (oi := ?o5) (v := ?v5) ?a5 (by kernel_rfl) (by kernel_rfl) (by kernel_rfl) ?q5 (Or.inl ⟨?g5, ?y5⟩) (by assumption) ?r5; (case' a5 => (simp only [List.getElem?_toArray, List.getElem?_cons_zero, List.getElem?_cons_succ]; rfl)); (case' q5 => (exact fun _ _ _ h => h)); (case' g5 => rfl); (case' y5 => (intro w hSw; (try dsimp only at hSw); go_simp; try with_reducible rfl)); (case' r5 => (try simp only [Act.put, List.setIfInBounds_toArray, List.set_cons_zero, List.set_cons_succ]))
    refine wpAnyH_take (i := 5) (oi := ?o6) (v := ?v6) ?a6 (by kernel_rfl) (by kernel_rfl) (by kernel_rfl) ?q6 (Or.inl ⟨?g6, ?y6⟩) (by assumption) ?r6; (case' a6 => (simp only [List.getElem?_toArray, List.getElem?_cons_zero, List.getElem?_cons_succ]; rfl)); (case' q6 => (exact fun _ _ _ h => h)); (case' g6 => rfl); (case' y6 => (intro w hSw; (try dsimp only at hSw); go_simp; try with_reducible rfl)); (case' r6 => (try simp only [Act.put, List.setIfInBounds_toArray, List.set_cons_zero, List.set_cons_succ]))
    refine wpAnyH_ready (rs := [6]) (by kernel_rfl) (by simp) ?_
    refine AllReadyH.cons (o := ?o7) ?a7 (fun K hK => ?s7) ?m7; (case' a7 => (simp only [List.getElem?_toArray, List.getElem?_cons_zero, List.getElem?_cons_succ]; rfl))
    case s7 =>
      go_simp
      go_at_call 56
      refine (place_is a 0 0 (Lib.hid (h.out.below (Below.refl _ _).drew)) hr hn hl hp).mono ?_
      rintro e w1 ⟨rfl, hb1⟩
      go_wp2_with fail
      refine hK.out _ _ (⟨(hb1.cell (p := ⟨g, 2, none⟩) h.out.lt).trans c2, (Below.refl _ _).drew.trans hb1⟩) (fun hHeld => ?_)
      clear hK K
      (try simp only [Act.put, List.setIfInBounds_toArray, List.set_cons_zero, List.set_cons_succ])
      refine wpAnyH_take (i := 7) (oi := ?o8) (v := ?v8) ?a8 (by kernel_rfl) (by kernel_rfl) (by kernel_rfl) ?q8 (Or.inl ⟨?g8, ?y8⟩) (by assumption) ?r8; (case' a8 => (simp only [List.getElem?_toArray, List.getElem?_cons_zero, List.getElem?_cons_succ]; rfl)); (case' q8 => (exact fun _ _ _ h => h)); (case' g8 => rfl); (case' y8 => (intro w hSw; (try dsimp only at hSw); go_simp; try with_reducible rfl)); (case' r8 => (try simp only [Act.put, List.setIfInBounds_toArray, List.set_cons_zero, List.set_cons_succ]))
      refine wpAnyH_take (i := 8) (oi := ?o9) (v := ?v9) ?a9 (by kernel_rfl) (by kernel_rfl) (by kernel_rfl) ?q9 (Or.inl ⟨?g9, ?y9⟩) (by assumption) ?r9; (case' a9 => (simp only [List.getElem?_toArray, List.getElem?_cons_zero, List.getElem?_cons_succ]; rfl)); (case' q9 => (exact fun _ _ _ h => h)); (case' g9 => rfl); (case' y9 => (intro w hSw; (try dsimp only at hSw); go_simp; try with_reducible rfl)); (case' r9 => (try simp only [Act.put, List.setIfInBounds_toArray, List.set_cons_zero, List.set_cons_succ]))
      refine wpAnyH_done (by kernel_rfl) ?_ _
      clear hHeld
      go_wp2_with (go_at_call 57; refine (clone_nil _).mono ?_; rintro e w2 ⟨A', c', rfl, hown, hb2⟩)
      go_ret
      have hB2 : Below w.heap.size w w2 := ((Below.refl _ _).drew.trans hb1).trans (hb2.mono hb1.size)
      rw [HRD.out]
      exact ⟨A', c', rfl, own_low hown hb1.size, hB2⟩
    exact AllReadyH.nil
  · injection e with e1 e2 e3
    subst e1
    subst e3
    have hb := (Array.getElem?_eq_some_iff.1 hh).1
    rw [hn] at hnc
    unfold maxLen at hcm
    have s1 : (0 : Int) ≤ (p : Int) := by omega
    have s2 : (p : Int) ≤ (n : Int) := by omega
    by_cases hpc : p = cap
    · obtain rfl : n = p := by omega
      obtain rfl : q = 0 := by omega
      subst hpc
      have e0 : n - n = 0 := by omega
      have eq2 : max (0 : Int) (min c 0) = 0 := by omega
      have HRD0 : Hid (readL L a c = []) := Lib.hid (by rw [HRD.out]; simp)
      replace HRD := HRD0
      clear HRD0 eq1 hq
      go_enter Try.func35, Try.ntmps35
      go_wp2_with fail
      refine wp_region_held_drew (S := fun w' => (w'.cell? ⟨g, 2, none⟩ = some (.slice (some ⟨b, 0, none⟩) n n)) ∧ Below w.heap.size w w') (by kernel_rfl) ⟨c2, (Below.refl _ _).drew⟩ (fun hHeld => ?_)
      refine wpAnyH_take (i := 0) (oi := ?o10) (v := ?v10) ?a10 (by kernel_rfl) (by kernel_rfl) (by kernel_rfl) ?q10 (Or.inl ⟨?g10, ?y10⟩) (by assumption) ?r10; (case' a10 => (simp only [List.getElem?_toArray, List.getElem?_cons_zero]; rfl)); (case' q10 => (exact fun _ _ _ h => h)); (case' g10 => rfl); (case' y10 => (intro w hSw; (try dsimp only at hSw); go_simp; try with_reducible rfl)); (case' r10 => (try simp only [Act.put, List.setIfInBounds_toArray, List.set_cons_zero, List.set_cons_succ]))
      refine wpAnyH_take (i := 1) (oi := ?o11) (v := ?v11) ?a11 (by kernel_rfl) (by kernel_rfl) (by kernel_rfl) ?q11 (Or.inl ⟨?g11, ?y11⟩) (by assumption) ?r11; (case' a11 => (simp only [List.getElem?_toArray, List.getElem?_cons_zero, List.getElem?_cons_succ]; rfl)); (case' q11 => (exact fun _ _ _ h => h)); (case' g11 => rfl); (case' y11 => (intro w hSw; (try dsimp only at hSw); go_simp; try with_reducible rfl)); (case' r11 => (try simp only [Act.put, List.setIfInBounds_toArray, List.set_cons_zero, List.set_cons_succ]))
      refine wpAnyH_take (i := 2) (oi := ?o12) (v := ?v12) ?a12 (by kernel_rfl) (by kernel_rfl) (by kernel_rfl) ?q12 (Or.inl ⟨?g12, ?y12⟩) (by assumption) ?r12; (case' a12 => (simp only [List.getElem?_toArray, List.getElem?_cons_zero, List.getElem?_cons_succ]; rfl)); (case' q12 => (exact fun _ _ _ h => h)); (case' g12 => rfl); (case' y12 => (intro w hSw; (try dsimp only at hSw); go_simp; try with_reducible rfl)); (case' r12 => (try simp only [Act.put, List.setIfInBounds_toArray, List.set_cons_zero, List.set_cons_succ]))
      refine wpAnyH_take (i := 3) (oi := ?o13) (v := ?v13) ?a13 (by kernel_rfl) (by kernel_rfl) (by kernel_rfl) ?q13 (Or.inl ⟨?g13, ?y13⟩) (by assumption) ?r13; (case' a13 => (simp only [List.getElem?_toArray, List.getElem?_cons_zero, List.getElem?_cons_succ]; rfl)); (case' q13 => (exact fun _ _ _ h => h)); (case' g13 => rfl); (case' y13 => (intro w hSw; (try dsimp only at hSw); go_simp; try with_reducible rfl)); (case' r13 => (try simp only [Act.put, List.setIfInBounds_toArray, List.set_cons_zero, List.set_cons_succ]))
      refine wpAnyH_take (i := 4) (oi := ?o14) (v := ?v14) ?a14 (by kernel_rfl) (by kernel_rfl) (by kernel_rfl) ?q14 (Or.inl ⟨?g14, ?y14⟩) (by assumption) ?r14; (case' a14 => (simp only [List.getElem?_toArray, List.getElem?_cons_zero, List.getElem?_cons_succ]; rfl)); (case' q14 => (exact fun _ _ _ h => h)); (case' g14 => rfl); (case' y14 => (intro w hSw; (try dsimp only at hSw); go_simp; try with_reducible rfl)); (case' r14 => (try simp only [Act.put, List.setIfInBounds_toArray, List.set_cons_zero, List.set_cons_succ]))
      refine wpAnyH_take (i := 5) (oi := ?o15) (v := ?v15) ?a15 (by kernel_rfl) (by kernel_rfl) (by kernel_rfl) ?q15 (Or.inl ⟨?g15, ?y15⟩) (by assumption) ?r15; (case' a15 => (simp only [List.getElem?_toArray, List.getElem?_cons_zero, List.getElem?_cons_succ]; rfl)); (case' q15 => (exact fun _ _ _ h => h)); (case' g15 => rfl); (case' y15 => (intro w hSw; (try dsimp only at hSw); go_simp; try with_reducible rfl)); (case' r15 => (try simp only [Act.put, List.setIfInBounds_toArray, List.set_cons_zero, List.set_cons_succ]))
      refine wpAnyH_ready (rs := [6]) (by kernel_rfl) (by simp) ?_
      refine AllReadyH.cons (o := ?o16) ?a16 (fun K hK => ?s16) ?m16; (case' a16 => (simp only [List.getElem?_toArray, List.getElem?_cons_zero, List.getElem?_cons_succ]; rfl))
      case s16 =>
        go_simp
        go_at_call 56
        refine (place_is a n n (Lib.hid (h.out.below (Below.refl _ _).drew)) hr hn hl hp).mono ?_
        rintro e w1 ⟨rfl, hb1⟩
        go_wp2_with fail
        refine hK.out _ _ (⟨(hb1.cell (p := ⟨g, 2, none⟩) h.out.lt).trans c2, (Below.refl _ _).drew.trans hb1⟩) (fun hHeld => ?_)
        clear hK K
        (try simp only [Act.put, List.setIfInBounds_toArray, List.set_cons_zero, List.set_cons_succ])
        refine wpAnyH_take (i := 7) (oi := ?o17) (v := ?v17) ?a17 (by kernel_rfl) (by kernel_rfl) (by kernel_rfl) ?q17 (Or.inl ⟨?g17, ?y17⟩) (by assumption) ?r17; (case' a17 => (simp only [List.getElem?_toArray, List.getElem?_cons_zero, List.getElem?_cons_succ]; rfl)); (case' q17 => (exact fun _ _ _ h => h)); (case' g17 => rfl); (case' y17 => (intro w hSw; (try dsimp only at hSw); go_simp; try with_reducible rfl)); (case' r17 => (try simp only [Act.put, List.setIfInBounds_toArray, List.set_cons_zero, List.set_cons_succ]))
        refine wpAnyH_take (i := 8) (oi := ?o18) (v := ?v18) ?a18 (by kernel_rfl) (by kernel_rfl) (by kernel_rfl) ?q18 (Or.inl ⟨?g18, ?y18⟩) (by assumption) ?r18; (case' a18 => (simp only [List.getElem?_toArray, List.getElem?_cons_zero, List.getElem?_cons_succ]; rfl)); (case' q18 => (exact fun _ _ _ h => h)); (case' g18 => rfl); (case' y18 => (intro w hSw; (try dsimp only at hSw); go_simp; try with_reducible rfl)); (case' r18 => (try simp only [Act.put, List.setIfInBounds_toArray, List.set_cons_zero, List.set_cons_succ]))
        refine wpAnyH_done (by kernel_rfl) ?_ _
        clear hHeld
        go_wp2_with (go_at_call 57; refine (clone_some b 0 [] 0 0 _ rfl (by omega) (Nat.lt_of_lt_of_le hb hb1.size) (Lib.hid (fun j u hu => by simp [rowF] at hu))).mono ?_; rintro e w2 ⟨A', c', rfl, hown, hb2⟩)
        go_ret
        have hB2 : Below w.heap.size w w2 := ((Below.refl _ _).drew.trans hb1).trans (hb2.mono hb1.size)
        rw [HRD.out]
        exact ⟨A', c', rfl, own_low hown hb1.size, hB2⟩
      exact AllReadyH.nil
    · have hpc2 : p < cap := by omega
      have HAT : Hid (At w b (p * 5) (rowF ((L.drop p).take q))) := Lib.hid (by have := (At.own h.out.own).part p q; rwa [Nat.zero_add] at this)
      go_enter Try.func35, Try.ntmps35
      go_wp2_with fail
      refine wp_region_held_drew (S := fun w' => (w'.cell? ⟨g, 2, none⟩ = some (.slice (some ⟨b, 0, none⟩) n cap)) ∧ Below w.heap.size w w') (by kernel_rfl) ⟨c2, (Below.refl _ _).drew⟩ (fun hHeld => ?_)
      refine wpAnyH_take (i := 0) (oi := ?o19) (v := ?v19) ?a19 (by kernel_rfl) (by kernel_rfl) (by kernel_rfl) ?q19 (Or.inl ⟨?g19, ?y19⟩) (by assumption) ?r19; (case' a19 => (simp only [List.getElem?_toArray, List.getElem?_cons_zero]; rfl)); (case' q19 => (exact fun _ _ _ h => h)); (case' g19 => rfl); (case' y19 => (intro w hSw; (try dsimp only at hSw); go_simp; try with_reducible rfl)); (case' r19 => (try simp only [Act.put, List.setIfInBounds_toArray, List.set_cons_zero, List.set_cons_succ]))
      refine wpAnyH_take (i := 1) (oi := ?o20) (v := ?v20) ?a20 (by kernel_rfl) (by kernel_rfl) (by kernel_rfl) ?q20 (Or.inl ⟨?g20, ?y20⟩) (by assumption) ?r20; (case' a20 => (simp only [List.getElem?_toArray, List.getElem?_cons_zero, List.getElem?_cons_succ]; rfl)); (case' q20 => (exact fun _ _ _ h => h)); (case' g20 => rfl); (case' y20 => (intro w hSw; (try dsimp only at hSw); go_simp; try with_reducible rfl)); (case' r20 => (try simp only [Act.put, List.setIfInBounds_toArray, List.set_cons_zero, List.set_cons_succ]))
      refine wpAnyH_take (i := 2) (oi := ?o21) (v := ?v21) ?a21 (by kernel_rfl) (by kernel_rfl) (by kernel_rfl) ?q21 (Or.inl ⟨?g21, ?y21⟩) (by assumption) ?r21; (case' a21 => (simp only [List.getElem?_toArray, List.getElem?_cons_zero, List.getElem?_cons_succ]; rfl)); (case' q21 => (exact fun _ _ _ h => h)); (case' g21 => rfl); (case' y21 => (intro w hSw; (try dsimp only at hSw); go_simp; try with_reducible rfl)); (case' r21 => (try simp only [Act.put, List.setIfInBounds_toArray, List.set_cons_zero, List.set_cons_succ]))
      refine wpAnyH_take (i := 3) (oi := ?o22) (v := ?v22) ?a22 (by kernel_rfl) (by kernel_rfl) (by kernel_rfl) ?q22 (Or.inl ⟨?g22, ?y22⟩) (by assumption) ?r22; (case' a22 => (simp only [List.getElem?_toArray, List.getElem?_cons_zero, List.getElem?_cons_succ]; rfl)); (case' q22 => (exact fun _ _ _ h => h)); (case' g22 => rfl); (case' y22 => (intro w hSw; (try dsimp only at hSw); go_simp; try with_reducible rfl)); (case' r22 => (try simp only [Act.put, List.setIfInBounds_toArray, List.set_cons_zero, List.set_cons_succ]))
      refine wpAnyH_take (i := 4) (oi := ?o23) (v := ?v23) ?a23 (by kernel_rfl) (by kernel_rfl) (by kernel_rfl) ?q23 (Or.inl ⟨?g23, ?y23⟩) (by assumption) ?r23; (case' a23 => (simp only [List.getElem?_toArray, List.getElem?_cons_zero, List.getElem?_cons_succ]; rfl)); (case' q23 => (exact fun _ _ _ h => h)); (case' g23 => rfl); (case' y23 => (intro w hSw; (try dsimp only at hSw); go_simp; try with_reducible rfl)); (case' r23 => (try simp only [Act.put, List.setIfInBounds_toArray, List.set_cons_zero, List.set_cons_succ]))
      refine wpAnyH_take (i := 5) (oi := ?o24) (v := ?v24) ?a24 (by kernel_rfl) (by kernel_rfl) (by kernel_rfl) ?q24 (Or.inl ⟨?g24, ?y24⟩) (by assumption) ?r24; (case' a24 => (simp only [List.getElem?_toArray, List.getElem?_cons_zero, List.getElem?_cons_succ]; rfl)); (case' q24 => (exact fun _ _ _ h => h)); (case' g24 => rfl); (case' y24 => (intro w hSw; (try dsimp only at hSw); go_simp; try with_reducible rfl)); (case' r24 => (try simp only [Act.put, List.setIfInBounds_toArray, List.set_cons_zero, List.set_cons_succ]))
      refine wpAnyH_ready (rs := [6]) (by kernel_rfl) (by simp) ?_
      refine AllReadyH.cons (o := ?o25) ?a25 (fun K hK => ?s25) ?m25; (case' a25 => (simp only [List.getElem?_toArray, List.getElem?_cons_zero, List.getElem?_cons_succ]; rfl))
      case s25 =>
        go_simp
        go_at_call 56
        refine (place_is a n p (Lib.hid (h.out.below (Below.refl _ _).drew)) hr hn hl hp).mono ?_
        rintro e w1 ⟨rfl, hb1⟩
        go_wp2_with fail
        refine hK.out _ _ (⟨(hb1.cell (p := ⟨g, 2, none⟩) h.out.lt).trans c2, (Below.refl _ _).drew.trans hb1⟩) (fun hHeld => ?_)
        clear hK K
        (try simp only [Act.put, List.setIfInBounds_toArray, List.set_cons_zero, List.set_cons_succ])
        refine wpAnyH_take (i := 7) (oi := ?o26) (v := ?v26) ?a26 (by kernel_rfl) (by kernel_rfl) (by kernel_rfl) ?q26 (Or.inl ⟨?g26, ?y26⟩) (by assumption) ?r26; (case' a26 => (simp only [List.getElem?_toArray, List.getElem?_cons_zero, List.getElem?_cons_succ]; rfl)); (case' q26 => (exact fun _ _ _ h => h)); (case' g26 => rfl); (case' y26 => (intro w hSw; (try dsimp only at hSw); go_simp; try with_reducible rfl)); (case' r26 => (try simp only [Act.put, List.setIfInBounds_toArray, List.set_cons_zero, List.set_cons_succ]))
        refine wpAnyH_take (i := 8) (oi := ?o27) (v := ?v27) ?a27 (by kernel_rfl) (by kernel_rfl) (by kernel_rfl) ?q27 (Or.inl ⟨?g27, ?y27⟩) (by assumption) ?r27; (case' a27 => (simp only [List.getElem?_toArray, List.getElem?_cons_zero, List.getElem?_cons_succ]; rfl)); (case' q27 => (exact fun _ _ _ h => h)); (case' g27 => rfl); (case' y27 => (intro w hSw; (try dsimp only at hSw); go_simp; try with_reducible rfl)); (case' r27 => (try simp only [Act.put, List.setIfInBounds_toArray, List.set_cons_zero, List.set_cons_succ]))
        refine wpAnyH_done (by kernel_rfl) ?_ _
        clear hHeld
        go_wp2_with (go_at_call 57; refine (clone_some b (p * 5) ((L.drop p).take q) q (cap - p) _ HQ.out hq64 (Nat.lt_of_lt_of_le hb hb1.size) (Lib.hid (HAT.out.below ((Below.refl _ _).drew.trans hb1) hb))).mono ?_; rintro e w2 ⟨A', c', rfl, hown, hb2⟩)
        go_ret
        have hB2 : Below w.heap.size w w2 := ((Below.refl _ _).drew.trans hb1).trans (hb2.mono hb1.size)
        rw [HRD.out]
        exact ⟨A', c', congrArg (fun m => Ending.returned (.slice A' m c')) HQ.out.symm, own_low hown hb1.size, hB2⟩
      exact AllReadyH.nil
end Go.Proofs.Ytflcggpeflagiaa.L5
