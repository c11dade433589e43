/-
  Contract: has each partition that somebody wants one owner (the law's once).
-/
import Derived.Test.YthogigaepnpmeaaAsRwho
import Derived.Test.YthogigaepnpmeaaAsFacts
import Derived.Deep.RegionHeld3
namespace Go.Proofs.Ythogigaepnpmeaa.L10
open Go.RowKit
open L3 L4 L9

/-- lists as they are asked for: whose each partition is -/
structure OnceL (l : List Pt) (ms : List Mb) (s : List (Nat × Pt)) : Prop where
  good : L9.Good l
  snd : s.map (·.2) = someL l ms
  ab : ∀ y ∈ s, y.1 ∈ able ms y.2.t
theorem OnceL.who {l : List Pt} {ms : List Mb} {s : List (Nat × Pt)} (h : OnceL l ms s) {i nm : Nat} {x : List Pt} {y : Pt} (hx : (listsL nm s)[i]? = some x) (hy : y ∈ x) : WhoP (listsL nm s) y (i : Int) ∧ wantAt ms i y.t = true := by
  have hi : i < nm := by have := (List.getElem?_eq_some_iff.1 hx).1; rwa [listsL_len] at this
  rw [listsL_at s hi] at hx
  injection hx with hx
  subst hx
  have hnd : (s.map (·.2)).Nodup := by rw [h.snd]; exact some_nodup h.good.rise ms
  refine ⟨.inl ⟨i, rfl, by rw [listsL_len]; exact hi, ⟨_, listsL_at s hi, hy⟩, fun j hj z hz hm => ?_⟩, ?_⟩
  · rw [listsL_at s (by omega)] at hz
    injection hz with hz
    subst hz
    have := own_one hnd hm hy
    omega
  · exact mem_able.1 (h.ab _ (mem_own.1 hy))
theorem OnceL.some {l : List Pt} {ms : List Mb} {s : List (Nat × Pt)} (h : OnceL l ms s) {x : Pt} (hx : x ∈ l) (ha : able ms x.t ≠ []) {n : Nat} (hn : (n : Int) < x.n) : ∃ i : Nat, WhoP (listsL ms.length s) ⟨x.t, (n : Int)⟩ (i : Int) := by
  have hm : (⟨x.t, (n : Int)⟩ : Pt) ∈ s.map (·.2) := by
    rw [h.snd]
    exact mem_some.2 ⟨x, hx, ha, rfl, Int.natCast_nonneg n, by show (n : Int) < _; omega⟩
  obtain ⟨⟨i, y⟩, hy, e⟩ := List.mem_map.1 hm
  dsimp only at e
  subst e
  have hi := able_lt (h.ab _ hy)
  exact ⟨i, (h.who (listsL_at s hi) (mem_own.2 hy)).1⟩
theorem OnceL.total {l : List Pt} {ms : List Mb} {s : List (Nat × Pt)} (h : OnceL l ms s) : sumL (listsL ms.length s) = (someL l ms).length := by
  rw [sum_lists _ (fun y hy => able_lt (h.ab y hy)), ← h.snd, List.length_map]
theorem some_next (l : List Pt) (ms : List Mb) {j : Nat} {x : Pt} (h : l[j]? = some x) : someL (l.take (j + 1)) ms = someL (l.take j) ms ++ (if able ms x.t = [] then [] else partsT x) := by
  unfold someL
  rw [List.take_add_one, h, List.flatMap_append]
  simp
theorem sum_next {L : List (List Pt)} {i : Nat} {x : List Pt} (h : L[i]? = some x) : sumL (L.take (i + 1)) = sumL (L.take i) + x.length := by
  rw [List.take_add_one, h, sum_app]
  simp [sumL]
theorem sum_le {L : List (List Pt)} (i : Nat) : sumL (L.take i) ≤ sumL L := by
  have : sumL L = sumL (L.take i) + sumL (L.drop i) := by rw [← sum_app, List.take_append_drop]
  omega
theorem someL_len {l : List Pt} (h : L9.Good l) (ms : List Mb) : (someL l ms).length ≤ 64 := by
  have key : ∀ l : List Pt, (∀ x ∈ l, x.n ≤ 8) → (someL l ms).length ≤ 8 * l.length := by
    intro l
    induction l with
    | nil => intro _; simp [someL]
    | cons x l ih =>
      intro hx
      have h1 := ih (fun y hy => hx y (List.mem_cons_of_mem _ hy))
      have h2 := hx x List.mem_cons_self
      unfold someL at h1 ⊢
      rw [List.flatMap_cons, List.length_append, List.length_cons]
      have : (if able ms x.t = [] then [] else partsT x).length ≤ 8 := by
        split
        · simp
        · simp [partsT]; omega
      omega
  have := key l (fun x hx => (h.fit x hx).2.2)
  have := h.len
  omega
theorem keep6 {W w1 w2 : World} {a1 a2 a3 a4 a5 a6 : Addr} {v1 v2 v3 v4 v5 v6 : Value} (h : (w1.cell? a1 = some v1 ∧ w1.cell? a2 = some v2 ∧ w1.cell? a3 = some v3 ∧ w1.cell? a4 = some v4 ∧ w1.cell? a5 = some v5 ∧ w1.cell? a6 = some v6) ∧ Below W.heap.size W w1) (hb : Below w1.heap.size w1 w2) : (w2.cell? a1 = some v1 ∧ w2.cell? a2 = some v2 ∧ w2.cell? a3 = some v3 ∧ w2.cell? a4 = some v4 ∧ w2.cell? a5 = some v5 ∧ w2.cell? a6 = some v6) ∧ Below W.heap.size W w2 := by
  obtain ⟨⟨h1, h2, h3, h4, h5, h6⟩, h9⟩ := h
  have k : ∀ {a : Addr} {v : Value}, w1.cell? a = some v → w2.cell? a = some v := fun q => (hb.cell (World.block_lt_of_cell? _ _ q)).trans q
  exact ⟨⟨k h1, k h2, k h3, k h4, k h5, k h6⟩, h9.trans (hb.mono h9.size)⟩

set_option maxRecDepth 100000 in
set_option maxHeartbeats 8000000 in
theorem once_is (w : World) (lo : Nat) (A Am Aa : Option Addr) (n c nm cm ca : Nat) (l : List Pt) (ms : List Mb) (s : List (Nat × Pt)) (hL : Hid (IsL w w.heap.size A n c l)) (hM : Hid (IsM w w.heap.size Am nm cm ms)) (hS : Hid (OnceL l ms s)) (hA : Hid (ReadsL w lo w.heap.size Aa (listsL nm s))) (hm8 : nm ≤ 8) :
    Calls Try.prog 22 #[.agg #[.slice A n c, .slice Am nm cm], .slice Aa nm ca] w fun e w' => e = .returned (.bool true) ∧ Below w.heap.size w w' := by
  have HML := Lib.hid hM.out.len
  have HLL := Lib.hid hL.out.len
  have hn8 : n ≤ 8 := by rw [← hL.out.len]; exact hS.out.good.len
  have HTOT : Hid (sumL (listsL nm s) = (someL l ms).length) := Lib.hid (by have := hS.out.total; rwa [HML.out] at this)
  have HS64 := Lib.hid (someL_len hS.out.good ms)
  obtain ⟨L, hLL⟩ : ∃ L, listsL nm s = L := ⟨_, rfl⟩
  have HLN : Hid (L.length = nm) := Lib.hid (by rw [← hLL]; exact listsL_len _ _)
  have HWHO : Hid (∀ (i : Nat) x y, L[i]? = some x → y ∈ x → WhoP L y (i : Int) ∧ wantAt ms i y.t = true) := Lib.hid (fun i x y hx hy => by rw [← hLL] at hx ⊢; exact hS.out.who hx hy)
  have HSOM : Hid (∀ x ∈ l, able ms x.t ≠ [] → ∀ n : Nat, (n : Int) < x.n → ∃ i : Nat, WhoP L ⟨x.t, (n : Int)⟩ (i : Int)) := Lib.hid (fun x hx ha n hn => by have := hS.out.some hx ha hn; rwa [HML.out, hLL] at this)
  have HXL : Hid (∀ x ∈ L, x.length ≤ 1000000) := Lib.hid (fun x hx => by
    obtain ⟨i, hi, rfl⟩ := List.mem_iff_getElem.1 hx
    have h1 := sum_next (List.getElem?_eq_getElem hi)
    have h2 := sum_le (L := L) (i + 1)
    have h3 := HTOT.out
    rw [hLL] at h3
    have := HS64.out
    omega)
  rw [hLL] at hA HTOT
  have hb1 : Below w.heap.size w (w.alloc (.cells #[.slice A n c, .slice Am nm cm] 25)) := one_box' _
  have hr1 := heap_alloc_new w (.cells #[.slice A n c, .slice Am nm cm] 25)
  go_enter Try.func22, Try.ntmps22
  go_wp2_with fail
  obtain ⟨w1, hw1⟩ : ∃ w1, w.alloc (.cells #[.slice A n c, .slice Am nm cm] 25) = w1 := ⟨_, rfl⟩
  rw [hw1] at hb1 hr1 ⊢
  have HB1 := Lib.hid hb1
  have HR1 := Lib.hid hr1
  have HZ1 : Hid (w.heap.size < w1.heap.size) := Lib.hid (Array.getElem?_eq_some_iff.1 hr1).1
  clear hb1 hr1 hw1 hLL
  go_loopw [5, 7] (fun v i wr => ∃ q : Nat, q ≤ nm ∧ i = .int .i64 q ∧ (∃ t : Nat, v = .int .i64 t ∧ t ≤ 64 ∧ Hid (sumL (L.take q) = t)) ∧ Hid (Below w1.heap.size w1 wr)) (fun _ i _ => nm - (intOf i).toNat)
  case atStart => exact ⟨0, by omega, rfl, ⟨0, rfl, by omega, Lib.hid rfl⟩, Lib.hid (Below.refl _ _)⟩
  case round =>
    obtain ⟨q, hq, rfl, ⟨t, rfl, ht, HT⟩, HB⟩ := hrel
    by_cases hlt : q < nm
    · obtain ⟨g, rfl, hlo, hg, hc⟩ := hA.out (by rw [HLN.out]; omega)
      obtain ⟨x, hx0⟩ : ∃ x, L[q]? = some x := ⟨_, List.getElem?_eq_getElem (by rw [HLN.out]; omega)⟩
      obtain ⟨Ai, ci, d0, hrd, -⟩ := hc q x hx0
      have hsn := sum_next hx0
      have hsl := sum_le (L := L) (q + 1)
      rw [HTOT.out, hsn, HT.out] at hsl
      have b0 : (0 : Int) ≤ (q : Int) := by omega
      have b1 : (q : Int) < (nm : Int) := by omega
      obtain ⟨m, hm⟩ : ∃ m, x.length = m := ⟨_, rfl⟩
      rw [hm] at d0 hsl hsn
      have hm64 : t + m ≤ 64 := Nat.le_trans hsl HS64.out
      have D0 := Lib.hid d0
      have HM := Lib.hid hm
      have HX0 := Lib.hid hx0
      have HRD := Lib.hid hrd
      have HSN : Hid (sumL (L.take (q + 1)) = t + m) := Lib.hid (by rw [hsn, HT.out])
      have hw1 : Below w.heap.size w wr := HB1.out.trans (HB.out.mono HB1.out.size)
      have d0 := (hw1.cell (p := ⟨g, q, none⟩) hg).trans D0.out
      clear hc hrd hm hx0 hw1 hsn hsl
      go_wp2_with fail
      clear d0
      obtain ⟨wo, hwo⟩ : ∃ wo, wo = wr := ⟨_, rfl⟩
      rw [← hwo] at HB ⊢
      clear hwo
      go_loopw [8] (fun s wr => ∃ k : Nat, k ≤ m ∧ s = .int .i64 k ∧ Hid (Below w1.heap.size w1 wr)) (fun s _ => m - (intOf s).toNat)
      case atStart => exact ⟨0, by omega, rfl, HB⟩
      case round =>
        obtain ⟨k, hk, rfl, HBQ⟩ := hrel
        have hw2 : Below w.heap.size w wr := HB1.out.trans (HBQ.out.mono HB1.out.size)
        have d0 := (hw2.cell (p := ⟨g, q, none⟩) hg).trans D0.out
        by_cases hkm : k < m
        · obtain ⟨gi, rfl, hgi, hci⟩ := HRD.out (by rw [HM.out]; omega)
          obtain ⟨⟨tt, kk⟩, hs⟩ : ∃ s, x[k]? = some s := ⟨_, List.getElem?_eq_getElem (by rw [HM.out]; omega)⟩
          obtain ⟨e0, e1⟩ := hci k _ hs
          have e0 := (hw2.cell (p := ⟨gi, k * 2, none⟩) hgi).trans e0
          have e1 := (hw2.cell (p := ⟨gi, k * 2 + 1, none⟩) hgi).trans e1
          dsimp only at e0 e1
          obtain ⟨hwho, hwant⟩ := HWHO.out q x _ HX0.out (List.mem_of_getElem? hs)
          dsimp only at hwant
          obtain ⟨gm, rfl, hgm, hcm⟩ := hM.out.rd (by rw [HML.out]; omega)
          obtain ⟨⟨nk, ts⟩, hms⟩ : ∃ s, ms[q]? = some s := ⟨_, List.getElem?_eq_getElem (by rw [HML.out]; omega)⟩
          obtain ⟨f0, At, ct, f1, hrt⟩ := hcm q _ hms
          obtain ⟨z0, z1, z2⟩ := hM.out.sz _ (List.mem_of_getElem? hms)
          dsimp only at f0 f1 hrt z1
          rw [wantAt_at hms] at hwant
          obtain ⟨tn, htn⟩ : ∃ tn, ts.length = tn := ⟨_, rfl⟩
          rw [htn] at f1 z1
          have f0 := (hw2.cell (p := ⟨gm, q * 2, none⟩) hgm).trans f0
          have f1 := (hw2.cell (p := ⟨gm, q * 2 + 1, none⟩) hgm).trans f1
          have hrw := (HBQ.out.block w.heap.size HZ1.out).trans HR1.out
          have y1 := (cell_of_row _ _ 1 _ _ _ hrw).trans rfl
          have HWHO1 := Lib.hid hwho
          have HWANT : Hid (anyB ts tt = true) := Lib.hid hwant
          have HRT := Lib.hid (hrt.below hw2)
          have HTN := Lib.hid htn
          have HZW := Lib.hid hw2.size
          have HW2 := Lib.hid hw2
          have j0 : (0 : Int) ≤ (k : Int) := by omega
          have j1 : (k : Int) < (m : Int) := by omega
          have hS6 := Lib.hid (show (wr.cell? ⟨w.heap.size, 1, none⟩ = some (.slice (some ⟨gm, 0, none⟩) nm cm) ∧ wr.cell? ⟨gm, q * 2, none⟩ = some (.string nk) ∧ wr.cell? ⟨gm, q * 2 + 1, none⟩ = some (.slice At tn ct) ∧ wr.cell? ⟨g, q, none⟩ = some (.slice (some ⟨gi, 0, none⟩) m ci) ∧ wr.cell? ⟨gi, k * 2, none⟩ = some (.string tt) ∧ wr.cell? ⟨gi, k * 2 + 1, none⟩ = some (.int .i64 kk)) ∧ Below wr.heap.size wr wr from ⟨⟨y1, f0, f1, d0, e0, e1⟩, Below.refl _ _⟩)
          have HAW := Lib.hid ((hA.out.below hw2).mono hw2.size)
          clear hci hcm hs hms hw2 hrw hwho hwant hrt htn
          go_wp2_with fail
          go_region_held3 (fun w' => (w'.cell? ⟨w.heap.size, 1, none⟩ = some (.slice (some ⟨gm, 0, none⟩) nm cm) ∧ w'.cell? ⟨gm, q * 2, none⟩ = some (.string nk) ∧ w'.cell? ⟨gm, q * 2 + 1, none⟩ = some (.slice At tn ct) ∧ w'.cell? ⟨g, q, none⟩ = some (.slice (some ⟨gi, 0, none⟩) m ci) ∧ w'.cell? ⟨gi, k * 2, none⟩ = some (.string tt) ∧ w'.cell? ⟨gi, k * 2 + 1, none⟩ = some (.int .i64 kk)) ∧ Below wr.heap.size wr w')
            (first | with_reducible assumption | exact keep6 hS6.out HB4.out | exact keep6 hS6.out HB3.out | exact keep6 hS6.out (Below.refl _ _).drew)
            (first
              | (go_at_call 18; refine (rwhose_is _ lo (some ⟨g, 0, none⟩) nm ca L tt kk (q : Int) (Lib.hid ((HAW.out.below HB3.out).mono HB3.out.size)) HLN (by omega) HXL HWHO1).mono ?_; rintro e w4 ⟨rfl, hb4⟩; have HB4 := Lib.hid (HB3.out.trans (hb4.mono HB3.out.size)))
              | (go_at_call 20; refine (rwants_is nk tt ts At ct tn w.heap.size true _ (Lib.hid (HRT.out.below ((Below.refl _ _).drew.mono HZW.out))) HZW.out HTN z1 HWANT).mono ?_; rintro e w3 ⟨rfl, hb3⟩; have HB3 := Lib.hid ((Below.refl _ wr).drew.trans hb3)))
          rename_i hHeld
          have HH := Lib.hid hHeld.2
          clear hHeld
          go_wp2_with fail
          go_roundw
          case rel => exact ⟨k + 1, by omega, by go_num, Lib.hid (HBQ.out.trans (HH.out.mono HBQ.out.size))⟩
          case measure => simp [intOf]; omega
        · obtain rfl : k = m := by omega
          clear hw2
          go_wp2_with fail
          go_roundw
          case rel => exact ⟨q + 1, by omega, by go_num, ⟨t + k, by go_num, hm64, HSN⟩, HBQ⟩
          case measure => simp [intOf]; omega
    · obtain rfl : nm = q := by omega
      have HTT : Hid (t = (someL l ms).length) := Lib.hid (by rw [← HT.out, List.take_of_length_le (by rw [HLN.out]; exact Nat.le_refl _), HTOT.out])
      go_wp2_with fail
      obtain ⟨wo, hwo⟩ : ∃ wo, wo = wr := ⟨_, rfl⟩
      rw [← hwo] at HB ⊢
      clear hwo
      go_loopw [6, 9] (fun v i wr => ∃ j : Nat, j ≤ n ∧ i = .int .i64 j ∧ (∃ u : Nat, v = .int .i64 u ∧ Hid ((someL (l.take j) ms).length = u) ∧ u ≤ 64) ∧ Hid (Below w1.heap.size w1 wr)) (fun _ i _ => n - (intOf i).toNat)
      case atStart => exact ⟨0, by omega, rfl, ⟨0, rfl, Lib.hid rfl, by omega⟩, HB⟩
      case round =>
        obtain ⟨j, hj, rfl, ⟨u, rfl, HU, hu64⟩, HBJ⟩ := hrel
        have hrw := (HBJ.out.block w.heap.size HZ1.out).trans HR1.out
        have y0 := (cell_of_row _ _ 0 _ _ _ hrw).trans rfl
        by_cases hlt2 : j < n
        · obtain ⟨gl, hAl, hgl, hcl⟩ := hL.out.rd (by rw [HLL.out]; omega)
          subst hAl
          obtain ⟨⟨xt, N0⟩, hs⟩ : ∃ s, l[j]? = some s := ⟨_, List.getElem?_eq_getElem (by rw [HLL.out]; omega)⟩
          have hfit := hS.out.good.fit _ (List.mem_of_getElem? hs)
          dsimp only at hfit
          obtain ⟨N, rfl⟩ : ∃ N : Nat, N0 = (N : Int) := ⟨N0.toNat, by omega⟩
          obtain ⟨d0, d1⟩ := hcl j _ hs
          dsimp only at d0 d1
          have HSI := Lib.hid (hS.out.good.fit _ (List.mem_of_getElem? hs)).1
          have HXT : Hid (xt.size ≤ 281474976710656) := Lib.hid (by have := HSI.out; dsimp only at this; omega)
          have hN8 : N ≤ 8 := by omega
          have HN1 : Hid (0 < N) := Lib.hid (by omega)
          have D0 := Lib.hid d0
          have D1 := Lib.hid d1
          have HSN := Lib.hid (some_next l ms hs)
          have HSJ : Hid (able ms xt ≠ [] → ∀ n : Nat, (n : Int) < (N : Int) → ∃ i : Nat, WhoP L ⟨xt, (n : Int)⟩ (i : Int)) := Lib.hid (HSOM.out _ (List.mem_of_getElem? hs))
          have HPL : Hid ((partsT ⟨xt, (N : Int)⟩).length = N) := Lib.hid (by simp [partsT])
          have HTK : Hid ((someL (l.take (j + 1)) ms).length ≤ 64) := Lib.hid (someL_len ⟨List.Pairwise.sublist (List.take_sublist _ _) hS.out.good.rise, fun x hx => hS.out.good.may x (List.mem_of_mem_take hx), Nat.le_trans (by rw [List.length_take]; omega) hS.out.good.len⟩ ms)
          have b0 : (0 : Int) ≤ (j : Int) := by omega
          have b1 : (j : Int) < (n : Int) := by omega
          have GLZ := Lib.hid hgl
          clear hcl hs hfit d0 d1
          go_wp2_with fail
          clear y0 hrw
          obtain ⟨wo2, hwo⟩ : ∃ wo, wo = wr := ⟨_, rfl⟩
          rw [← hwo] at HBJ ⊢
          clear hwo
          go_loopw [10, 11] (fun v i wr => ∃ r : Nat, r ≤ nm ∧ i = .int .i64 r ∧ (∃ b : Bool, v = .bool b ∧ Hid (b = true ↔ ableTo ms xt r ≠ [])) ∧ Hid (Below w1.heap.size w1 wr)) (fun _ i _ => nm - (intOf i).toNat)
          case atStart => exact ⟨0, by omega, rfl, ⟨false, rfl, Lib.hid (by simp [ableTo])⟩, HBJ⟩
          case round =>
            obtain ⟨r, hr, rfl, ⟨b, rfl, HBT⟩, HBR⟩ := hrel
            have hw2 : Below w.heap.size w wr := HB1.out.trans (HBR.out.mono HB1.out.size)
            have hrw := (HBR.out.block w.heap.size HZ1.out).trans HR1.out
            have y0 := (cell_of_row _ _ 0 _ _ _ hrw).trans rfl
            have y1 := (cell_of_row _ _ 1 _ _ _ hrw).trans rfl
            have d0 := (hw2.cell (p := ⟨gl, j * 2, none⟩) GLZ.out).trans D0.out
            have d1 := (hw2.cell (p := ⟨gl, j * 2 + 1, none⟩) GLZ.out).trans D1.out
            by_cases hlt3 : r < nm
            · have r0 : (0 : Int) ≤ (r : Int) := by omega
              have r1 : (r : Int) < (nm : Int) := by omega
              cases b with
              | true =>
                have HNX : Hid (ableTo ms xt (r + 1) ≠ []) := Lib.hid (by
                  rw [ableTo_next]
                  intro e
                  exact (HBT.out.1 (by simp)) (List.append_eq_nil_iff.1 e).1)
                clear hrw hw2
                go_wp2_with fail
                go_quiet (fail)
                go_wp2_with fail
                go_roundw
                case rel => exact ⟨r + 1, by omega, by go_num, ⟨true, rfl, Lib.hid ⟨fun _ => HNX.out, fun _ => rfl⟩⟩, Lib.hid (drewN_below HBR.out _)⟩
                case measure => simp [intOf]; omega
              | false =>
                obtain ⟨gm, rfl, hgm, hcm⟩ := hM.out.rd (by rw [HML.out]; omega)
                obtain ⟨⟨nk, ts⟩, hms⟩ : ∃ s, ms[r]? = some s := ⟨_, List.getElem?_eq_getElem (by rw [HML.out]; omega)⟩
                obtain ⟨f0, At, ct, f1, hrt⟩ := hcm r _ hms
                obtain ⟨z0, z1, z2⟩ := hM.out.sz _ (List.mem_of_getElem? hms)
                dsimp only at f0 f1 hrt z1
                obtain ⟨tn, htn⟩ : ∃ tn, ts.length = tn := ⟨_, rfl⟩
                rw [htn] at f1 z1
                have f0 := (hw2.cell (p := ⟨gm, r * 2, none⟩) hgm).trans f0
                have f1 := (hw2.cell (p := ⟨gm, r * 2 + 1, none⟩) hgm).trans f1
                obtain ⟨v, hv⟩ : ∃ v, anyB ts xt = v := ⟨_, rfl⟩
                have HV := Lib.hid hv
                have HNX : Hid (v = true ↔ ableTo ms xt (r + 1) ≠ []) := Lib.hid (by
                  rw [ableTo_next, wantAt_at hms]
                  have h0 : ableTo ms xt r = [] := Classical.byContradiction fun h => by have := HBT.out.2 h; simp at this
                  rw [h0, List.nil_append]
                  show v = true ↔ (if anyB ts xt = true then [r] else []) ≠ []
                  rw [hv]
                  cases v <;> simp)
                have HRT := Lib.hid (hrt.below hw2)
                have HTN := Lib.hid htn
                have HZW := Lib.hid hw2.size
                have hS6 := Lib.hid (show (wr.cell? ⟨w.heap.size, 1, none⟩ = some (.slice (some ⟨gm, 0, none⟩) nm cm) ∧ wr.cell? ⟨gm, r * 2, none⟩ = some (.string nk) ∧ wr.cell? ⟨gm, r * 2 + 1, none⟩ = some (.slice At tn ct) ∧ wr.cell? ⟨w.heap.size, 0, none⟩ = some (.slice (some ⟨gl, 0, none⟩) n c) ∧ wr.cell? ⟨gl, j * 2, none⟩ = some (.string xt) ∧ wr.cell? ⟨gl, j * 2 + 1, none⟩ = some (.int .i64 (N : Int))) ∧ Below wr.heap.size wr wr from ⟨⟨y1, f0, f1, y0, d0, d1⟩, Below.refl _ _⟩)
                clear hcm hms hw2 hrw hrt htn hv
                go_wp2_with fail
                go_region_held3 (fun w' => (w'.cell? ⟨w.heap.size, 1, none⟩ = some (.slice (some ⟨gm, 0, none⟩) nm cm) ∧ w'.cell? ⟨gm, r * 2, none⟩ = some (.string nk) ∧ w'.cell? ⟨gm, r * 2 + 1, none⟩ = some (.slice At tn ct) ∧ w'.cell? ⟨w.heap.size, 0, none⟩ = some (.slice (some ⟨gl, 0, none⟩) n c) ∧ w'.cell? ⟨gl, j * 2, none⟩ = some (.string xt) ∧ w'.cell? ⟨gl, j * 2 + 1, none⟩ = some (.int .i64 (N : Int))) ∧ Below wr.heap.size wr w')
                  (first | with_reducible assumption | exact keep6 hS6.out HB3.out | exact keep6 hS6.out (Below.refl _ _).drew)
                  (first
                    | (go_at_call 20; refine (rwants_is nk xt ts At ct tn w.heap.size v _ (Lib.hid (HRT.out.below ((Below.refl _ _).drew.mono HZW.out))) HZW.out HTN z1 HV).mono ?_; rintro e w3 ⟨rfl, hb3⟩; have HB3 := Lib.hid ((Below.refl _ wr).drew.trans hb3)))
                rename_i hHeld
                have HH := Lib.hid hHeld.2
                clear hHeld
                go_wp2_with fail
                go_roundw
                case rel => exact ⟨r + 1, by omega, by go_num, ⟨v, rfl, HNX⟩, Lib.hid (HBR.out.trans (HH.out.mono HBR.out.size))⟩
                case measure => simp [intOf]; omega
            · obtain rfl : nm = r := by omega
              have HAB : Hid (b = true ↔ able ms xt ≠ []) := Lib.hid (by have := HBT.out; unfold able; rwa [HML.out])
              have HPK : Hid (Below w1.heap.size w1 wr) := HBR
              have n1 : (N : Int) ≤ 8 := by omega
              clear hw2 hrw
              cases b with
              | true =>
                have HNE : Hid (able ms xt ≠ []) := Lib.hid (HAB.out.1 (by simp))
                have HUN : Hid ((someL (l.take (j + 1)) ms).length = u + N) := Lib.hid (by rw [HSN.out, if_neg HNE.out, List.length_append, HU.out, HPL.out])
                have hun64 : u + N ≤ 64 := by rw [← HUN.out]; exact HTK.out
                go_wp2_with fail
                clear y0 y1 d0 d1
                obtain ⟨wo3, hwo⟩ : ∃ wo, wo = wr := ⟨_, rfl⟩
                rw [← hwo] at HPK ⊢
                clear hwo
                go_loopw [12] (fun s wr => ∃ y : Nat, y ≤ N ∧ s = .int .i64 y ∧ Hid (Below w1.heap.size w1 wr)) (fun s _ => N - (intOf s).toNat)
                case atStart => exact ⟨0, by omega, rfl, HPK⟩
                case round =>
                  obtain ⟨y, hy, rfl, HBY⟩ := hrel
                  have hw2 : Below w.heap.size w wr := HB1.out.trans (HBY.out.mono HB1.out.size)
                  have hrw := (HBY.out.block w.heap.size HZ1.out).trans HR1.out
                  have y0 := (cell_of_row _ _ 0 _ _ _ hrw).trans rfl
                  have d0 := (hw2.cell (p := ⟨gl, j * 2, none⟩) GLZ.out).trans D0.out
                  have d1 := (hw2.cell (p := ⟨gl, j * 2 + 1, none⟩) GLZ.out).trans D1.out
                  by_cases hyN : y < N
                  · obtain ⟨i, hwho⟩ := HSJ.out HNE.out y (by omega)
                    have HWI := Lib.hid hwho
                    have HAW := Lib.hid ((hA.out.below hw2).mono hw2.size)
                    have t0 : (y : Int) < (N : Int) := by omega
                    have t1 : ¬ ((i : Int) < 0) := by omega
                    clear hw2 hrw hwho
                    go_wp2_with (go_at_call 18; refine (rwhose_is _ lo Aa nm ca L xt (y : Int) (i : Int) HAW HLN (by omega) HXL HWI).mono ?_; rintro e w4 ⟨rfl, hb4⟩; have HB4 := Lib.hid (HBY.out.trans (hb4.mono HBY.out.size)); clear hb4)
                    go_roundw
                    case rel => exact ⟨y + 1, by omega, by go_num, HB4⟩
                    case measure => simp [intOf]; omega
                  · obtain rfl : y = N := by omega
                    clear hw2 hrw
                    go_wp2_with fail
                    go_roundw
                    case rel => exact ⟨j + 1, by omega, by go_num, ⟨u + y, by go_num, HUN, hun64⟩, HBY⟩
                    case measure => simp [intOf]; omega
              | false =>
                have HUN : Hid ((someL (l.take (j + 1)) ms).length = u) := Lib.hid (by
                  have h0 : able ms xt = [] := Classical.byContradiction fun h => by have := HAB.out.2 h; simp at this
                  rw [HSN.out, if_pos h0, List.append_nil, HU.out])
                have n2 : (0 : Int) < (N : Int) := Int.ofNat_lt.2 HN1.out
                go_wp2_with fail
                go_loopw [12] (fun s wx => s = .int .i64 0 ∧ wx = wr) (fun s _ => 0)
                case atStart => exact ⟨rfl, rfl⟩
                case round =>
                  obtain ⟨rfl, rfl⟩ := hrel
                  go_wp2_with fail
                  go_roundw
                  case rel => exact ⟨j + 1, by omega, by go_num, ⟨u, rfl, HUN, hu64⟩, HPK⟩
                  case measure => simp [intOf]; omega
        · obtain rfl : j = n := by omega
          have HTU : Hid (t = u) := Lib.hid (by rw [HTT.out, ← HU.out, List.take_of_length_le (by rw [HLL.out]; exact Nat.le_refl _)])
          have htu := HTU.out
          subst htu
          clear hrw
          go_wp2_with fail
          go_ret
          exact ⟨by simp, HB1.out.trans (HBJ.out.mono HB1.out.size)⟩
end Go.Proofs.Ythogigaepnpmeaa.L10
