/-
  Contracts: who is chosen: by stretches, one after the other.
-/
import Derived.Test.YthongbobopampaaAsSmall
namespace Go.Proofs.Ythongbobopampaa.L10
open Go.RowKit
open L3 L4 L9

/-- a slice that reads as numbers -/
def ReadsN (w : World) (B : Nat) (A : Option Addr) (l : List Nat) : Prop :=
  0 < l.length → ∃ g, A = some ⟨g, 0, none⟩ ∧ g < B ∧ ∀ i (k : Nat), l[i]? = some k → w.cell? ⟨g, i, none⟩ = some (.int .i64 (k : Int))
theorem ReadsN.below {w w' : World} {B : Nat} {A : Option Addr} {l : List Nat} (h : ReadsN w B A l) (hb : Below B w w') : ReadsN w' B A l := fun h0 => by
  obtain ⟨g, e, hg, hc⟩ := h h0
  exact ⟨g, e, hg, fun i s hs => (hb.cell (p := ⟨g, i, none⟩) hg).trans (hc i s hs)⟩
theorem ReadsN.mono {w : World} {B B' : Nat} {A : Option Addr} {l : List Nat} (h : ReadsN w B A l) (hB : B ≤ B') : ReadsN w B' A l := fun h0 => by
  obtain ⟨g, e, hg, hc⟩ := h h0
  exact ⟨g, e, by omega, hc⟩
theorem own_readsN {w : World} {base n c m : Nat} {A : Option Addr} {l : List Nat} (h : w.ownsRow base 3 1 (.slice A n c) m (rowN l)) (hm : l.length = m) : ReadsN w w.heap.size A l := fun h0 => by
  rcases h.2 with ⟨_, e⟩ | ⟨g, cap, cur, e, h1, hh, _⟩
  · omega
  · injection e with e1; subst e1
    refine ⟨g, rfl, (Array.getElem?_eq_some_iff.1 hh).1, fun i k hk => ?_⟩
    have q := h.cells (g := g) rfl i _ (rowN_at hk)
    rwa [Addr.add_lit, Nat.zero_add] at q

set_option maxRecDepth 100000 in
set_option maxHeartbeats 200000 in
/-- the library's search: the first place at which it holds -/
theorem search_is (n : Nat) (cb : Array Value) (p : Nat → Bool) (w : World) (hn : n ≤ 1000000) (hf : Hid (∀ (W : World) (i : Nat), Below w.heap.size w W → i < n → Calls Try.prog 31 (#[.int .i64 i] ++ cb) W fun e w' => e = .returned (.bool (p i)) ∧ Below w.heap.size w w'))
    (hmono : Hid (∀ a b, a ≤ b → b < n → p a = true → p b = true)) :
    Calls Try.prog 30 #[.int .i64 n, .func (.func 31) #[] cb] w fun e w' => ∃ m : Nat, e = .returned (.int .i64 m) ∧ m ≤ n ∧ (∀ i, i < m → p i = false) ∧ (∀ i, m ≤ i → i < n → p i = true) ∧ Below w.heap.size w w' := by
  go_enter Try.func30, Try.ntmps30
  go_wp2_with fail
  go_loopw [5, 6] (fun s5 s6 wr => ∃ lo hi : Nat, s5 = .int .i64 lo ∧ s6 = .int .i64 hi ∧ lo ≤ hi ∧ hi ≤ n ∧ Hid ((∀ t, t < lo → p t = false) ∧ (∀ t, hi ≤ t → t < n → p t = true)) ∧ Below w.heap.size w wr) (fun s5 s6 _ => (intOf s6).toNat - (intOf s5).toNat)
  case atStart => exact ⟨0, n, rfl, rfl, Nat.zero_le _, Nat.le_refl _, Lib.hid ⟨fun t ht => absurd ht (Nat.not_lt_zero _), fun t h1 h2 => by omega⟩, Below.refl _ _⟩
  case round =>
    obtain ⟨lo, hi, rfl, rfl, hlh, hin, hI, hbel⟩ := hrel
    by_cases hlt : lo < hi
    · obtain ⟨md, hmd⟩ : ∃ md, (lo + hi) / 2 = md := ⟨_, rfl⟩
      have hmd2 : ((lo : Int) + (hi : Int)) / 2 = (md : Int) := by omega
      have hc := hf.out wr md hbel (by omega)
      obtain ⟨b, hb⟩ : ∃ b, p md = b := ⟨_, rfl⟩
      rw [hb] at hc
      have m1 : lo ≤ md := by omega
      have m2 : md < hi := by omega
      have HB := Lib.hid hb
      clear hb hmd
      cases b
      · go_wp2_with (go_at_call 31; refine hc.mono ?_; rintro e w' ⟨rfl, hb'⟩)
        go_roundw
        case rel =>
          refine ⟨md + 1, hi, by go_num, rfl, by omega, hin, Lib.hid ⟨fun t ht => ?_, hI.out.2⟩, hb'⟩
          cases h : p t
          · rfl
          · exact absurd (hmono.out t md (by omega) (by omega) h) (by rw [HB.out]; simp)
        case measure => simp [intOf]; omega
      · go_wp2_with (go_at_call 31; refine hc.mono ?_; rintro e w' ⟨rfl, hb'⟩)
        go_roundw
        case rel => exact ⟨lo, md, rfl, rfl, by omega, by omega, Lib.hid ⟨hI.out.1, fun t ht htn => hmono.out md t ht htn HB.out⟩, hb'⟩
        case measure => simp [intOf]; omega
    · obtain rfl : hi = lo := by omega
      go_wp2_with fail
      go_ret
      exact ⟨hi, rfl, hin, hI.out.1, hI.out.2, hbel⟩

set_option maxRecDepth 100000 in
set_option maxHeartbeats 200000 in
theorem atleast_is (g ba bx n c p i k : Nat) (w : World) (h1 : w.cell? ⟨ba, 0, none⟩ = some (.slice (some ⟨g, 0, none⟩) n c)) (h2 : w.cell? ⟨bx, 0, none⟩ = some (.int .i64 (p : Int))) (hk : w.cell? ⟨g, i, none⟩ = some (.int .i64 (k : Int))) (hi : i < n) :
    Calls Try.prog 31 (#[.int .i64 i] ++ #[.pointer (some ⟨ba, 0, none⟩), .pointer (some ⟨bx, 0, none⟩)]) w fun e w' => e = .returned (.bool (decide ((p : Int) ≤ (k : Int)))) ∧ Below w.heap.size w w' := by
  have k0 : (0 : Int) ≤ (i : Int) := by omega
  have k1 : (i : Int) < (n : Int) := by omega
  show Calls _ _ #[.int .i64 i, .pointer (some ⟨ba, 0, none⟩), .pointer (some ⟨bx, 0, none⟩)] _ _
  go_enter Try.func31, Try.ntmps31
  go_wp2_with fail
  go_quiet (fail)
  go_wp2_with fail
  go_ret
  refine ⟨?_, drewN_below (Below.refl _ _) _⟩
  first | rfl | simp

theorem pos_one {ab : List Nat} (hr : ab.Pairwise (· < ·)) {p m : Nat} (hm : m ≤ ab.length) (h1 : ∀ i k, i < m → ab[i]? = some k → k < p) (h2 : ∀ i k, m ≤ i → ab[i]? = some k → p ≤ k) : m = posB ab p := by
  have hle := posB_le ab p
  rcases Nat.lt_trichotomy m (posB ab p) with q | q | q
  · obtain ⟨k, hk⟩ : ∃ k, ab[m]? = some k := ⟨_, List.getElem?_eq_getElem (by omega)⟩
    have := (posB_at hr p m k hk).2 q
    have := h2 m k (Nat.le_refl _) hk
    omega
  · exact q
  · obtain ⟨k, hk⟩ : ∃ k, ab[posB ab p]? = some k := ⟨_, List.getElem?_eq_getElem (by omega)⟩
    have a := h1 _ k q hk
    have := (posB_at hr p _ k hk).1 a
    omega

set_option maxRecDepth 100000 in
set_option maxHeartbeats 200000 in
theorem searchints_is (A : Option Addr) (n c p q : Nat) (ab : List Nat) (w : World) (hR : Hid (ReadsN w w.heap.size A ab)) (hn : Hid (ab.length = n)) (hn1 : n ≤ 1000000) (hr : Hid (ab.Pairwise (· < ·))) (HQ : Hid (posB ab p = q)) :
    Calls Try.prog 21 #[.slice A n c, .int .i64 (p : Int)] w fun e w' => e = .returned (.int .i64 (q : Int)) ∧ Below w.heap.size w w' := by
  obtain ⟨W0, hW0⟩ : ∃ W0, (w.alloc (.cells #[.slice A n c] 46)).alloc (.cells #[.int .i64 (p : Int)] 3) = W0 := ⟨_, rfl⟩
  have hB0 : Below w.heap.size w W0 := by rw [← hW0]; exact two_box _ _
  have hz0 : W0.heap.size = w.heap.size + 1 + 1 := by rw [← hW0]; simp
  have k1 : W0.cell? ⟨w.heap.size, 0, none⟩ = some (.slice A n c) := by rw [← hW0]; simp [go_sem]
  have k2 : W0.cell? ⟨w.heap.size + 1, 0, none⟩ = some (.int .i64 (p : Int)) := by rw [← hW0]; simp [go_sem]
  have hS := search_is n #[.pointer (some ⟨w.heap.size, 0, none⟩), .pointer (some ⟨w.heap.size + 1, 0, none⟩)] (fun i => decide ((p : Int) ≤ ((ab.getD i 0 : Nat) : Int))) W0 hn1
    (Lib.hid (fun W i hW hi => by
      obtain ⟨g, rfl, hg, hc⟩ := hR.out (by rw [hn.out]; omega)
      have e : ab[i]? = some (ab.getD i 0) := by rw [List.getD_eq_getElem?_getD, List.getElem?_eq_getElem (by rw [hn.out]; exact hi)]; rfl
      exact (atleast_is g w.heap.size (w.heap.size + 1) n c p i _ W ((hW.cell (p := ⟨w.heap.size, 0, none⟩) (by show w.heap.size < _; omega)).trans k1) ((hW.cell (p := ⟨w.heap.size + 1, 0, none⟩) (by show w.heap.size + 1 < _; omega)).trans k2) ((hW.cell (p := ⟨g, i, none⟩) (by show g < _; omega)).trans ((hB0.cell (p := ⟨g, i, none⟩) hg).trans (hc i _ e))) hi).mono (fun e w' ⟨he, hb⟩ => ⟨he, hW.trans (hb.mono hW.size)⟩)))
    (Lib.hid (fun x y hxy hy hx => by
      have hlx : x < ab.length := by rw [hn.out]; omega
      have hly : y < ab.length := by rw [hn.out]; omega
      rw [List.getD_eq_getElem?_getD, List.getElem?_eq_getElem hlx] at hx
      rw [List.getD_eq_getElem?_getD, List.getElem?_eq_getElem hly]
      simp at hx ⊢
      rcases Nat.lt_or_ge x y with q | q
      · have := List.pairwise_iff_getElem.1 hr.out x y hlx hly q
        omega
      · obtain rfl : x = y := by omega
        exact hx))
  have HS := Lib.hid hS
  clear hS
  go_enter Try.func21, Try.ntmps21
  go_wp2_with (go_at_call 30; refine HS.out.mono ?_; rintro e w1 ⟨m, rfl, hm, hlow, hhigh, hb1⟩)
  go_ret
  have e : m = q := by
    rw [← HQ.out]
    refine pos_one hr.out (by rw [hn.out]; exact hm) (fun i k hi hk => ?_) (fun i k hi hk => ?_)
    · have := hlow i hi
      rw [List.getD_eq_getElem?_getD, hk] at this
      simp at this; exact this
    · have := hhigh i hi (by rw [← hn.out]; exact (List.getElem?_eq_some_iff.1 hk).1)
      rw [List.getD_eq_getElem?_getD, hk] at this
      simp at this; exact this
  exact ⟨by rw [e]; rfl, hB0.trans (hb1.mono (by omega))⟩

theorem nz {E : Nat} (h : 0 < E) : ((E : Int) == 0) = false := by simp; omega
theorem nz' {E : Nat} (h : 0 < E) : (E : Int) ≠ 0 := by omega
theorem sub_w (a b r : Nat) (h : a - b = r) (hb : b ≤ a) (ha : a ≤ 1000000) : wrap64 ((a : Int) - (b : Int)) = (r : Int) := by simp only [wrap64]; omega
theorem add_w (a b r : Nat) (h : a + b = r) (ha : a ≤ 1000000) (hb : b ≤ 1000000) : wrap64 ((a : Int) + (b : Int)) = (r : Int) := by simp only [wrap64]; omega
theorem ediv_n (a b r : Nat) (h : a / b = r) : (a : Int) / (b : Int) = (r : Int) := by rw [← h, Int.natCast_ediv]
theorem emod_n (a b r : Nat) (h : a % b = r) : (a : Int) % (b : Int) = (r : Int) := by rw [← h, Int.natCast_emod]
theorem tdiv_w (a b r : Nat) (h : a / b = r) (ha : a ≤ 1000000) : wrap64 ((a : Int).tdiv (b : Int)) = (r : Int) := by
  rw [Int.tdiv_eq_ediv_of_nonneg (by omega), ← h]
  have : a / b ≤ a := Nat.div_le_self _ _
  rw [← Int.natCast_ediv]
  simp only [wrap64]; omega
theorem tmod_w (a b r : Nat) (h : a % b = r) (ha : a ≤ 1000000) : wrap64 ((a : Int).tmod (b : Int)) = (r : Int) := by
  rw [Int.tmod_eq_emod_of_nonneg (by omega), ← h]
  have : a % b ≤ a := Nat.mod_le _ _
  rw [← Int.natCast_emod]
  simp only [wrap64]; omega
theorem tdiv_k (a b r : Nat) (h : a / b = r) (ha : a ≤ 1000000) : IntKind.i64.wrap ((a : Int).tdiv (b : Int)) = (r : Int) := by rw [IntWalk.i64_left]; exact tdiv_w a b r h ha
theorem tmod_k (a b r : Nat) (h : a % b = r) (ha : a ≤ 1000000) : IntKind.i64.wrap ((a : Int).tmod (b : Int)) = (r : Int) := by rw [IntWalk.i64_left]; exact tmod_w a b r h ha

/-- the place's own box -/
def Box (w : World) (pb p : Nat) : Prop := w.heap[pb]? = some (.cells #[.int .i64 (p : Int)] 3 (0, 0))
theorem Box.cell {w : World} {pb p : Nat} (h : Box w pb p) : w.cell? ⟨pb, 0, none⟩ = some (.int .i64 (p : Int)) := (cell_of_row _ _ 0 _ _ _ h).trans rfl
theorem Box.lt {w : World} {pb p : Nat} (h : Box w pb p) : pb < w.heap.size := (Array.getElem?_eq_some_iff.1 h).1
theorem Box.below {w w' : World} {pb p : Nat} (h : Box w pb p) (b : Below w.heap.size w w') : Box w' pb p := (b.block pb h.lt).trans h
set_option maxRecDepth 100000 in
set_option maxHeartbeats 200000 in
theorem robin1_is (A : Option Addr) (K c i n r pb p : Nat) (ab : List Nat) (w : World) (hR : Hid (ReadsN w w.heap.size A ab)) (hK : Hid (ab.length = K)) (hK0 : 0 < K) (hK8 : K ≤ 8) (hr : Hid (ab.Pairwise (· < ·))) (hb : Hid (Box w pb p)) (HX : Hid (pickB ab p = r)) (hr8 : r ≤ 1000000) :
    Calls Try.prog 20 #[.slice A K c, .int .i64 (i : Int), .int .i64 (n : Int), .pointer (some ⟨pb, 0, none⟩)] w fun e w' => e = .returned (.int .i64 (r : Int)) ∧ Box w' pb (r + 1) ∧ Only [pb] w w' := by
  obtain ⟨q, hq⟩ : ∃ q, posB ab p = q := ⟨_, rfl⟩
  have hqK : q ≤ K := by rw [← hq, ← hK.out]; exact posB_le _ _
  obtain ⟨t, ht⟩ : ∃ t, q % K = t := ⟨_, rfl⟩
  have htK : t < K := by rw [← ht]; exact Nat.mod_lt _ hK0
  have a1 := tmod_w q K t ht (by omega)
  have a1' := emod_n q K t ht
  have z1 : ((K : Int) == 0) = false := nz hK0
  have z1' : (K : Int) ≠ 0 := by omega
  have HQ := Lib.hid hq
  have hx := HX.out
  unfold pickB at hx
  rw [hK.out, hq, ht] at hx
  obtain ⟨g, e, hg, hc⟩ := hR.out (by rw [hK.out]; exact hK0)
  subst e
  have d0 := hc t r (by rw [← hx, List.getD_eq_getElem?_getD, List.getElem?_eq_getElem (by rw [hK.out]; exact htK)]; rfl)
  have k0 : (0 : Int) ≤ (t : Int) := by omega
  have k1 : (t : Int) < (K : Int) := by omega
  have b0 := hb.out.cell
  have a2 : wrap64 ((r : Int) + 1) = ((r + 1 : Nat) : Int) := by simp only [wrap64]; omega
  have hpl := hb.out.lt
  clear hx hc hq ht
  go_enter Try.func20, Try.ntmps20
  go_wp2_with (go_at_call 21; go_loud (refine (searchints_is (some ⟨g, 0, none⟩) K c p q ab w hR hK (by omega) hr HQ).mono ?_; rintro e w1 ⟨rfl, hb1⟩; have d1 := (hb1.cell (p := ⟨g, t, none⟩) hg).trans d0; have hB1 := hb.out.below hb1; have f1 := frozen_of_row _ pb 0 _ _ hB1; have b1 := hB1.cell))
  go_ret
  refine ⟨rfl, ?_, ?_⟩
  · exact heap_setCell_same _ _ _ _ _ _ hB1
  · exact (Only.ofBelow hb1).setCell (.inl (by simp)) _
end Go.Proofs.Ythongbobopampaa.L10
