/-
  Contracts: Load, whatever comes in; Copy.
-/
import Derived.Test.YtcmlopflandlgaaDdLoad2
namespace Go.Proofs.Ytcmlopflandlgaa.L8
open Go.RowKit
open Go.Maps
open L3 L4

theorem load_is {w : World} (A X : Option Addr) (n cap m xc : Nat) (es : List Int) (vs : List MV) (x : Int) (hn1 : n ≤ maxLen) (hes : Hid (es.length = n)) (HE : Hid (ReadsN w A es)) (hA : A = none → cap = 0)
    (hm : Hid (vs.length = m)) (hm1 : m ≤ 100000) (HX : Hid (ReadsM w X vs)) (HR : Hid (RowsIn w vs)) (HT : Hid (Texts (vs.map (·.m)))) (HL : Hid (∀ v ∈ vs, v.m.l.length ≤ 1000000)) (HC : Hid (loadE es (vs.map (·.m)) = x)) :
    Calls Try.prog 19 #[.slice A n cap, .slice X m xc] w (LoadP w x es (vs.map (·.m))) := by
  have hx := HC.out
  rw [load_cases, hes.out] at hx
  by_cases h1 : 32 < n
  · rw [if_pos h1] at hx
    subst hx
    exact (load_big A X n cap m xc w h1 hn1).mono fun e w' ⟨h2, h3⟩ => ⟨h3 ▸ Below.refl _ _, .inl ⟨by decide, h2⟩⟩
  · rw [if_neg h1] at hx
    cases h2 : es.all numB8 with
    | false =>
      rw [h2, Bool.false_and, if_neg (by simp)] at hx
      subst hx
      exact (load_num A X n cap m xc es w (by omega) hes HE (Lib.hid h2)).mono fun e w' ⟨h2, h3⟩ => ⟨h3 ▸ Below.refl _ _, .inl ⟨by decide, h2⟩⟩
    | true =>
      rw [h2, Bool.true_and] at hx
      have h := load_run A X n cap m xc es vs _ (by omega) hes HE hA (Lib.hid h2) hm hm1 HX HR HT HL (Lib.hid rfl)
      rw [hx] at h
      exact h
theorem tab_clone {w : World} {b N : Nat} {ms : List Mk} (h : IsTab w b N ms) : ∃ es c, w.heap[b]? = some (.map es c) ∧ IsTab (w.alloc (.map es c)) w.heap.size N ms := by
  obtain ⟨D, ⟨es, c, h1, h2⟩, hh, hr⟩ := h
  refine ⟨es, c, h1, D, ⟨es, c, (MapKept.heap_alloc w _).1, h2⟩, hh, fun m hm => ?_⟩
  obtain ⟨A, c', ha, hR⟩ := hr m hm
  exact ⟨A, c', ha, hR.below (one_box' _)⟩
/-- a map cloned -/
theorem clone_map {w : World} {b N : Nat} {ms : List Mk} (h : Hid (IsTab w b N ms)) :
    Calls Try.prog 36 #[.map (some b)] w fun e w' => ∃ b', e = .returned (.map (some b')) ∧ IsTab w' b' N ms ∧ w.heap.size ≤ b' ∧ Below w.heap.size w w' := by
  obtain ⟨es, c, h1, h2⟩ := tab_clone h.out
  have hc := AnyW.maps_Clone Try.cloneMap b es c w h1
  change Calls Try.prog 36 _ _ _ at hc
  exact hc.mono fun e w' ⟨he, hw⟩ => ⟨_, he, by rw [hw]; exact h2, Nat.le_refl _, by rw [hw]; exact one_box' _⟩
theorem keep2c {W w1 w2 : World} {a1 a2 : Addr} {v1 v2 : Value} (h : (w1.cell? a1 = some v1 ∧ w1.cell? a2 = some v2) ∧ Below W.heap.size W w1) (hb : Below w1.heap.size w1 w2) : (w2.cell? a1 = some v1 ∧ w2.cell? a2 = some v2) ∧ Below W.heap.size W w2 :=
  ⟨⟨cell_at hb h.1.1, cell_at hb h.1.2⟩, h.2.trans (hb.mono h.2.size)⟩
theorem copied_tab {w w1 w2 : World} {A1 : Option Addr} {n c1 b' N : Nat} {es : List Int} {ms : List Mk} (hn : es.length = n) (ho : w1.ownsRow w.heap.size 3 1 (.slice A1 n c1) n (rowN es)) (hb : Below w.heap.size w w1) (hb2 : Below w1.heap.size w1 w2) (hm : IsTab w2 b' N ms) (hbb : w.heap.size ≤ b') :
    TabM w.heap.size (w2.alloc (.cells #[.slice A1 n c1, .map (some b')] 65)) w2.heap.size N es ms ∧ Below w.heap.size w (w2.alloc (.cells #[.slice A1 n c1, .map (some b')] 65)) := by
  subst hn
  have b2 := one_box' (w := w2) (.cells #[.slice A1 es.length c1, .map (some b')] 65)
  have h02 : Below w.heap.size w w2 := hb.trans (hb2.mono hb.size)
  refine ⟨⟨A1, c1, b', ⟨heap_alloc_new _ _, own_below (own_base (own_below ho hb2) (Nat.zero_le _)) b2, hm.below b2⟩, fun k hk => ?_⟩, h02.trans (b2.mono h02.size)⟩
  rcases List.mem_cons.1 hk with rfl | hk
  · exact h02.size
  · rcases List.mem_cons.1 hk with rfl | hk
    · exact hbb
    · obtain ⟨_, q, _⟩ := own_bk ho k hk; exact q
set_option maxRecDepth 100000 in
set_option maxHeartbeats 4000000 in
theorem copy_is {w : World} {g cap b N : Nat} {A : Option Addr} {es : List Int} {ms : List Mk} (n : Nat) (h : Hid (Tab w g A cap b N es ms)) (hn : es.length = n) (hl : n ≤ 1000000) :
    Calls Try.prog 15 #[.pointer (some ⟨g, 0, none⟩)] w fun e w' => ∃ g', e = .returned (.pointer (some ⟨g', 0, none⟩)) ∧ TabM w.heap.size w' g' N es ms ∧ Below w.heap.size w w' := by
  have c0 := h.out.c0
  have c1 := h.out.c1
  have HO := Lib.hid h.out.own
  rw [hn] at c0 HO
  have HN := Lib.hid hn
  have hB := Below.refl w.heap.size w
  clear hn
  go_enter Try.func15, Try.ntmps15
  go_wp2_with fail
  go_region_held3 (fun w' => (w'.cell? ⟨g, 0, none⟩ = some (.slice A n cap) ∧ w'.cell? ⟨g, 1, none⟩ = some (.map (some b))) ∧ Below w.heap.size w w')
    (first | assumption | exact ⟨⟨c0, c1⟩, hB⟩ | exact ⟨⟨c0, c1⟩, hB.drew⟩ | exact keep2c (by assumption) ((Below.refl _ _).drew) | exact keep2c (by assumption) (by assumption) | exact keep2c (by assumption) (one_box' _) | exact keep2c (by assumption) ((one_box' _).drew))
    (first
      | (go_at_call 35; refine (cloneN_is A n cap (rowN es) _ (own_none HO.out) (Lib.hid (by rw [rowN_len, HN.out, Nat.mul_one])) hl (Lib.hid (rowN_one es)) (Lib.hid ((Src.own HO.out).below (by first | exact hB | exact hB.drew | exact hB.drew.drew)))).mono ?_; rintro e w1 ⟨A1, c1', rfl, ho1, hb1⟩)
      | (go_at_call 36; refine (clone_map (Lib.hid (h.out.map.below (by first | exact (hB.drew.trans (hb1.mono hB.drew.size)) | exact (hB.trans (hb1.mono hB.size)))))).mono ?_; rintro e w2 ⟨b', rfl, hm2, hbb2, hb2⟩))
  all_goals
    have hb1' : Below w.heap.size w w1 := hB.drew.trans hb1
    obtain ⟨q1, q2⟩ := copied_tab (w := w) HN.out ho1 hb1' hb2 hm2 (Nat.le_trans hb1'.size hbb2)
    have Q1 := Lib.hid q1
    have Q2 := Lib.hid q2
    clear c0 c1 hB ho1 hb1 hm2 hbb2 hb2 hb1' q1 q2
    go_wp2_with fail
    go_ret
    exact ⟨_, rfl, Q1.out, Q2.out⟩
end Go.Proofs.Ytcmlopflandlgaa.L8
