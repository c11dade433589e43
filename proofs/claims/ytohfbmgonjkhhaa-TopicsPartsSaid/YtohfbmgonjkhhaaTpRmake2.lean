/-
  Contracts over the document's own functions: Make.
-/
import Derived.Test.YtohfbmgonjkhhaaTpRmake
namespace Go.Proofs.Ytohfbmgonjkhhaa.L9
open Go.RowKit
open Go.Maps
open L3 L4

set_option maxRecDepth 100000 in
set_option maxHeartbeats 4000000 in
theorem rmake_err {w : World} {B k cap m : Nat} {A : Option Addr} {Q : List Pt} (s : ByteArray) (n x : Int) (h : Hid (Doc w B k A cap Q)) (G : Hid (Good Q)) (hm : Q.length = m) (hs : s.size ≤ maxLen) (HX : Hid (makeE Q s n = x)) (h0 : x ≠ 0) :
    Calls Try.prog 11 #[.pointer (some ⟨k, 0, none⟩), .string s, .int .i64 n] w fun e w' => e = .returned (.int .i64 x) ∧ w' = w := by
  have hx := HX.out
  unfold makeE at hx
  have hl8 : m ≤ 8 := by rw [← hm]; exact G.out.len
  cases hmay : mayB s n with
  | false =>
    rw [hmay, if_pos rfl] at hx
    subst hx
    have HM := Lib.hid hmay
    clear hmay
    go_enter Try.func11, Try.ntmps11
    go_wp2_with (go_at_call 33; refine (rmay_is s n _ _ hs HM).mono ?_; rintro e w1 ⟨rfl, hw1⟩; obtain rfl := hw1.symm)
    go_ret
    exact ⟨rfl, rfl⟩
  | true =>
    rw [hmay, if_neg (by simp)] at hx
    have HM := Lib.hid hmay
    have HR : Hid (Rise Q) := Lib.hid G.out.rise
    cases hh : hasB Q s with
    | true =>
      rw [hh, if_pos rfl] at hx
      subst hx
      obtain ⟨i, y, hy, e⟩ := plP_some hh
      have HP : Hid (plP Q s (i : Int)) := Lib.hid (.inr ⟨i, y, rfl, hy, e⟩)
      have i0 : (0 : Int) ≤ (i : Int) := by omega
      clear hmay hh hy e
      go_enter Try.func11, Try.ntmps11
      go_wp2_with (first
        | (go_at_call 33; refine (rmay_is s n _ _ hs HM).mono ?_; rintro e w1 ⟨rfl, hw1⟩; obtain rfl := hw1.symm)
        | (go_at_call 34; refine (rplace_is s _ h hm (by omega) HR HP).mono ?_; rintro e w1 ⟨rfl, hw1⟩; obtain rfl := hw1.symm))
      go_ret
      exact ⟨rfl, rfl⟩
    | false =>
      rw [hh, if_neg (by simp), hm] at hx
      have HP : Hid (plP Q s (-1)) := Lib.hid (.inl ⟨rfl, hh⟩)
      by_cases h8 : 8 ≤ m
      · rw [if_pos h8] at hx
        subst hx
        have c0 := h.out.c0
        rw [hm] at c0
        have q1 : (8 : Int) ≤ (m : Int) := by omega
        clear hmay hh h8
        go_enter Try.func11, Try.ntmps11
        go_wp2_with (first
          | (go_at_call 33; refine (rmay_is s n _ _ hs HM).mono ?_; rintro e w1 ⟨rfl, hw1⟩; obtain rfl := hw1.symm)
          | (go_at_call 34; refine (rplace_is s _ h hm (by omega) HR HP).mono ?_; rintro e w1 ⟨rfl, hw1⟩; obtain rfl := hw1.symm))
        go_ret
        exact ⟨rfl, rfl⟩
      · rw [if_neg h8] at hx
        exact absurd hx.symm h0

set_option maxRecDepth 100000 in
set_option maxHeartbeats 4000000 in
theorem rmake_ok {w : World} {B k cap m : Nat} {A : Option Addr} {Q : List Pt} (s : ByteArray) (n : Int) (h : Hid (Doc w B k A cap Q)) (G : Hid (Good Q)) (hm : Q.length = m) (hB : Hid (B ≤ w.heap.size)) (hs : s.size ≤ maxLen) (HX : Hid (makeE Q s n = 0)) :
    Calls Try.prog 11 #[.pointer (some ⟨k, 0, none⟩), .string s, .int .i64 n] w fun e w' => e = .returned (.int .i64 0) ∧ Turned w B k A (insQ Q ⟨s, n⟩) w' := by
  have HDOC := h
  obtain ⟨hmay, hh, hl8⟩ := makeE_ok HX.out
  rw [hm] at hl8
  have HM := Lib.hid hmay
  have HR : Hid (Rise Q) := Lib.hid G.out.rise
  have HP : Hid (plP Q s (-1)) := Lib.hid (.inl ⟨rfl, hh⟩)
  have c0 := h.out.c0
  rw [hm] at c0
  have HLEN := Lib.hid hm
  have q1 : ¬ (8 : Int) ≤ (m : Int) := by omega
  have HRD := Lib.hid h.out.reads
  have HSRC := Lib.hid (doc_src h.out)
  have hcap : m ≤ cap := by rw [← hm]; exact doc_cap h.out
  have HNIL := Lib.hid (doc_nil h.out)
  have lk : k < w.heap.size := h.out.lt
  have f0 := h.out.froz
  have HT : Hid (∀ y ∈ Q, y.t.size ≤ maxLen) := Lib.hid (fun y hy => by have := (G.out.fit y hy).1; unfold maxLen; omega)
  obtain ⟨i0, hi0, hz0, hz1, hz2⟩ := info_parts topInfo'
  clear hmay hh
  go_enter Try.func11, Try.ntmps11
  go_wp2_with (first
    | (go_at_call 33; refine (rmay_is s n _ _ hs HM).mono ?_; rintro e w1 ⟨rfl, hw1⟩; obtain rfl := hw1.symm)
    | (go_at_call 34; refine (rplace_is s _ h hm (by omega) HR HP).mono ?_; rintro e w1 ⟨rfl, hw1⟩; obtain rfl := hw1.symm))
  go_loopw [7] (fun p wr => ∃ j : Nat, j ≤ m ∧ p = .int .i64 j ∧ Hid (∀ i < j, ∀ y, Q[i]? = some y → lessB y.t s = true) ∧ Below w.heap.size w wr) (fun p _ => m - (intOf p).toNat)
  case atStart => exact ⟨0, Nat.zero_le _, rfl, Lib.hid (fun i hi => absurd hi (by omega)), Below.refl _ _⟩
  case round =>
    obtain ⟨j, hj, rfl, hall, hbel⟩ := hrel
    have c0r := (hbel.cell (p := ⟨k, 0, none⟩) lk).trans c0
    have f0r := (hbel.frozen (p := ⟨k, 0, none⟩) lk).trans f0
    have hw := hbel.size
    by_cases hlt : j < m
    · obtain ⟨ga, rfl, hga, hcells⟩ := HRD.out (by rw [HLEN.out]; omega)
      obtain ⟨⟨st, sn⟩, hst⟩ : ∃ st, Q[j]? = some st := ⟨Q[j]'(by rw [HLEN.out]; exact hlt), List.getElem?_eq_getElem _⟩
      obtain ⟨e0, _⟩ := hcells j _ hst
      have d0 := (hbel.cell (p := ⟨ga, j * 2, none⟩) hga).trans e0
      dsimp only at d0
      have k0 : (0 : Int) ≤ (j : Int) := by omega
      have k1 : (j : Int) < (m : Int) := by omega
      have HST := Lib.hid hst
      have HZ : Hid (st.size ≤ maxLen) := Lib.hid (HT.out _ (List.mem_of_getElem? hst))
      have HSN := Lib.hid (Nat.le_trans hbel.size (Nat.le_refl _))
      clear hcells hst e0
      cases hb : lessB st s with
      | true =>
        have HB := Lib.hid hb
        have HNX : Hid (∀ i < j + 1, ∀ y, Q[i]? = some y → lessB y.t s = true) := Lib.hid (fun i hi y hy => by
          by_cases e : i = j
          · subst e
            rw [HST.out] at hy
            injection hy with hy
            subst hy
            exact hb
          · exact hall.out i (by omega) y hy)
        clear hb
        go_wp2_with (go_at_call 29; refine (rless_is st s true _ HZ.out hs HB).mono ?_; rintro e w2 ⟨rfl, hb2⟩)
        go_roundw
        case rel => exact ⟨j + 1, by omega, by go_num, HNX, hbel.trans (hb2.mono hbel.size)⟩
        case measure => simp [intOf]; omega
      | false =>
        have HB := Lib.hid hb
        have hpl : plIns Q s = j := plIns_at (by rw [HLEN.out]; omega) hall.out (fun y hy => by rw [HST.out] at hy; injection hy with hy; subst hy; exact hb)
        have HPL : Hid (insQ Q ⟨s, n⟩ = Q.take j ++ ⟨s, n⟩ :: Q.drop j) := Lib.hid (by rw [ins_at]; dsimp only; rw [hpl])
        have hjc : j ≤ cap := by omega
        have HL1 : Hid ((rowP (Q.take j)).length = j * 2) := Lib.hid (by rw [rowP_len, List.length_take, HLEN.out]; omega)
        have HL3 : Hid ((rowP (Q.drop j)).length = (m - j) * 2) := Lib.hid (by rw [rowP_len, List.length_drop, HLEN.out])
        have HJQ : Hid (j ≤ Q.length) := Lib.hid (by rw [HLEN.out]; omega)
        have hjm : (j : Int) ≤ (m : Int) := by omega
        have hjc1 : (j : Int) ≤ (cap : Int) := by omega
        clear hb hpl
        go_wp2_with (first
          | (at_builtin; have _q := hown4; refine wpList_append_src (by rfl) _ _ 27 (by rfl) w.heap.size 46 i0 _ 2 24 Try.underlying27 hi0 hz0 hz1 hz2 rfl (by decide) (.slice A4 (j + 1) c4) (j + 1) _ (by rfl) hown4 (some ⟨ga, j * 2, none⟩) (m - j) (cap - j) (rowP (Q.drop j)) (by rfl) HL3.out (src_drop (HSRC.out.below hB4) j HJQ.out) (fun e => (by cases e)) (rowP_one _) (by unfold maxLen; omega) (by omega) (by omega) ?_; intro v5 w5 hown5 hgrow5; have hB5 : Below w.heap.size w w5 := hB4.grown hgrow5 (by omega) (fun q e => (hown4.lt q e).1); obtain ⟨A5, c5, rfl⟩ := own_len hown5; have c05 := (hB5.cell (p := ⟨k, 0, none⟩) lk).trans c0; have f05 := (hB5.frozen (p := ⟨k, 0, none⟩) lk).trans f0; clear c04 f04)
          | (at_builtin; have _q := hown3; refine wpList_append_own _ rfl _ _ 27 rfl w.heap.size 46 i0 _ 2 24 Try.underlying27 hi0 hz0 hz1 hz2 rfl (by decide) (.slice A3 j c3) j (rowP (Q.take j)) (by rfl) (hown3.alloc _) ⟨w3.heap.size, 0, none⟩ 1 1 [.string s, .int .i64 n] (by rfl) (by rfl) (World.news_of_block (cs := #[.string s, .int .i64 n]) (t := 46) (fr := (0, 0)) (heap_alloc_new w3 _)) (by simp [Value.oneCell']) (by unfold maxLen; omega) (by omega) (by simp; omega) ?_; intro v4 w4 hown4 hgrow4 _; have hB4 : Below w.heap.size w w4 := (hB3.alloc hw3 _).grown hgrow4 (by simp; omega) (fun q e => (hown3.lt q e).1); obtain ⟨A4, c4, rfl⟩ := own_len hown4; have hw4 := hB4.size; have lk4 : k < w4.heap.size := Nat.lt_of_lt_of_le lk hw4; have c04 := (hB4.cell (p := ⟨k, 0, none⟩) lk).trans c0; have f04 := (hB4.frozen (p := ⟨k, 0, none⟩) lk).trans f0; clear c03 f03)
          | (at_builtin; refine wpList_append_src (by rfl) _ _ 27 (by rfl) w.heap.size 46 i0 _ 2 24 Try.underlying27 hi0 hz0 hz1 hz2 rfl (by decide) _ 0 [] (by rfl) (World.ownsRow_made w2 #[] 0 hw2 (by unfold maxLen; omega) rfl) (some ⟨ga, 0, none⟩) j cap (rowP (Q.take j)) (by rfl) HL1.out (src_take (HSRC.out.below (hB2.alloc hw2 _)) j) (fun e => (by cases e)) (rowP_one _) (by unfold maxLen; omega) (by omega) (by simp; omega) ?_; intro v3 w3 hown3 hgrow3; rw [Nat.zero_add, List.nil_append] at hown3; have hB3 : Below w.heap.size w w3 := (hB2.alloc hw2 _).grown hgrow3 (by simp; omega) (fun q e => by simp [Value.ownBlock] at e; omega); obtain ⟨A3, c3, rfl⟩ := own_len hown3; have hw3 := hB3.size; have lk3 : k < w3.heap.size := Nat.lt_of_lt_of_le lk hw3; have c03 := (hB3.cell (p := ⟨k, 0, none⟩) lk).trans c0; have f03 := (hB3.frozen (p := ⟨k, 0, none⟩) lk).trans f0; clear c02 f02)
          | (go_at_call 29; refine (rless_is st s false _ HZ.out hs HB).mono ?_; rintro e w2 ⟨rfl, hb2⟩; have hB2 : Below w.heap.size w w2 := hbel.trans (hb2.mono hbel.size); have c02 := (hB2.cell (p := ⟨k, 0, none⟩) lk).trans c0; have f02 := (hB2.frozen (p := ⟨k, 0, none⟩) lk).trans f0; have hw2 := hB2.size; have lk2 : k < w2.heap.size := Nat.lt_of_lt_of_le lk hw2))
        all_goals
          go_ret
          refine ⟨rfl, ?_⟩
          rw [HPL.out]
          refine doc_store HDOC.out hB.out hB5 (n := j + 1 + (m - j)) ?_ (by rw [List.length_append, List.length_cons, List.length_take, List.length_drop, HLEN.out]; omega)
          have e : rowP (Q.take j ++ ⟨s, n⟩ :: Q.drop j) = rowP (Q.take j) ++ [.string s, .int .i64 n] ++ rowP (Q.drop j) := by rw [rowP_app, List.append_assoc]; rfl
          rw [e]
          exact hown5
    · have hjm' : j = m := by omega
      have hq : ¬ (j : Int) < (m : Int) := by omega
      have hpl : plIns Q s = j := plIns_at (by rw [HLEN.out]; omega) hall.out (fun y hy => by have := (List.getElem?_eq_some_iff.1 hy).1; rw [HLEN.out] at this; omega)
      have HPL : Hid (insQ Q ⟨s, n⟩ = Q.take j ++ ⟨s, n⟩ :: Q.drop j) := Lib.hid (by rw [ins_at]; dsimp only; rw [hpl])
      have HL1 : Hid ((rowP (Q.take j)).length = j * 2) := Lib.hid (by rw [rowP_len, List.length_take, HLEN.out]; omega)
      have HL3 : Hid ((rowP (Q.drop j)).length = (m - j) * 2) := Lib.hid (by rw [rowP_len, List.length_drop, HLEN.out])
      have HJQ : Hid (j ≤ Q.length) := Lib.hid (by rw [HLEN.out]; omega)
      have hjm : (j : Int) ≤ (m : Int) := by omega
      have hjc1 : (j : Int) ≤ (cap : Int) := by omega
      have hjc : j ≤ cap := by omega
      have k0 : (0 : Int) ≤ (j : Int) := by omega
      have HJM := Lib.hid hjm'
      obtain ⟨w2, hww⟩ : ∃ w2, w2 = wr := ⟨_, rfl⟩
      have hB2 : Below w.heap.size w w2 := by rw [hww]; exact hbel
      have c02 := (hB2.cell (p := ⟨k, 0, none⟩) lk).trans c0
      have f02 := (hB2.frozen (p := ⟨k, 0, none⟩) lk).trans f0
      have hw2 := hB2.size
      have lk2 : k < w2.heap.size := Nat.lt_of_lt_of_le lk hw2
      rw [← hww]
      clear hpl hww c0r f0r hw hbel hjm' hlt
      cases A with
      | none =>
        obtain ⟨hq0, hc0⟩ := HNIL.out rfl
        subst hq0
        subst hc0
        have hj0 : j = 0 := by omega
        subst hj0
        have hm0 : m = 0 := by omega
        subst hm0
        have HNJ : Hid ((none : Option Addr) = none → 0 = 0 ∧ 0 = 0) := Lib.hid (fun _ => ⟨rfl, rfl⟩)
        clear HL1 HL3 HJQ hm hcap
        go_wp2_with (first
          | (at_builtin; have _q := hown4; refine wpList_append_src (by rfl) _ _ 27 (by rfl) w.heap.size 46 i0 _ 2 24 Try.underlying27 hi0 hz0 hz1 hz2 rfl (by decide) (.slice A4 1 c4) 1 _ (by rfl) hown4 none 0 0 [] (by rfl) rfl ⟨fun _ => rfl, fun ad e => (by cases e)⟩ (fun _ => ⟨rfl, rfl⟩) (by simp) (by unfold maxLen; omega) (by omega) (by omega) ?_; intro v5 w5 hown5 hgrow5; rw [Nat.add_zero, List.append_nil] at hown5; have hB5 : Below w.heap.size w w5 := hB4.grown hgrow5 (by omega) (fun q e => (hown4.lt q e).1); obtain ⟨A5, c5, rfl⟩ := own_len hown5; have hw5 := hB5.size; have lk5 : k < w5.heap.size := Nat.lt_of_lt_of_le lk hw5; have c05 := (hB5.cell (p := ⟨k, 0, none⟩) lk).trans c0; have f05 := (hB5.frozen (p := ⟨k, 0, none⟩) lk).trans f0)
          | (at_builtin; have _q := hown3; refine wpList_append_own _ rfl _ _ 27 rfl w.heap.size 46 i0 _ 2 24 Try.underlying27 hi0 hz0 hz1 hz2 rfl (by decide) (.slice A3 0 c3) 0 [] (by rfl) (hown3.alloc _) ⟨w3.heap.size, 0, none⟩ 1 1 [.string s, .int .i64 n] (by rfl) (by rfl) (World.news_of_block (cs := #[.string s, .int .i64 n]) (t := 46) (fr := (0, 0)) (heap_alloc_new w3 _)) (by simp [Value.oneCell']) (by unfold maxLen; omega) (by omega) (by simp; omega) ?_; intro v4 w4 hown4 hgrow4 _; rw [Nat.zero_add, List.nil_append] at hown4; have hB4 : Below w.heap.size w w4 := (hB3.alloc hw3 _).grown hgrow4 (by simp; omega) (fun q e => (hown3.lt q e).1); obtain ⟨A4, c4, rfl⟩ := own_len hown4; have hw4 := hB4.size; have lk4 : k < w4.heap.size := Nat.lt_of_lt_of_le lk hw4; have c04 := (hB4.cell (p := ⟨k, 0, none⟩) lk).trans c0; have f04 := (hB4.frozen (p := ⟨k, 0, none⟩) lk).trans f0)
          | (at_builtin; refine wpList_append_src (by rfl) _ _ 27 (by rfl) w.heap.size 46 i0 _ 2 24 Try.underlying27 hi0 hz0 hz1 hz2 rfl (by decide) _ 0 [] (by rfl) (World.ownsRow_made w2 #[] 0 hw2 (by unfold maxLen; omega) rfl) none 0 0 [] (by rfl) rfl ⟨fun _ => rfl, fun ad e => (by cases e)⟩ (fun _ => ⟨rfl, rfl⟩) (by simp) (by unfold maxLen; omega) (by omega) (by simp; omega) ?_; intro v3 w3 hown3 hgrow3; rw [Nat.zero_add, List.nil_append] at hown3; have hB3 : Below w.heap.size w w3 := (hB2.alloc hw2 _).grown hgrow3 (by simp; omega) (fun q e => by simp [Value.ownBlock] at e; omega); obtain ⟨A3, c3, rfl⟩ := own_len hown3; have hw3 := hB3.size; have lk3 : k < w3.heap.size := Nat.lt_of_lt_of_le lk hw3; have c03 := (hB3.cell (p := ⟨k, 0, none⟩) lk).trans c0; have f03 := (hB3.frozen (p := ⟨k, 0, none⟩) lk).trans f0))
        all_goals
          go_ret
          refine ⟨rfl, ?_⟩
          refine doc_store HDOC.out hB.out hB5 (n := 1) ?_ rfl
          exact hown5
      | some ad =>
        obtain ⟨ga, rfl⟩ : ∃ ga, ad = ⟨ga, 0, none⟩ := by
          rcases h.out.own.2 with ⟨q, _⟩ | ⟨g, c', cur, q, _⟩
          · cases q
          · injection q with q; injection q with q; exact ⟨g, q⟩
        have HD0 : Hid (rowP (Q.drop j) = []) := Lib.hid (List.eq_nil_of_length_eq_zero (by rw [HL3.out]; have := HJM.out; omega))
        go_wp2_with (first
          | (at_builtin; have _q := hown4; refine wpList_append_src (by rfl) _ _ 27 (by rfl) w.heap.size 46 i0 _ 2 24 Try.underlying27 hi0 hz0 hz1 hz2 rfl (by decide) (.slice A4 (j + 1) c4) (j + 1) _ (by rfl) hown4 (if cap = j then some ⟨ga, 0, none⟩ else some ⟨ga, j * 2, none⟩) (m - j) (cap - j) (rowP (Q.drop j)) (by rfl) HL3.out (by rw [HD0.out]; exact ⟨fun _ => rfl, fun ad e j u hu => (by simp at hu)⟩) (fun e => absurd e (by split <;> simp)) (rowP_one _) (by unfold maxLen; omega) (by omega) (by omega) ?_; intro v5 w5 hown5 hgrow5; have hB5 : Below w.heap.size w w5 := hB4.grown hgrow5 (by omega) (fun q e => (hown4.lt q e).1); obtain ⟨A5, c5, rfl⟩ := own_len hown5; have c05 := (hB5.cell (p := ⟨k, 0, none⟩) lk).trans c0; have f05 := (hB5.frozen (p := ⟨k, 0, none⟩) lk).trans f0; clear c04 f04)
          | (at_builtin; have _q := hown3; refine wpList_append_own _ rfl _ _ 27 rfl w.heap.size 46 i0 _ 2 24 Try.underlying27 hi0 hz0 hz1 hz2 rfl (by decide) (.slice A3 j c3) j (rowP (Q.take j)) (by rfl) (hown3.alloc _) ⟨w3.heap.size, 0, none⟩ 1 1 [.string s, .int .i64 n] (by rfl) (by rfl) (World.news_of_block (cs := #[.string s, .int .i64 n]) (t := 46) (fr := (0, 0)) (heap_alloc_new w3 _)) (by simp [Value.oneCell']) (by unfold maxLen; omega) (by omega) (by simp; omega) ?_; intro v4 w4 hown4 hgrow4 _; have hB4 : Below w.heap.size w w4 := (hB3.alloc hw3 _).grown hgrow4 (by simp; omega) (fun q e => (hown3.lt q e).1); obtain ⟨A4, c4, rfl⟩ := own_len hown4; have hw4 := hB4.size; have lk4 : k < w4.heap.size := Nat.lt_of_lt_of_le lk hw4; have c04 := (hB4.cell (p := ⟨k, 0, none⟩) lk).trans c0; have f04 := (hB4.frozen (p := ⟨k, 0, none⟩) lk).trans f0; clear c03 f03)
          | (at_builtin; refine wpList_append_src (by rfl) _ _ 27 (by rfl) w.heap.size 46 i0 _ 2 24 Try.underlying27 hi0 hz0 hz1 hz2 rfl (by decide) _ 0 [] (by rfl) (World.ownsRow_made w2 #[] 0 hw2 (by unfold maxLen; omega) rfl) (some ⟨ga, 0, none⟩) j cap (rowP (Q.take j)) (by rfl) HL1.out (src_take (HSRC.out.below (hB2.alloc hw2 _)) j) (fun e => (by cases e)) (rowP_one _) (by unfold maxLen; omega) (by omega) (by simp; omega) ?_; intro v3 w3 hown3 hgrow3; rw [Nat.zero_add, List.nil_append] at hown3; have hB3 : Below w.heap.size w w3 := (hB2.alloc hw2 _).grown hgrow3 (by simp; omega) (fun q e => by simp [Value.ownBlock] at e; omega); obtain ⟨A3, c3, rfl⟩ := own_len hown3; have hw3 := hB3.size; have lk3 : k < w3.heap.size := Nat.lt_of_lt_of_le lk hw3; have c03 := (hB3.cell (p := ⟨k, 0, none⟩) lk).trans c0; have f03 := (hB3.frozen (p := ⟨k, 0, none⟩) lk).trans f0; clear c02 f02))
        all_goals
          go_ret
          refine ⟨rfl, ?_⟩
          rw [HPL.out]
          refine doc_store HDOC.out hB.out hB5 (n := j + 1 + (m - j)) ?_ (by rw [List.length_append, List.length_cons, List.length_take, List.length_drop, HLEN.out]; omega)
          have e : rowP (Q.take j ++ ⟨s, n⟩ :: Q.drop j) = rowP (Q.take j) ++ [.string s, .int .i64 n] ++ rowP (Q.drop j) := by rw [rowP_app, List.append_assoc]; rfl
          rw [e]
          exact hown5
end Go.Proofs.Ytohfbmgonjkhhaa.L9
