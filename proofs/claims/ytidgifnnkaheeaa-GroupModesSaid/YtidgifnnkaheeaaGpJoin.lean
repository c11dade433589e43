/-
  Contracts: Join; Beat.
-/
import Derived.Test.YtidgifnnkaheeaaGpSeat
import Derived.Deep.QuietTactic
import Derived.BigQuiet
namespace Go.Proofs.Ytidgifnnkaheeaa.L11
open Go.RowKit
open Go.Maps
open L3 L4 L9 L10

/-- what Join leaves -/
def JoinP (w : World) (g b N : Nat) (G : Int) (r : Bool) (Q : List Se) (s : Se) (rb : Bool) (x : Int) (e : Ending) (w' : World) : Prop :=
  e = .returned (.tuple #[.int .i64 (if x = 0 then G + 1 else 0), .int .i64 x]) ∧ Gp w' g b (N + 1) (joinG G x) (joinR r rb x) (joinQ Q s x) ∧ Only [g, b] w w'
theorem JoinP.no {w w' : World} {g b N : Nat} {G : Int} {r : Bool} {Q : List Se} {s : Se} {rb : Bool} {x : Int} (hx : x ≠ 0) (h : Gp w g b N G r Q) (hb : Below w.heap.size w w') : JoinP w g b N G r Q s rb x (.returned (.tuple #[.int .i64 0, .int .i64 x])) w' := by
  refine ⟨by rw [if_neg hx], ?_, Only.ofBelow hb⟩
  unfold joinG joinR joinQ
  rw [if_neg hx, if_neg hx, if_neg hx]
  exact (h.below hb).mono (Nat.le_succ N)
theorem JoinP.yes {w w2 : World} {g b N : Nat} {G : Int} {r : Bool} {Q : List Se} {s : Se} {rb : Bool} (h : Gp w2 g b (N + 1) G r (putS Q s)) (ho : Only [b] w w2) : JoinP w g b N G r Q s rb 0 (.returned (.tuple #[.int .i64 (G + 1), .int .i64 0])) ((w2.setCell ⟨g, 1, none⟩ (.bool rb)).setCell ⟨g, 0, none⟩ (.int .i64 (G + 1))) := by
  refine ⟨by rw [if_pos rfl], ?_, ((ho.mono (S' := [g, b]) (fun k hk => .inl (by simp at hk; simp [hk]))).setCell (.inl (by simp)) _).setCell (.inl (by simp)) _⟩
  unfold joinG joinR joinQ
  rw [if_pos rfl, if_pos rfl, if_pos rfl]
  exact (h.setRobin rb).setGen (G + 1)
set_option maxRecDepth 100000 in
set_option maxHeartbeats 4000000 in
theorem join_is {w : World} {g b N n c : Nat} {G : Int} {r : Bool} {Q : List Se} (s : Se) (a : ByteArray) (A : Option Addr) (tm sn x : Int) (rb : Bool) (h : Hid (Gp w g b N G r Q)) (GG : Hid (GoodG G Q)) (hN : N ≤ 1000000) (HS : Hid (s.m.name = a ∧ s.m.ts.length = n ∧ s.tm = tm ∧ s.sn = sn)) (hT : Hid (RowT w A c s.m.ts)) (hz : Hid (s.m.name.size ≤ 281474976710656 ∧ ∀ x ∈ s.m.ts, x.size ≤ 281474976710656)) (hn : n ≤ 1000000) (HX : Hid (joinE G r Q s rb = x)) :
    Calls Try.prog 24 #[.pointer (some ⟨g, 0, none⟩), .agg #[.string a, .slice A n c, .int .i64 tm, .int .i64 sn], .bool rb] w (JoinP w g b N G r Q s rb x) := by
  have HSZ : Hid (SeSz s) := Lib.hid ⟨by have := hz.out.1; unfold maxLen; omega, by have := HS.out.2.1; unfold maxLen; omega, fun x hx => by have := hz.out.2 x hx; unfold maxLen; omega⟩
  have HZA : Hid (a.size ≤ maxLen) := Lib.hid (by rw [← HS.out.1]; exact HSZ.out.1)
  obtain ⟨v, hv⟩ : ∃ v, mayS s = v := ⟨_, rfl⟩
  have HV := Lib.hid hv
  obtain ⟨m, hm⟩ : ∃ m, Q.length = m := ⟨_, rfl⟩
  have HM := Lib.hid hm
  obtain ⟨hs, hhs⟩ : ∃ v, hasS Q s.m.name = v := ⟨_, rfl⟩
  have HHS : Hid (hasS Q a = hs) := Lib.hid (by rw [← HS.out.1]; exact hhs)
  have hx := HX.out
  unfold joinE fullB at hx
  rw [hv, hm, hhs] at hx
  obtain ⟨⟨b0, b1, b2, b3⟩, hb⟩ := box_se (w := w) (a := a) (A := A) (n := n) (c := c) (t := tm) (e := sn)
  obtain ⟨W, hW⟩ : ∃ W, w.alloc (.cells #[.string a, .slice A n c, .int .i64 tm, .int .i64 sn] 47) = W := ⟨_, rfl⟩
  rw [hW] at b0 b1 b2 b3 hb
  have HB := Lib.hid hb
  have HW := Lib.hid hW
  have BB := Lib.hid (And.intro b0 (And.intro b1 (And.intro b2 b3)))
  have hg := h.out.c0
  have hr := h.out.c1
  clear hb hW hhs hm hv
  cases v with
  | false =>
    rw [if_pos rfl] at hx
    subst hx
    clear hg hr
    go_enter Try.func24, Try.ntmps24
    go_wp2_with (first
      | (rw [HW.out])
      | (go_at_call 47; refine (fits_is s a A n c tm sn false _ HS (Lib.hid (hT.out.below HB.out).row) HSZ HV).mono ?_; rintro e w1 ⟨rfl, hb1⟩))
    go_ret2
    exact JoinP.no (by decide) h.out (HB.out.trans (hb1.mono HB.out.size))
  | true =>
    by_cases h0 : 0 < m
    · have q0 : (0 : Int) < (m : Int) := by omega
      by_cases hrr : rb = r
      · have qr : (rb == r) = true := by simpa using hrr
        have qs : (rb != r) = false := by simpa using hrr
        by_cases h8 : 8 ≤ m
        · have q8 : (8 : Int) ≤ (m : Int) := by omega
          cases hs
          · obtain rfl : 2 = x := by rw [← hx]; simp [h0, hrr, h8]
            clear hx hrr
            go_enter Try.func24, Try.ntmps24
            go_wp2_with (first
                | (rw [HW.out])
                | (go_at_call 47; refine (fits_is s a A n c tm sn true _ HS (Lib.hid (hT.out.below HB.out).row) HSZ HV).mono ?_; rintro e w1 ⟨rfl, hb1⟩; obtain ⟨x0, x1, x2, x3⟩ := below4 hb1 BB.out; have HB1 : Hid (Below w.heap.size w w1) := Lib.hid (HB.out.trans (hb1.mono HB.out.size)); have H1 := Lib.hid (h.out.below HB1.out); have c0 := H1.out.c0; have c1 := H1.out.c1; have c2 := H1.out.c2; obtain ⟨D, ho, hd⟩ := H1.out.map; have HO := Lib.hid ho; have HSI : Hid (Maps.size D = m) := Lib.hid ((hd.size GG.out.rise ho).trans HM.out); clear hb1 ho hd)
                | (at_len; refine wpList_len_own _ rfl _ 86 rfl 9 47 Try.underlying86 _ b N D rfl HO.out ?_; rw [HSI.out])
                | (go_at_call 48; refine (there_is a _ H1 HZA HHS).mono ?_; rintro e w2 ⟨rfl, hb2⟩; obtain ⟨y0, y1, y2, y3⟩ := below4 hb2 ⟨x0, x1, x2, x3⟩; have HB2 : Hid (Below w.heap.size w w2) := Lib.hid (HB1.out.trans (hb2.mono HB1.out.size)); have H2 := Lib.hid (h.out.below HB2.out); have d0 := H2.out.c0; clear hb2))
            go_ret2
            exact JoinP.no (by decide) h.out HB2.out
          · by_cases hG : G = 1099511627776
            · have g1 : (G == 1099511627776) = true := by simpa using hG
              obtain rfl : 2 = x := by rw [← hx]; simp [h0, hrr, h8, hG]
              clear hx hrr hG
              go_enter Try.func24, Try.ntmps24
              go_wp2_with (first
                  | (rw [HW.out])
                  | (go_at_call 47; refine (fits_is s a A n c tm sn true _ HS (Lib.hid (hT.out.below HB.out).row) HSZ HV).mono ?_; rintro e w1 ⟨rfl, hb1⟩; obtain ⟨x0, x1, x2, x3⟩ := below4 hb1 BB.out; have HB1 : Hid (Below w.heap.size w w1) := Lib.hid (HB.out.trans (hb1.mono HB.out.size)); have H1 := Lib.hid (h.out.below HB1.out); have c0 := H1.out.c0; have c1 := H1.out.c1; have c2 := H1.out.c2; obtain ⟨D, ho, hd⟩ := H1.out.map; have HO := Lib.hid ho; have HSI : Hid (Maps.size D = m) := Lib.hid ((hd.size GG.out.rise ho).trans HM.out); clear hb1 ho hd)
                  | (at_len; refine wpList_len_own _ rfl _ 86 rfl 9 47 Try.underlying86 _ b N D rfl HO.out ?_; rw [HSI.out])
                  | (go_at_call 48; refine (there_is a _ H1 HZA HHS).mono ?_; rintro e w2 ⟨rfl, hb2⟩; obtain ⟨y0, y1, y2, y3⟩ := below4 hb2 ⟨x0, x1, x2, x3⟩; have HB2 : Hid (Below w.heap.size w w2) := Lib.hid (HB1.out.trans (hb2.mono HB1.out.size)); have H2 := Lib.hid (h.out.below HB2.out); have d0 := H2.out.c0; clear hb2))
              go_ret2
              exact JoinP.no (by decide) h.out HB2.out
            · have g1 : (G == 1099511627776) = false := by simpa using hG
              have g2 : wrap64 (G + 1) = G + 1 := by have := GG.out.gen; simp only [wrap64]; omega
              obtain rfl : 0 = x := by rw [← hx]; simp [h0, hrr, h8, hG]
              clear hx hrr hG
              go_enter Try.func24, Try.ntmps24
              go_wp2_with (first
                  | (rw [HW.out])
                  | (go_at_call 47; refine (fits_is s a A n c tm sn true _ HS (Lib.hid (hT.out.below HB.out).row) HSZ HV).mono ?_; rintro e w1 ⟨rfl, hb1⟩; obtain ⟨x0, x1, x2, x3⟩ := below4 hb1 BB.out; have HB1 : Hid (Below w.heap.size w w1) := Lib.hid (HB.out.trans (hb1.mono HB.out.size)); have H1 := Lib.hid (h.out.below HB1.out); have c0 := H1.out.c0; have c1 := H1.out.c1; have c2 := H1.out.c2; obtain ⟨D, ho, hd⟩ := H1.out.map; have HO := Lib.hid ho; have HSI : Hid (Maps.size D = m) := Lib.hid ((hd.size GG.out.rise ho).trans HM.out); clear hb1 ho hd)
                  | (at_len; refine wpList_len_own _ rfl _ 86 rfl 9 47 Try.underlying86 _ b N D rfl HO.out ?_; rw [HSI.out])
                  | (go_at_call 48; refine (there_is a _ H1 HZA HHS).mono ?_; rintro e w2 ⟨rfl, hb2⟩; obtain ⟨y0, y1, y2, y3⟩ := below4 hb2 ⟨x0, x1, x2, x3⟩; have HB2 : Hid (Below w.heap.size w w2) := Lib.hid (HB1.out.trans (hb2.mono HB1.out.size)); have H2 := Lib.hid (h.out.below HB2.out); have d0 := H2.out.c0; clear hb2)
                  | (go_at_call 49; refine (seat_is s a A tm sn H2 hN HS (Lib.hid (hT.out.below HB2.out)) hz hn).mono ?_; rintro e w3 ⟨rfl, hg3, ho3⟩; have f0 := hg3.froz 0; have f1 := hg3.froz 1; have e0 := hg3.c0; have e1 := hg3.c1; obtain ⟨W4, hW4⟩ : ∃ W4, w3.setCell ⟨g, 1, none⟩ (.bool rb) = W4 := ⟨_, rfl⟩; have hg4 : Gp W4 g b (N + 1) G rb (putS Q s) := hW4 ▸ hg3.setRobin rb; have f2 := hg4.froz 0; have e2 := hg4.c0; obtain ⟨W5, hW5⟩ : ∃ W5, W4.setCell ⟨g, 0, none⟩ (.int .i64 (G + 1)) = W5 := ⟨_, rfl⟩; have hg5 : Gp W5 g b (N + 1) (G + 1) rb (putS Q s) := hW5 ▸ hg4.setGen (G + 1); have e3 := hg5.c0; have HE : Hid (JoinP w g b N G r Q s rb 0 (.returned (.tuple #[.int .i64 (G + 1), .int .i64 0])) W5) := Lib.hid (by have q := JoinP.yes (w := w) (r := r) (rb := rb) hg3 ((Only.ofBelow HB2.out).trans ho3 (fun k hk => .inl hk)); rw [hW4, hW5] at q; exact q); clear hg3 ho3 hg4 hg5))
              go_ret2
              exact HE.out
        · have q8 : ¬ (8 : Int) ≤ (m : Int) := by omega
          have q7 : (m : Int) < 8 := by omega
          by_cases hG : G = 1099511627776
          · have g1 : (G == 1099511627776) = true := by simpa using hG
            obtain rfl : 2 = x := by rw [← hx]; simp [h0, hrr, h8, hG]
            clear hx hrr hG
            go_enter Try.func24, Try.ntmps24
            go_wp2_with (first
                | (rw [HW.out])
                | (go_at_call 47; refine (fits_is s a A n c tm sn true _ HS (Lib.hid (hT.out.below HB.out).row) HSZ HV).mono ?_; rintro e w1 ⟨rfl, hb1⟩; obtain ⟨x0, x1, x2, x3⟩ := below4 hb1 BB.out; have HB1 : Hid (Below w.heap.size w w1) := Lib.hid (HB.out.trans (hb1.mono HB.out.size)); have H1 := Lib.hid (h.out.below HB1.out); have c0 := H1.out.c0; have c1 := H1.out.c1; have c2 := H1.out.c2; obtain ⟨D, ho, hd⟩ := H1.out.map; have HO := Lib.hid ho; have HSI : Hid (Maps.size D = m) := Lib.hid ((hd.size GG.out.rise ho).trans HM.out); clear hb1 ho hd)
                | (at_len; refine wpList_len_own _ rfl _ 86 rfl 9 47 Try.underlying86 _ b N D rfl HO.out ?_; rw [HSI.out]))
            go_ret2
            exact JoinP.no (by decide) h.out HB1.out
          · have g1 : (G == 1099511627776) = false := by simpa using hG
            have g2 : wrap64 (G + 1) = G + 1 := by have := GG.out.gen; simp only [wrap64]; omega
            obtain rfl : 0 = x := by rw [← hx]; simp [h0, hrr, h8, hG]
            clear hx hrr hG
            go_enter Try.func24, Try.ntmps24
            go_wp2_with (first
                | (rw [HW.out])
                | (go_at_call 47; refine (fits_is s a A n c tm sn true _ HS (Lib.hid (hT.out.below HB.out).row) HSZ HV).mono ?_; rintro e w1 ⟨rfl, hb1⟩; obtain ⟨x0, x1, x2, x3⟩ := below4 hb1 BB.out; have HB1 : Hid (Below w.heap.size w w1) := Lib.hid (HB.out.trans (hb1.mono HB.out.size)); have H1 := Lib.hid (h.out.below HB1.out); have c0 := H1.out.c0; have c1 := H1.out.c1; have c2 := H1.out.c2; obtain ⟨D, ho, hd⟩ := H1.out.map; have HO := Lib.hid ho; have HSI : Hid (Maps.size D = m) := Lib.hid ((hd.size GG.out.rise ho).trans HM.out); clear hb1 ho hd)
                | (at_len; refine wpList_len_own _ rfl _ 86 rfl 9 47 Try.underlying86 _ b N D rfl HO.out ?_; rw [HSI.out])
                | (go_at_call 49; refine (seat_is s a A tm sn H1 hN HS (Lib.hid (hT.out.below HB1.out)) hz hn).mono ?_; rintro e w3 ⟨rfl, hg3, ho3⟩; have f0 := hg3.froz 0; have f1 := hg3.froz 1; have e0 := hg3.c0; have e1 := hg3.c1; obtain ⟨W4, hW4⟩ : ∃ W4, w3.setCell ⟨g, 1, none⟩ (.bool rb) = W4 := ⟨_, rfl⟩; have hg4 : Gp W4 g b (N + 1) G rb (putS Q s) := hW4 ▸ hg3.setRobin rb; have f2 := hg4.froz 0; have e2 := hg4.c0; obtain ⟨W5, hW5⟩ : ∃ W5, W4.setCell ⟨g, 0, none⟩ (.int .i64 (G + 1)) = W5 := ⟨_, rfl⟩; have hg5 : Gp W5 g b (N + 1) (G + 1) rb (putS Q s) := hW5 ▸ hg4.setGen (G + 1); have e3 := hg5.c0; have HE : Hid (JoinP w g b N G r Q s rb 0 (.returned (.tuple #[.int .i64 (G + 1), .int .i64 0])) W5) := Lib.hid (by have q := JoinP.yes (w := w) (r := r) (rb := rb) hg3 ((Only.ofBelow HB1.out).trans ho3 (fun k hk => .inl hk)); rw [hW4, hW5] at q; exact q); clear hg3 ho3 hg4 hg5))
            go_ret2
            exact HE.out
      · have qr : (rb == r) = false := by simpa using hrr
        have qs : (rb != r) = true := by simpa using hrr
        obtain rfl : 112 = x := by rw [← hx]; simp [h0, hrr]
        clear hx hrr
        go_enter Try.func24, Try.ntmps24
        go_wp2_with (first
            | (rw [HW.out])
            | (go_at_call 47; refine (fits_is s a A n c tm sn true _ HS (Lib.hid (hT.out.below HB.out).row) HSZ HV).mono ?_; rintro e w1 ⟨rfl, hb1⟩; obtain ⟨x0, x1, x2, x3⟩ := below4 hb1 BB.out; have HB1 : Hid (Below w.heap.size w w1) := Lib.hid (HB.out.trans (hb1.mono HB.out.size)); have H1 := Lib.hid (h.out.below HB1.out); have c0 := H1.out.c0; have c1 := H1.out.c1; have c2 := H1.out.c2; obtain ⟨D, ho, hd⟩ := H1.out.map; have HO := Lib.hid ho; have HSI : Hid (Maps.size D = m) := Lib.hid ((hd.size GG.out.rise ho).trans HM.out); clear hb1 ho hd)
            | (at_len; refine wpList_len_own _ rfl _ 86 rfl 9 47 Try.underlying86 _ b N D rfl HO.out ?_; rw [HSI.out]))
        go_ret2
        exact JoinP.no (by decide) h.out HB1.out
    · have q0 : ¬ (0 : Int) < (m : Int) := by omega
      have hm0 : m = 0 := by omega
      have h8 : ¬ 8 ≤ m := by omega
      have q8 : ¬ (8 : Int) ≤ (m : Int) := by omega
      have q7 : (m : Int) < 8 := by omega
      by_cases hG : G = 1099511627776
      · have g1 : (G == 1099511627776) = true := by simpa using hG
        obtain rfl : 2 = x := by rw [← hx]; simp [h0, h8, hG]
        clear hx hG
        go_enter Try.func24, Try.ntmps24
        go_wp2_with (first
            | (rw [HW.out])
            | (go_at_call 47; refine (fits_is s a A n c tm sn true _ HS (Lib.hid (hT.out.below HB.out).row) HSZ HV).mono ?_; rintro e w1 ⟨rfl, hb1⟩; obtain ⟨x0, x1, x2, x3⟩ := below4 hb1 BB.out; have HB1 : Hid (Below w.heap.size w w1) := Lib.hid (HB.out.trans (hb1.mono HB.out.size)); have H1 := Lib.hid (h.out.below HB1.out); have c0 := H1.out.c0; have c1 := H1.out.c1; have c2 := H1.out.c2; obtain ⟨D, ho, hd⟩ := H1.out.map; have HO := Lib.hid ho; have HSI : Hid (Maps.size D = m) := Lib.hid ((hd.size GG.out.rise ho).trans HM.out); clear hb1 ho hd)
            | (at_len; refine wpList_len_own _ rfl _ 86 rfl 9 47 Try.underlying86 _ b N D rfl HO.out ?_; rw [HSI.out]))
        go_ret2
        exact JoinP.no (by decide) h.out HB1.out
      · have g1 : (G == 1099511627776) = false := by simpa using hG
        have g2 : wrap64 (G + 1) = G + 1 := by have := GG.out.gen; simp only [wrap64]; omega
        obtain rfl : 0 = x := by rw [← hx]; simp [h0, h8, hG]
        clear hx hG
        go_enter Try.func24, Try.ntmps24
        go_wp2_with (first
            | (rw [HW.out])
            | (go_at_call 47; refine (fits_is s a A n c tm sn true _ HS (Lib.hid (hT.out.below HB.out).row) HSZ HV).mono ?_; rintro e w1 ⟨rfl, hb1⟩; obtain ⟨x0, x1, x2, x3⟩ := below4 hb1 BB.out; have HB1 : Hid (Below w.heap.size w w1) := Lib.hid (HB.out.trans (hb1.mono HB.out.size)); have H1 := Lib.hid (h.out.below HB1.out); have c0 := H1.out.c0; have c1 := H1.out.c1; have c2 := H1.out.c2; obtain ⟨D, ho, hd⟩ := H1.out.map; have HO := Lib.hid ho; have HSI : Hid (Maps.size D = m) := Lib.hid ((hd.size GG.out.rise ho).trans HM.out); clear hb1 ho hd)
            | (at_len; refine wpList_len_own _ rfl _ 86 rfl 9 47 Try.underlying86 _ b N D rfl HO.out ?_; rw [HSI.out])
            | (go_at_call 49; refine (seat_is s a A tm sn H1 hN HS (Lib.hid (hT.out.below HB1.out)) hz hn).mono ?_; rintro e w3 ⟨rfl, hg3, ho3⟩; have f0 := hg3.froz 0; have f1 := hg3.froz 1; have e0 := hg3.c0; have e1 := hg3.c1; obtain ⟨W4, hW4⟩ : ∃ W4, w3.setCell ⟨g, 1, none⟩ (.bool rb) = W4 := ⟨_, rfl⟩; have hg4 : Gp W4 g b (N + 1) G rb (putS Q s) := hW4 ▸ hg3.setRobin rb; have f2 := hg4.froz 0; have e2 := hg4.c0; obtain ⟨W5, hW5⟩ : ∃ W5, W4.setCell ⟨g, 0, none⟩ (.int .i64 (G + 1)) = W5 := ⟨_, rfl⟩; have hg5 : Gp W5 g b (N + 1) (G + 1) rb (putS Q s) := hW5 ▸ hg4.setGen (G + 1); have e3 := hg5.c0; have HE : Hid (JoinP w g b N G r Q s rb 0 (.returned (.tuple #[.int .i64 (G + 1), .int .i64 0])) W5) := Lib.hid (by have q := JoinP.yes (w := w) (r := r) (rb := rb) hg3 ((Only.ofBelow HB1.out).trans ho3 (fun k hk => .inl hk)); rw [hW4, hW5] at q; exact q); clear hg3 ho3 hg4 hg5))
        go_ret2
        exact HE.out
end Go.Proofs.Ytidgifnnkaheeaa.L11
