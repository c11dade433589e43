/-
  Contracts: Join; Beat.
-/
import Derived.Test.YtidgifnnkaheeaaGpSeat
import Derived.Deep.QuietTactic
import Derived.BigQuiet
namespace Go.Proofs.Ytidgifnnkaheeaa.L11
open Go.RowKit
open Go.Maps
open L3 L4 L9 L10

/-- what Join leaves -/
def JoinP (w : World) (g b N : Nat) (G : Int) (r : Bool) (Q : List Se) (s : Se) (rb : Bool) (x : Int) (e : Ending) (w' : World) : Prop :=
  e = .returned (.tuple #[.int .i64 (if x = 0 then G + 1 else 0), .int .i64 x]) ∧ Gp w' g b (N + 1) (joinG G x) (joinR r rb x) (joinQ Q s x) ∧ Only [g, b] w w'
theorem JoinP.no {w w' : World} {g b N : Nat} {G : Int} {r : Bool} {Q : List Se} {s : Se} {rb : Bool} {x : Int} (hx : x ≠ 0) (h : Gp w g b N G r Q) (hb : Below w.heap.size w w') : JoinP w g b N G r Q s rb x (.returned (.tuple #[.int .i64 0, .int .i64 x])) w' := by
  refine ⟨by rw [if_neg hx], ?_, Only.ofBelow hb⟩
  unfold joinG joinR joinQ
  rw [if_neg hx, if_neg hx, if_neg hx]
  exact (h.below hb).mono (Nat.le_succ N)
theorem JoinP.yes {w w2 : World} {g b N : Nat} {G : Int} {r : Bool} {Q : List Se} {s : Se} {rb : Bool} (h : Gp w2 g b (N + 1) G r (putS Q s)) (ho : Only [b] w w2) : JoinP w g b N G r Q s rb 0 (.returned (.tuple #[.int .i64 (G + 1), .int .i64 0])) ((w2.setCell ⟨g, 1, none⟩ (.bool rb)).setCell ⟨g, 0, none⟩ (.int .i64 (G + 1))) := by
  refine ⟨by rw [if_pos rfl], ?_, ((ho.mono (S' := [g, b]) (fun k hk => .inl (by simp at hk; simp [hk]))).setCell (.inl (by simp)) _).setCell (.inl (by simp)) _⟩
  unfold joinG joinR joinQ
  rw [if_pos rfl, if_pos rfl, if_pos rfl]
  exact (h.setRobin rb).setGen (G + 1)
set_option maxRecDepth 100000 in
set_option maxHeartbeats 4000000 in
theorem join_is {w : World} {g b N n c : Nat} {G : Int} {r : Bool} {Q : List Se} (s : Se) (a : ByteArray) (A : Option Addr) (tm sn x : Int) (rb : Bool) (h : Hid (Gp w g b N G r Q)) (GG : Hid (GoodG G Q)) (hN : N ≤ 1000000) (HS : Hid (s.m.name = a ∧ s.m.ts.length = n ∧ s.tm = tm ∧ s.sn = sn)) (hT : Hid (RowT w A c s.m.ts)) (hz : Hid (s.m.name.size ≤ 281474976710656 ∧ ∀ x ∈ s.m.ts, x.size ≤ 281474976710656)) (hn : n ≤ 1000000) (HX : Hid (joinE G r Q s rb = x)) :
    Calls Try.prog 24 #[.pointer (some ⟨g, 0, none⟩), .agg #[.string a, .slice A n c, .int .i64 tm, .int .i64 sn], .bool rb] w (JoinP w g b N G r Q s rb x) := by
  have HSZ : Hid (SeSz s) := Lib.hid ⟨by have := hz.out.1; unfold maxLen; omega, by have := HS.out.2.1; unfold maxLen; omega, fun x hx => by have := hz.out.2 x hx; unfold maxLen; omega⟩
  have HZA : Hid (a.size ≤ maxLen) := Lib.hid (by rw [← HS.out.1]; exact HSZ.out.1)
  obtain ⟨v, hv⟩ : ∃ v, mayS s = v := ⟨_, rfl⟩
  have HV := Lib.hid hv
  obtain ⟨m, hm⟩ : ∃ m, Q.length = m := ⟨_, rfl⟩
  have HM := Lib.hid hm
  obtain ⟨hs, hhs⟩ : ∃ v, hasS Q s.m.name = v := ⟨_, rfl⟩
  have HHS : Hid (hasS Q a = hs) := Lib.hid (by rw [← HS.out.1]; exact hhs)
  have hx := HX.out
  unfold joinE fullB at hx
  rw [hv, hm, hhs] at hx
  obtain ⟨⟨b0, b1, b2, b3⟩, hb⟩ := box_se (w := w) (a := a) (A := A) (n := n) (c := c) (t := tm) (e := sn)
  obtain ⟨W, hW⟩ : ∃ W, w.alloc (.cells #[.string a, .slice A n c, .int .i64 tm, .int .i64 sn] 47) = W := ⟨_, rfl⟩
  rw [hW] at b0 b1 b2 b3 hb
  have HB := Lib.hid hb
  have HW := Lib.hid hW
  have BB := Lib.hid (And.intro b0 (And.intro b1 (And.intro b2 b3)))
  have hg := h.out.c0
  have hr := h.out.c1
  clear hb hW hhs hm hv
  cases v with
  | false =>
    rw [if_pos rfl] at hx
    subst hx
    clear hg hr
    go_enter Try.func24, Try.ntmps24
    go_wp2_with (first
      | (rw [HW.out])
      | (go_at_call 47; refine (fits_is s a A n c tm sn false _ HS (Lib.hid (hT.out.below HB.out).row) HSZ HV).mono ?_; rintro e w1 ⟨rfl, hb1⟩))
    go_ret2
    exact JoinP.no (by decide) h.out (HB.out.trans (hb1.mono HB.out.size))
  | true =>
    by_cases h0 : 0 < m
    · have q0 : (0 : Int) < (m : Int) := by omega
      by_cases hrr : rb = r
      · have qr : (rb == r) = true := by simpa using hrr
        have qs : (rb != r) = false := by simpa using hrr
        by_cases h8 : 8 ≤ m
        · have q8 : (8 : Int) ≤ (m : Int) := by omega
          cases hs
          · obtain rfl : 2 = x := by rw [← hx]; simp [h0, hrr, h8]
            clear hx hrr
            go_enter Try.func24, Try.ntmps24
            go_wp2_with (first
                | (rw [HW.out])
                | (go_at_call 47; refine (fits_is s a A n c tm sn true _ HS (Lib.hid (hT.out.below HB.out).row) HSZ HV).mono ?_; rintro e w1 ⟨rfl, hb1⟩; obtain ⟨x0, x1, x2, x3⟩ := below4 hb1 BB.out; have HB1 : Hid (Below w.heap.size w w1) := Lib.hid (HB.out.trans (hb1.mono HB.out.size)); have H1 := Lib.hid (h.out.below HB1.out); have c0 := H1.out.c0; have c1 := H1.out.c1; have c2 := H1.out.c2; obtain ⟨D, ho, hd⟩ := H1.out.map; have HO := Lib.hid ho; have HSI : Hid (Maps.size D = m) := Lib.hid ((hd.size GG.out.rise ho).trans HM.out); clear hb1 ho hd)
                | (at_len; refine wpList_len_own _ rfl _ 86 rfl 9 47 Try.underlying86 _ b N D rfl HO.out ?_; rw [HSI.out])
                | (go_at_call 48; refine (there_is a _ H1 HZA HHS).mono ?_; rintro e w2 ⟨rfl, hb2⟩; obtain ⟨y0, y1, y2, y3⟩ := below4 hb2 ⟨x0, x1, x2, x3⟩; have HB2 : Hid (Below w.heap.size w w2) := Lib.hid (HB1.out.trans (hb2.mono HB1.out.size)); have H2 := Lib.hid (h.out.below HB2.out); have d0 := H2.out.c0; clear hb2))
            go_ret2
            exact JoinP.no (by decide) h.out HB2.out
          · by_cases hG : G = 1099511627776
            · have g1 : (G == 1099511627776) = true := by simpa using hG
              obtain rfl : 2 = x := by rw [← hx]; simp [h0, hrr, h8, hG]
              clear hx hrr hG
              go_enter Try.func24, Try.ntmps24
              go_wp2_with (first
                  | (rw [HW.out])
                  | (go_at_call 47; refine (fits_is s a A n c tm sn true _ HS (Lib.hid (hT.out.below HB.out).row) HSZ HV).mono ?_; rintro e w1 ⟨rfl, hb1⟩; obtain ⟨x0, x1, x2, x3⟩ := below4 hb1 BB.out; have HB1 : Hid (Below w.heap.size w w1) := Lib.hid (HB.out.trans (hb1.mono HB.out.size)); have H1 := Lib.hid (h.out.below HB1.out); have c0 := H1.out.c0; have c1 := H1.out.c1; have c2 := H1.out.c2; obtain ⟨D, ho, hd⟩ := H1.out.map; have HO := Lib.hid ho; have HSI : Hid (Maps.size D = m) := Lib.hid ((hd.size GG.out.rise ho).trans HM.out); clear hb1 ho hd)
                  | (at_len; refine wpList_len_own _ rfl _ 86 rfl 9 47 Try.underlying86 _ b N D rfl HO.out ?_; rw [HSI.out])
                  | (go_at_call 48; refine (there_is a _ H1 HZA HHS).mono ?_; rintro e w2 ⟨rfl, hb2⟩; obtain ⟨y0, y1, y2, y3⟩ := below4 hb2 ⟨x0, x1, x2, x3⟩; have HB2 : Hid (Below w.heap.size w w2) := Lib.hid (HB1.out.trans (hb2.mono HB1.out.size)); have H2 := Lib.hid (h.out.below HB2.out); have d0 := H2.out.c0; clear hb2))
              go_ret2
              exact JoinP.no (by decide) h.out HB2.out
            · have g1 : (G == 1099511627776) = false := by simpa using hG
              have g2 : wrap64 (G + 1) = G + 1 := by have := GG.out.gen; simp only [wrap64]; omega
              obtain rfl : 0 = x := by rw [← hx]; simp [h0, hrr, h8, hG]
              clear hx hrr hG
              go_enter Try.func24, Try.ntmps24
              go_wp2_with (first
                  | (rw [HW.out])
                  | (go_at_call 47; refine (fits_is s a A n c tm sn true _ HS (Lib.hid (hT.out.below HB.out).row) HSZ HV).mono ?_; rintro e w1 ⟨rfl, hb1⟩; obtain ⟨x0, x1, x2, x3⟩ := below4 hb1 BB.out; have HB1 : Hid (Below w.heap.size w w1) := Lib.hid (HB.out.trans (hb1.mono HB.out.size)); have H1 := Lib.hid (h.out.below HB1.out); have c0 := H1.out.c0; have c1 := H1.out.c1; have c2 := H1.out.c2; obtain ⟨D, ho, hd⟩ := H1.out.map; have HO := Lib.hid ho; have HSI : Hid (Maps.size D = m) := Lib.hid ((hd.size GG.out.rise ho).trans HM.out); clear hb1 ho hd)
                  | (at_len; refine wpList_len_own _ rfl _ 86 rfl 9 47 Try.underlying86 _ b N D rfl HO.out ?_; rw [HSI.out])
                  | (go_at_call 48; refine (there_is a _ H1 HZA HHS).mono ?_; rintro e w2 ⟨rfl, hb2⟩; obtain ⟨y0, y1, y2, y3⟩ := below4 hb2 ⟨x0, x1, x2, x3⟩; have HB2 : Hid (Below w.heap.size w w2) := Lib.hid (HB1.out.trans (hb2.mono HB1.out.size)); have H2 := Lib.hid (h.out.below HB2.out); have d0 := H2.out.c0; clear hb2)
                  | (go_at_call 49; refine (seat_is s a A tm sn H2 hN HS (Lib.hid (hT.out.below HB2.out)) hz hn).mono ?_; rintro e w3 ⟨rfl, hg3, ho3⟩; have f0 := hg3.froz 0; have f1 := hg3.froz 1; have e0 := hg3.c0; have e1 := hg3.c1; obtain ⟨W4, hW4⟩ : ∃ W4, w3.setCell ⟨g, 1, none⟩ (.bool rb) = W4 := ⟨_, rfl⟩; have hg4 : Gp W4 g b (N + 1) G rb (putS Q s) := hW4 ▸ hg3.setRobin rb; have f2 := hg4.froz 0; have e2 := hg4.c0; obtain ⟨W5, hW5⟩ : ∃ W5, W4.setCell ⟨g, 0, none⟩ (.int .i64 (G + 1)) = W5 := ⟨_, rfl⟩; have hg5 : Gp W5 g b (N + 1) (G + 1) rb (putS Q s) := hW5 ▸ hg4.setGen (G + 1); have e3 := hg5.c0; have HE : Hid (JoinP w g b N G r Q s rb 0 (.returned (.tuple #[.int .i64 (G + 1), .int .i64 0])) W5) := Lib.hid (by have q := JoinP.yes (w := w) (r := r) (rb := rb) hg3 ((Only.ofBelow HB2.out).trans ho3 (fun k hk => .inl hk)); rw [hW4, hW5] at q; exact q); clear hg3 ho3 hg4 hg5))
              go_ret2
              exact HE.out
        · have q8 : ¬ (8 : Int) ≤ (m : Int) := by omega
          have q7 : (m : Int) < 8 := by omega
          by_cases hG : G = 1099511627776
          · have g1 : (G == 1099511627776) = true := by simpa using hG
            obtain rfl : 2 = x := by rw [← hx]; simp [h0, hrr, h8, hG]
            clear hx hrr hG
            go_enter Try.func24, Try.ntmps24
            go_wp2_with (first
                | (rw [HW.out])
                | (go_at_call 47; refine (fits_is s a A n c tm sn true _ HS (Lib.hid (hT.out.below HB.out).row) HSZ HV).mono ?_; rintro e w1 ⟨rfl, hb1⟩; obtain ⟨x0, x1, x2, x3⟩ := below4 hb1 BB.out; have HB1 : Hid (Below w.heap.size w w1) := Lib.hid (HB.out.trans (hb1.mono HB.out.size)); have H1 := Lib.hid (h.out.below HB1.out); have c0 := H1.out.c0; have c1 := H1.out.c1; have c2 := H1.out.c2; obtain ⟨D, ho, hd⟩ := H1.out.map; have HO := Lib.hid ho; have HSI : Hid (Maps.size D = m) := Lib.hid ((hd.size GG.out.rise ho).trans HM.out); clear hb1 ho hd)
                | (at_len; refine wpList_len_own _ rfl _ 86 rfl 9 47 Try.underlying86 _ b N D rfl HO.out ?_; rw [HSI.out]))
            go_ret2
            exact JoinP.no (by decide) h.out HB1.out
          · have g1 : (G == 1099511627776) = false := by simpa using hG
            have g2 : wrap64 (G + 1) = G + 1 := by have := GG.out.gen; simp only [wrap64]; omega
            obtain rfl : 0 = x := by rw [← hx]; simp [h0, hrr, h8, hG]
            clear hx hrr hG
            go_enter Try.func24, Try.ntmps24
            go_wp2_with (first
                | (rw [HW.out])
                | (go_at_call 47; refine (fits_is s a A n c tm sn true _ HS (Lib.hid (hT.out.below HB.out).row) HSZ HV).mono ?_; rintro e w1 ⟨rfl, hb1⟩; obtain ⟨x0, x1, x2, x3⟩ := below4 hb1 BB.out; have HB1 : Hid (Below w.heap.size w w1) := Lib.hid (HB.out.trans (hb1.mono HB.out.size)); have H1 := Lib.hid (h.out.below HB1.out); have c0 := H1.out.c0; have c1 := H1.out.c1; have c2 := H1.out.c2; obtain ⟨D, ho, hd⟩ := H1.out.map; have HO := Lib.hid ho; have HSI : Hid (Maps.size D = m) := Lib.hid ((hd.size GG.out.rise ho).trans HM.out); clear hb1 ho hd)
                | (at_len; refine wpList_len_own _ rfl _ 86 rfl 9 47 Try.underlying86 _ b N D rfl HO.out ?_; rw [HSI.out])
                | (go_at_call 49; refine (seat_is s a A tm sn H1 hN HS (Lib.hid (hT.out.below HB1.out)) hz hn).mono ?_; rintro e w3 ⟨rfl, hg3, ho3⟩; have f0 := hg3.froz 0; have f1 := hg3.froz 1; have e0 := hg3.c0; have e1 := hg3.c1; obtain ⟨W4, hW4⟩ : ∃ W4, w3.setCell ⟨g, 1, none⟩ (.bool rb) = W4 := ⟨_, rfl⟩; have hg4 : Gp W4 g b (N + 1) G rb (putS Q s) := hW4 ▸ hg3.setRobin rb; have f2 := hg4.froz 0; have e2 := hg4.c0; obtain ⟨W5, hW5⟩ : ∃ W5, W4.setCell ⟨g, 0, none⟩ (.int .i64 (G + 1)) = W5 := ⟨_, rfl⟩; have hg5 : Gp W5 g b (N + 1) (G + 1) rb (putS Q s) := hW5 ▸ hg4.setGen (G + 1); have e3 := hg5.c0; have HE : Hid (JoinP w g b N G r Q s rb 0 (.returned (.tuple #[.int .i64 (G + 1), .int .i64 0])) W5) := Lib.hid (by have q := JoinP.yes (w := w) (r := r) (rb := rb) hg3 ((Only.ofBelow HB1.out).trans ho3 (fun k hk => .inl hk)); rw [hW4, hW5] at q; exact q); clear hg3 ho3 hg4 hg5))
            go_ret2
            exact HE.out
      · have qr : (rb == r) = false := by simpa using hrr
        have qs : (rb != r) = true := by simpa using hrr
        obtain rfl : 112 = x := by rw [← hx]; simp [h0, hrr]
        clear hx hrr
        go_enter Try.func24, Try.ntmps24
        go_wp2_with (first
            | (rw [HW.out])
            | (go_at_call 47; refine (fits_is s a A n c tm sn true _ HS (Lib.hid (hT.out.below HB.out).row) HSZ HV).mono ?_; rintro e w1 ⟨rfl, hb1⟩; obtain ⟨x0, x1, x2, x3⟩ := below4 hb1 BB.out; have HB1 : Hid (Below w.heap.size w w1) := Lib.hid (HB.out.trans (hb1.mono HB.out.size)); have H1 := Lib.hid (h.out.below HB1.out); have c0 := H1.out.c0; have c1 := H1.out.c1; have c2 := H1.out.c2; obtain ⟨D, ho, hd⟩ := H1.out.map; have HO := Lib.hid ho; have HSI : Hid (Maps.size D = m) := Lib.hid ((hd.size GG.out.rise ho).trans HM.out); clear hb1 ho hd)
            | (at_len; refine wpList_len_own _ rfl _ 86 rfl 9 47 Try.underlying86 _ b N D rfl HO.out ?_; rw [HSI.out]))
        go_ret2
        exact JoinP.no (by decide) h.out HB1.out
    · have q0 : ¬ (0 : Int) < (m : Int) := by omega
      have hm0 : m = 0 := by omega
      have h8 : ¬ 8 ≤ m := by omega
      have q8 : ¬ (8 : Int) ≤ (m : Int) := by omega
      have q7 : (m : Int) < 8 := by omega
      by_cases hG : G = 1099511627776
      · have g1 : (G == 1099511627776) = true := by simpa using hG
        obtain rfl : 2 = x := by rw [← hx]; simp [h0, h8, hG]
        clear hx hG
        go_enter Try.func24, Try.ntmps24
        go_wp2_with (first
            | (rw [HW.out])
            | (go_at_call 47; refine (fits_is s a A n c tm sn true _ HS (Lib.hid (hT.out.below HB.out).row) HSZ HV).mono ?_; rintro e w1 ⟨rfl, hb1⟩; obtain ⟨x0, x1, x2, x3⟩ := below4 hb1 BB.out; have HB1 : Hid (Below w.heap.size w w1) := Lib.hid (HB.out.trans (hb1.mono HB.out.size)); have H1 := Lib.hid (h.out.below HB1.out); have c0 := H1.out.c0; have c1 := H1.out.c1; have c2 := H1.out.c2; obtain ⟨D, ho, hd⟩ := H1.out.map; have HO := Lib.hid ho; have HSI : Hid (Maps.size D = m) := Lib.hid ((hd.size GG.out.rise ho).trans HM.out); clear hb1 ho hd)
            | (at_len; refine wpList_len_own _ rfl _ 86 rfl 9 47 Try.underlying86 _ b N D rfl HO.out ?_; rw [HSI.out]))
        go_ret2
        exact JoinP.no (by decide) h.out HB1.out
      · have g1 : (G == 1099511627776) = false := by simpa using hG
        have g2 : wrap64 (G + 1) = G + 1 := by have := GG.out.gen; simp only [wrap64]; omega
        obtain rfl : 0 = x := by rw [← hx]; simp [h0, h8, hG]
        clear hx hG
        go_enter Try.func24, Try.ntmps24
        go_wp2_with (first
            | (rw [HW.out])
            | (go_at_call 47; refine (fits_is s a A n c tm sn true _ HS (Lib.hid (hT.out.below HB.out).row) HSZ HV).mono ?_; rintro e w1 ⟨rfl, hb1⟩; obtain ⟨x0, x1, x2, x3⟩ := below4 hb1 BB.out; have HB1 : Hid (Below w.heap.size w w1) := Lib.hid (HB.out.trans (hb1.mono HB.out.size)); have H1 := Lib.hid (h.out.below HB1.out); have c0 := H1.out.c0; have c1 := H1.out.c1; have c2 := H1.out.c2; obtain ⟨D, ho, hd⟩ := H1.out.map; have HO := Lib.hid ho; have HSI : Hid (Maps.size D = m) := Lib.hid ((hd.size GG.out.rise ho).trans HM.out); clear hb1 ho hd)
            | (at_len; refine wpList_len_own _ rfl _ 86 rfl 9 47 Try.underlying86 _ b N D rfl HO.out ?_; rw [HSI.out])
            | (go_at_call 49; refine (seat_is s a A tm sn H1 hN HS (Lib.hid (hT.out.below HB1.out)) hz hn).mono ?_; rintro e w3 ⟨rfl, hg3, ho3⟩; have f0 := hg3.froz 0; have f1 := hg3.froz 1; have e0 := hg3.c0; have e1 := hg3.c1; obtain ⟨W4, hW4⟩ : ∃ W4, w3.setCell ⟨g, 1, none⟩ (.bool rb) = W4 := ⟨_, rfl⟩; have hg4 : Gp W4 g b (N + 1) G rb (putS Q s) := hW4 ▸ hg3.setRobin rb; have f2 := hg4.froz 0; have e2 := hg4.c0; obtain ⟨W5, hW5⟩ : ∃ W5, W4.setCell ⟨g, 0, none⟩ (.int .i64 (G + 1)) = W5 := ⟨_, rfl⟩; have hg5 : Gp W5 g b (N + 1) (G + 1) rb (putS Q s) := hW5 ▸ hg4.setGen (G + 1); have e3 := hg5.c0; have HE : Hid (JoinP w g b N G r Q s rb 0 (.returned (.tuple #[.int .i64 (G + 1), .int .i64 0])) W5) := Lib.hid (by have q := JoinP.yes (w := w) (r := r) (rb := rb) hg3 ((Only.ofBelow HB1.out).trans ho3 (fun k hk => .inl hk)); rw [hW4, hW5] at q; exact q); clear hg3 ho3 hg4 hg5))
        go_ret2
        exact HE.out
end Go.Proofs.Ytidgifnnkaheeaa.L11
/-
  Contracts: Beat.
-/
namespace Go.Proofs.Ytidgifnnkaheeaa.L11
open Go.RowKit
open Go.Maps
open L3 L4 L9 L10

def BeatP (w : World) (g b N : Nat) (G : Int) (r : Bool) (Q : List Se) (a : ByteArray) (now x : Int) (e : Ending) (w' : World) : Prop :=
  e = .returned (.int .i64 x) ∧ Gp w' g b (N + 1) G r (beatQ Q a now x) ∧ Only [b] w w'
theorem BeatP.no {w w' : World} {g b N : Nat} {G : Int} {r : Bool} {Q : List Se} {a : ByteArray} {now x : Int} (hx : x ≠ 0) (h : Gp w g b N G r Q) (hb : Below w.heap.size w w') : BeatP w g b N G r Q a now x (.returned (.int .i64 x)) w' := by
  refine ⟨rfl, ?_, Only.ofBelow hb⟩
  unfold beatQ
  rw [if_neg hx]
  exact (h.below hb).mono (Nat.le_succ N)
set_option maxRecDepth 100000 in
set_option maxHeartbeats 2000000 in
theorem beat_is {w : World} {g b N : Nat} {G : Int} {r : Bool} {Q : List Se} (a : ByteArray) (gn now x : Int) (h : Hid (Gp w g b N G r Q)) (GG : Hid (GoodG G Q)) (hN : N ≤ 1000000) (hs : Hid (a.size ≤ maxLen)) (HX : Hid (beatE G Q a gn now = x)) :
    Calls Try.prog 29 #[.pointer (some ⟨g, 0, none⟩), .string a, .int .i64 gn, .int .i64 now] w (BeatP w g b N G r Q a now x) := by
  have hx := HX.out
  unfold beatE at hx
  cases hw : wB now with
  | false =>
    rw [hw, if_pos rfl] at hx
    subst hx
    have HW := Lib.hid hw
    clear hw
    go_enter Try.func29, Try.ntmps29
    go_wp2_with (go_at_call 55; refine (within_is now _ _ HW).mono ?_; rintro e w3 ⟨rfl, hw3⟩; obtain rfl := hw3.symm)
    go_ret
    exact BeatP.no (by decide) h.out (Below.refl _ _)
  | true =>
    rw [hw, if_neg (by simp)] at hx
    have HW := Lib.hid hw
    have HF := Lib.hid hx
    clear hw
    by_cases h0 : x = 0
    · subst h0
      obtain ⟨hh, rfl⟩ := fenceE_ok HF.out
      obtain ⟨s, hsm, hsn⟩ := hasS_mem.1 hh
      obtain ⟨A, c, hR, hlook⟩ := h.out.map.look hsm (by rw [hsn]; exact hs.out)
      have HR := Lib.hid hR
      have HL := Lib.hid hlook
      obtain ⟨n, hn⟩ : ∃ n, s.m.ts.length = n := ⟨_, rfl⟩
      obtain ⟨tm, htm⟩ : ∃ nm, s.tm = nm := ⟨_, rfl⟩
      obtain ⟨sn, hsn2⟩ : ∃ nm, s.sn = nm := ⟨_, rfl⟩
      have HSM := Lib.hid hsm
      have HSN := Lib.hid hsn
      have HN := Lib.hid hn
      have HTM := Lib.hid htm
      have HSN2 := Lib.hid hsn2
      clear hh hR hlook hn htm hsn2 hsm hsn hx
      go_enter Try.func29, Try.ntmps29
      go_upto_region 6 with (first
        | (go_at_call 55; refine (within_is now _ _ HW).mono ?_; rintro e w3 ⟨rfl, hw3⟩; obtain rfl := hw3.symm)
        | (go_at_call 44; refine (fence_is a gn 0 h hs HF).mono ?_; rintro e w2 ⟨rfl, hb2⟩))
      have H2 := Lib.hid (h.out.below hb2)
      have c2 := H2.out.c2
      have hrun := HL.out w2 (hb2.block b h.out.map.lt)
      rw [HSN.out, HN.out, HTM.out, HSN2.out] at hrun
      obtain ⟨⟨b0, b1, b2, b3⟩, hb3⟩ := box_se (w := w2) (a := a) (A := A) (n := n) (c := c) (t := tm) (e := sn)
      have hr3 := heap_alloc_new w2 (.cells #[.string a, .slice A n c, .int .i64 tm, .int .i64 sn] 47)
      obtain ⟨H, hH⟩ : ∃ H, w2.heap.size = H := ⟨_, rfl⟩
      obtain ⟨W3, hW3⟩ : ∃ W, w2.alloc (.cells #[.string a, .slice A n c, .int .i64 tm, .int .i64 sn] 47) = W := ⟨_, rfl⟩
      rw [hW3] at b0 b1 b2 b3 hb3 hr3
      rw [hH] at b0 b1 b2 b3 hr3
      have f3 : W3.frozen? ⟨H, 3, none⟩ = false := frozen_of_row _ _ _ _ _ hr3
      obtain ⟨mx, hmx⟩ : ∃ mx, max sn now = mx := ⟨_, rfl⟩
      obtain ⟨W4, hW4⟩ : ∃ W4, W3.setCell ⟨H, 3, none⟩ (.int .i64 mx) = W4 := ⟨_, rfl⟩
      have hr4 : W4.heap[H]? = some (.cells #[.string a, .slice A n c, .int .i64 tm, .int .i64 mx] 47 (0, 0)) := hW4 ▸ heap_setCell_same _ _ _ _ _ _ hr3
      have hb4 : Below w2.heap.size w2 W4 := hW4 ▸ hb3.setCell (by rw [hH]; exact Nat.le_refl _) _
      have e0 : W4.cell? ⟨H, 0, none⟩ = some (.string a) := (cell_of_row _ _ 0 _ _ _ hr4).trans rfl
      have e1 : W4.cell? ⟨H, 1, none⟩ = some (.slice A n c) := (cell_of_row _ _ 1 _ _ _ hr4).trans rfl
      have e2 : W4.cell? ⟨H, 2, none⟩ = some (.int .i64 tm) := (cell_of_row _ _ 2 _ _ _ hr4).trans rfl
      have e3 : W4.cell? ⟨H, 3, none⟩ = some (.int .i64 mx) := (cell_of_row _ _ 3 _ _ _ hr4).trans rfl
      have hB4 : Below w.heap.size w W4 := hb2.trans (hb4.mono hb2.size)
      have hG4 := h.out.below (hB4.drew)
      have d2 : W4.cell? ⟨g, 2, none⟩ = some (.map (some b)) := hG4.c2
      obtain ⟨w', hrun4, hm4, ho4⟩ := hG4.map.store (Q' := Q.map (beatS a now)) (by unfold maxLen; omega) ⟨s.m, s.tm, max s.sn now⟩ A n c HN.out (by show s.m.name.size ≤ _; rw [HSN.out]; exact hs.out) (HR.out.below (hB4.drew)) (fun y => by
        have := mem_beat GG.out.rise HSM.out now (y := y)
        rw [HSN.out] at this
        show _ ↔ _ ∨ (_ ∧ _ ≠ s.m.name)
        rw [HSN.out]
        exact this)
      dsimp only at hrun4
      rw [HSN.out, HTM.out, HSN2.out, hmx] at hrun4
      have HM4 := Lib.hid hm4
      have HO4 := Lib.hid ho4
      have HG4 := Lib.hid hG4
      have HB4 := Lib.hid hB4
      clear hm4 ho4 hG4 hB4 hb4 hr4 hr3 hb3 b1 b2 b0
      go_wp2_with fail
      go_region
      go_wp2_with fail
      go_ret
      refine ⟨rfl, ?_, ((Only.ofBelow HB4.out).drew).trans HO4.out (fun k hk => .inl hk)⟩
      unfold beatQ
      rw [if_pos rfl]
      exact HG4.out.turned HO4.out HM4.out
    · have HX0 := Lib.hid h0
      have e1 : (x == 0) = false := by simpa using h0
      clear h0
      go_enter Try.func29, Try.ntmps29
      go_wp2_with (first
        | (go_at_call 55; refine (within_is now _ _ HW).mono ?_; rintro e w3 ⟨rfl, hw3⟩; obtain rfl := hw3.symm)
        | (go_at_call 44; refine (fence_is a gn x h hs HF).mono ?_; rintro e w2 ⟨rfl, hb2⟩))
      go_ret
      exact BeatP.no HX0.out h.out hb2
end Go.Proofs.Ytidgifnnkaheeaa.L11
/-
  Contracts: members are let out: those that a closure names; Leave; Expire.
-/
namespace Go.Proofs.Ytidgifnnkaheeaa.L11
open Go.RowKit
open Go.Maps
open L3 L4 L9 L10

/-- a map in one world, whose rows are as another one has them -/
def IsGrpAt (w1 wr : World) (b N : Nat) (Q : List Se) : Prop := ∃ D, wr.ownsMap Try.prog 9 rdS b N D ∧ GrpD w1 D Q
theorem IsGrpAt.look {w1 w : World} {b N : Nat} {Q : List Se} (h : IsGrpAt w1 w b N Q) {s : Se} (hs : s ∈ Q) (hz : s.m.name.size ≤ maxLen) : ∃ A c, RowT w1 A c s.m.ts ∧ ∀ w', w'.heap[b]? = w.heap[b]? → (Instr.lookup 86 (.map (some b)) (.string s.m.name) false).run Try.prog w' = .ok (.agg #[.string s.m.name, .slice A s.m.ts.length c, .int .i64 s.tm, .int .i64 s.sn]) w' := by
  obtain ⟨D, ho, hd⟩ := h
  obtain ⟨A, c, h1, h2⟩ := hd.2 s hs
  refine ⟨A, c, h2, fun w' hb => ?_⟩
  have ho' : w'.ownsMap Try.prog 9 rdS b N D := by
    obtain ⟨es, c, h1, h2⟩ := ho
    exact ⟨es, c, hb.trans h1, h2⟩
  obtain ⟨v, ps, hrun, hv⟩ := ho'.lookup lawStr Try.underlying86 (zeroSeat w') (show rdS (.agg _) = some (.held (.agg _), []) from rfl) (keyS hz)
  obtain ⟨xs, rfl, e⟩ := rdS_inv hv
  rw [show (s.m.name.data.toList) = kb s.m.name from rfl, h1] at e
  have e2 : seV s A c = Value.agg xs := DataW.held.inj (Prod.mk.inj e).1
  rw [hrun, ← e2]
  unfold seV
  with_reducible rfl
theorem IsGrpAt.at {w1 w w' : World} {b N : Nat} {Q : List Se} (h : IsGrpAt w1 w b N Q) (hb : w'.heap[b]? = w.heap[b]?) : IsGrpAt w1 w' b N Q := by
  obtain ⟨D, ⟨es, clock, h1, F, hs, hD⟩, hc⟩ := h
  exact ⟨D, ⟨es, clock, hb.trans h1, F, hs, hD⟩, hc⟩
/-- those that are left behind the first so many -/
def leftQ (p : Se → Bool) (Q : List Se) (k : Nat) : List Se := stayQ p (Q.take k) ++ Q.drop k
theorem left_zero (p : Se → Bool) (Q : List Se) : leftQ p Q 0 = Q := by simp [leftQ, stayQ]
theorem left_all (p : Se → Bool) (Q : List Se) {m : Nat} (h : Q.length = m) : leftQ p Q m = stayQ p Q := by
  subst h; simp [leftQ, List.take_length, List.drop_length]
theorem gone_all (p : Se → Bool) (Q : List Se) {m : Nat} (h : Q.length = m) : goneQ p (Q.take m) = goneQ p Q := by
  subst h; rw [List.take_length]
theorem gone_next (p : Se → Bool) {Q : List Se} {k : Nat} {s : Se} (h : Q[k]? = some s) : goneQ p (Q.take (k + 1)) = goneQ p (Q.take k) ++ (if p s = true then [s.m.name] else []) := by
  unfold goneQ
  rw [List.take_add_one, h, Option.toList_some, List.filter_append, List.map_append]
  congr 1
  cases e : p s <;> simp [e]
theorem left_next (p : Se → Bool) {Q : List Se} {k : Nat} {s : Se} (h : Q[k]? = some s) : leftQ p Q (k + 1) = if p s = true then stayQ p (Q.take k) ++ Q.drop (k + 1) else leftQ p Q k := by
  obtain ⟨hk, e0⟩ := List.getElem?_eq_some_iff.1 h
  unfold leftQ
  rw [List.take_add_one, h, Option.toList_some]
  unfold stayQ
  rw [List.filter_append, List.drop_eq_getElem_cons hk, e0]
  cases e : p s <;> simp [e]
theorem left_del (p : Se → Bool) {Q : List Se} (hR : RiseS Q) {k : Nat} {s : Se} (h : Q[k]? = some s) {x : Se} : x ∈ stayQ p (Q.take k) ++ Q.drop (k + 1) ↔ (x ∈ leftQ p Q k ∧ x.m.name ≠ s.m.name) := by
  obtain ⟨hk, e0⟩ := List.getElem?_eq_some_iff.1 h
  have hp := List.pairwise_iff_getElem.1 hR.ne
  unfold leftQ
  rw [List.drop_eq_getElem_cons hk, e0, List.mem_append, List.mem_append, List.mem_cons]
  constructor
  · rintro (hx | hx)
    · refine ⟨.inl hx, fun e => ?_⟩
      obtain ⟨i, hi, rfl⟩ := List.mem_iff_getElem.1 (List.mem_filter.1 hx).1
      rw [List.length_take] at hi
      rw [List.getElem_take] at e
      have := hp i k (by omega) hk (by omega)
      rw [e0] at this; exact this e
    · refine ⟨.inr (.inr hx), fun e => ?_⟩
      obtain ⟨i, hi, rfl⟩ := List.mem_iff_getElem.1 hx
      rw [List.length_drop] at hi
      rw [List.getElem_drop] at e
      have := hp k (k + 1 + i) hk (by omega) (by omega)
      rw [e0] at this; exact this e.symm
  · rintro ⟨hx | rfl | hx, hn⟩
    · exact .inl hx
    · exact absurd rfl hn
    · exact .inr hx
theorem left_mem (p : Se → Bool) {Q : List Se} {k : Nat} {s : Se} (h : Q[k]? = some s) : s ∈ leftQ p Q k := by
  obtain ⟨hk, e0⟩ := List.getElem?_eq_some_iff.1 h
  unfold leftQ
  rw [List.drop_eq_getElem_cons hk, e0]
  simp
/-- what lies between two rounds -/
structure LetI (w w1 : World) (g b N : Nat) (G : Int) (r : Bool) (p : Se → Bool) (Q : List Se) (k n5 : Nat) (v : Value) (wr : World) : Prop where
  row : wr.heap[g]? = some (.cells #[.int .i64 G, .bool r, .map (some b)] 88 (0, 0))
  map : IsGrpAt w1 wr b N (leftQ p Q k)
  own : wr.ownsRow w1.heap.size 9 1 v n5 ((goneQ p (Q.take k)).map (fun x => .string x))
  len : (goneQ p (Q.take k)).length = n5
  only : Only [b] w1 wr
/-- what letting out leaves -/
def LetP (w : World) (g b N : Nat) (G : Int) (r : Bool) (p : Se → Bool) (Q : List Se) (e : Ending) (w' : World) : Prop :=
  ∃ A n c, e = .returned (.slice A n c) ∧ (goneQ p Q).length = n ∧ w'.ownsRow w.heap.size 9 1 (.slice A n c) n ((goneQ p Q).map (fun x => .string x)) ∧ Gp w' g b N (goneG p G Q) r (stayQ p Q) ∧ Only [g, b] w w'
theorem gone_len (p : Se → Bool) (Q : List Se) : (goneQ p Q).length ≤ Q.length := by
  unfold goneQ
  rw [List.length_map]
  exact List.length_filter_le _ _

set_option maxRecDepth 100000 in
set_option maxHeartbeats 4000000 in
theorem let_leave {w : World} {g b N q m : Nat} {G : Int} {r : Bool} {Q : List Se} (p : Se → Bool) (u : Value) (h : Hid (Gp w g b N G r Q)) (GG : Hid (GoodG G Q)) (hm : Hid (Q.length = m)) (hm8 : m ≤ 8) (hq : Hid (w.cell? ⟨q, 0, none⟩ = some u)) (hqb : Hid (q ≠ b))
    (HC : Hid (∀ (W : World) (s : Se) (A : Option Addr) (n c : Nat), W.cell? ⟨q, 0, none⟩ = some u → mayS s = true → Calls Try.prog 46 #[.agg #[.string s.m.name, .slice A n c, .int .i64 s.tm, .int .i64 s.sn], .pointer (some ⟨q, 0, none⟩)] W fun e w' => e = .returned (.bool (p s)) ∧ Below W.heap.size W w')) :
    Calls Try.prog 45 #[.pointer (some ⟨g, 0, none⟩), .func (.func 46) #[] #[.pointer (some ⟨q, 0, none⟩)]] w (LetP w g b N G r p Q) := by
  obtain ⟨i0, hi0, hz0, hz1, hz2⟩ := info_parts strInfo
  have HR := Lib.hid GG.out.rise
  go_enter Try.func45, Try.ntmps45
  go_wp2_with (go_at_call 50; refine (names_is h HR hm hm8).mono ?_; rintro e w1 ⟨An, cn, rfl, hown, hb1⟩; have HROW := Lib.hid hown; have HB1 := Lib.hid hb1; clear hown hb1)
  have HG1 := Lib.hid (h.out.below HB1.out)
  have HQ1 : Hid (w1.cell? ⟨q, 0, none⟩ = some u) := Lib.hid (cell_b HB1.out hq.out)
  go_loopw [5, 11] (fun v i wr => ∃ (k n5 : Nat) (A5 : Option Addr) (c5 : Nat), k ≤ m ∧ n5 ≤ k ∧ i = .int .i64 k ∧ v = .slice A5 n5 c5 ∧ Hid (LetI w w1 g b N G r p Q k n5 (.slice A5 n5 c5) wr)) (fun _ i _ => m - (intOf i).toNat)
  case atStart => exact ⟨0, 0, none, 0, Nat.zero_le _, Nat.le_refl _, rfl, rfl, Lib.hid ⟨HG1.out.row, by rw [left_zero]; exact HG1.out.map, World.ownsRow_nil _ _ _ _, rfl, Only.refl _ _⟩⟩
  case round =>
    obtain ⟨k, n5, A5, c5, hk, hn5, rfl, rfl, HI⟩ := hrel
    have c0 := (cell_of_row _ _ 0 _ _ _ HI.out.row).trans rfl
    have c2 := (cell_of_row _ _ 2 _ _ _ HI.out.row).trans rfl
    by_cases hlt : k < m
    · obtain ⟨s, hs⟩ : ∃ s, Q[k]? = some s := ⟨_, List.getElem?_eq_getElem (by rw [hm.out]; exact hlt)⟩
      have hmay := GG.out.may s (List.mem_of_getElem? hs)
      have hsz : s.m.name.size ≤ maxLen := by have := (mayS_fit hmay).1; unfold maxLen; omega
      have HSZ := Lib.hid hsz
      have HMAY := Lib.hid hmay
      obtain ⟨gn, rfl, hgn, hgnl, x0⟩ : ∃ gn, An = some ⟨gn, 0, none⟩ ∧ w.heap.size ≤ gn ∧ gn < w1.heap.size ∧ w1.cell? ⟨gn, k, none⟩ = some (.string s.m.name) := by
        rcases HROW.out.2 with ⟨_, e⟩ | ⟨gn, cap, cur, e, h1, hh, _⟩
        · omega
        · injection e with e1; subst e1
          have q := HROW.out.cells (g := gn) rfl k (.string s.m.name) (by rw [List.getElem?_map, List.getElem?_map, hs]; rfl)
          rw [Addr.add_lit, Nat.zero_add] at q
          exact ⟨gn, rfl, h1, (Array.getElem?_eq_some_iff.1 hh).1, q⟩
      have hblt : b < w.heap.size := h.out.map.lt
      have x0 := HI.out.only.cell x0 (by show gn ∉ [b]; simp; omega)
      have xq := HI.out.only.cell HQ1.out (by show q ∉ [b]; simpa using hqb.out)
      obtain ⟨At, ct, hrt, hlook⟩ := HI.out.map.look (left_mem p hs) hsz
      obtain ⟨tn, htn⟩ : ∃ tn, s.m.ts.length = tn := ⟨_, rfl⟩
      have hrun := hlook wr rfl
      rw [htn] at hrun
      obtain ⟨pv, hpv⟩ : ∃ pv, p s = pv := ⟨_, rfl⟩
      have HCL := Lib.hid (HC.out wr s At tn ct xq hmay)
      have HST := Lib.hid hs
      have k0 : (0 : Int) ≤ (k : Int) := by omega
      have k1 : (k : Int) < (m : Int) := by omega
      have HPV := Lib.hid hpv
      have HGN := Lib.hid hgn
      have HBL := Lib.hid hblt
      clear hs hmay hsz hrt hlook htn xq hgn hgnl hblt hpv
      obtain ⟨nm, hnm⟩ : ∃ nm, s.m.name = nm := ⟨_, rfl⟩
      obtain ⟨tm, htm⟩ : ∃ nm, s.tm = nm := ⟨_, rfl⟩
      obtain ⟨sn, hsn⟩ : ∃ nm, s.sn = nm := ⟨_, rfl⟩
      have HCL2 := HCL.out
      rw [HPV.out, hnm, htm, hsn] at HCL2
      have HCL := Lib.hid HCL2
      rw [hnm, htm, hsn] at hrun
      rw [hnm] at x0 HSZ
      have HNM := Lib.hid hnm
      clear hnm htm hsn HCL2
      cases pv with
      | false =>
        go_wp2_with (go_at_call 46; refine HCL.out.mono ?_; rintro e w2 ⟨rfl, hb2⟩; have HB2 := Lib.hid hb2; clear hb2)
        have HIN : Hid (LetI w w1 g b N G r p Q (k + 1) n5 (.slice A5 n5 c5) w2) := Lib.hid ⟨(HB2.out.block g (Array.getElem?_eq_some_iff.1 HI.out.row).1).trans HI.out.row, by
          rw [left_next p HST.out, HPV.out, if_neg (by simp)]
          exact HI.out.map.at (HB2.out.block b (Nat.lt_of_lt_of_le (Nat.lt_of_lt_of_le HBL.out HB1.out.size) HI.out.only.size)), by
          rw [gone_next p HST.out, HPV.out]
          simpa using own_below HI.out.own HB2.out, by rw [gone_next p HST.out, HPV.out]; simpa using HI.out.len, HI.out.only.trans (Only.ofBelow (S := [b]) HB2.out) (fun k hk => .inl hk)⟩
        go_roundw
        case rel => exact ⟨k + 1, n5, A5, c5, by omega, by omega, by go_num, rfl, HIN⟩
        case measure => simp [intOf]; omega
      | true =>
        obtain ⟨D, ho, hd⟩ := HI.out.map
        have HK := Lib.hid (keyS HSZ.out)
        have HO := Lib.hid ho
        have HD := Lib.hid hd
        clear ho hd
        go_wp2_with (first
          | (go_at_call 46; refine HCL.out.mono ?_; rintro e w2 ⟨rfl, hb2⟩; have y2 := cell_b hb2 c2; have HO2 : Hid (w2.ownsMap Try.prog 9 rdS b N D) := Lib.hid (by
              obtain ⟨es, cl, h1, h2⟩ := HO.out
              exact ⟨es, cl, (hb2.block b (Array.getElem?_eq_some_iff.1 h1).1).trans h1, h2⟩); have HB2 := Lib.hid hb2; clear hb2)
          | (at_delete; refine wpList_delete_own _ rfl _ _ 86 9 rfl 47 lawStr Try.underlying86 _ b N D rfl HO2.out _ _ rfl HK.out ?_; intro w3 hown3 hturn3; have HO3 := Lib.hid hown3; have HT3 : Hid (Only [b] w2 w3) := Lib.hid (Only.ofGrown hturn3.grown); have HR3 : Hid (w3.ownsRow w1.heap.size 9 1 (.slice A5 n5 c5) n5 ((goneQ p (Q.take k)).map (fun x => .string x))) := Lib.hid (own_at (own_below HI.out.own HB2.out) (fun j hj => HT3.out.block j ((own_below HI.out.own HB2.out).lt j hj).2 (by have := (HI.out.own.lt j hj).1; have := HB1.out.size; have := HBL.out; simp; omega))); clear hown3 hturn3)
          | (at_builtin; refine wpList_append_own _ rfl _ _ 38 rfl w1.heap.size 9 i0 _ 1 16 Try.underlying38 hi0 hz0 hz1 hz2 rfl (by decide) _ _ _ rfl (HR3.out.alloc _) ⟨w3.heap.size, 0, none⟩ 1 1 [.string nm] rfl rfl (cell_one_new _ _ _) (by simp [Value.oneCell']) (by unfold maxLen; omega) (by omega) (by have := HI.out.only.size; have := HB2.out.size; have := HT3.out.size; simp; omega) ?_; intro v' w4 hown' hgrow _))
        obtain ⟨A6, c6, rfl⟩ := own_len hown'
        have HW4 : Hid (Only [b] w1 w4 ∧ w4.heap[b]? = w3.heap[b]? ∧ w4.heap[g]? = w3.heap[g]?) := by
          have hb3 : b < w3.heap.size := by have := HBL.out; have := HB1.out.size; have := HI.out.only.size; have := HB2.out.size; have := HT3.out.size; omega
          have hg3 : g < w3.heap.size := by have := h.out.lt; have := HB1.out.size; have := HI.out.only.size; have := HB2.out.size; have := HT3.out.size; omega
          have o3 : Only [b] w1 w3 := (HI.out.only.trans (Only.ofBelow (S := [b]) HB2.out) (fun k hk => .inl hk)).trans HT3.out (fun k hk => .inl hk)
          have hlt3 : ∀ j, (Value.slice A5 n5 c5).ownBlock = some j → w1.heap.size ≤ j := fun j hj => (HR3.out.lt j hj).1
          refine Lib.hid ⟨(o3.alloc _).grown hgrow (fun j hj => .inr (hlt3 j hj)), ?_, ?_⟩
          · refine (hgrow.block b (by simp; omega) (fun e => ?_)).trans ((one_box' _).block b hb3)
            have := hlt3 b e.symm; have := HBL.out; have := HB1.out.size; omega
          · refine (hgrow.block g (by simp; omega) (fun e => ?_)).trans ((one_box' _).block g hg3)
            have := hlt3 g e.symm; have := h.out.lt; have := HB1.out.size; omega
        have HIN : Hid (LetI w w1 g b N G r p Q (k + 1) (n5 + 1) (.slice A6 (n5 + 1) c6) w4) := Lib.hid ⟨HW4.out.2.2.trans ((HT3.out.block g (by have := h.out.lt; have := HB1.out.size; have := HI.out.only.size; have := HB2.out.size; omega) (by simpa using h.out.gb)).trans ((HB2.out.block g (Array.getElem?_eq_some_iff.1 HI.out.row).1).trans HI.out.row)), by
          rw [left_next p HST.out, HPV.out, if_pos rfl]
          have q : IsGrpAt w1 w3 b N (stayQ p (Q.take k) ++ Q.drop (k + 1)) := ⟨_, HO3.out, by
            have := HD.out.del (Q' := stayQ p (Q.take k) ++ Q.drop (k + 1)) nm (fun x => by rw [← HNM.out]; exact left_del p HR.out HST.out)
            exact this⟩
          exact q.at HW4.out.2.1, by
          rw [gone_next p HST.out, HPV.out, if_pos rfl, List.map_append, HNM.out]
          exact hown', by rw [gone_next p HST.out, HPV.out, if_pos rfl, List.length_append, HI.out.len]; rfl, HW4.out.1⟩
        clear hown' hgrow
        go_roundw
        case rel => exact ⟨k + 1, n5 + 1, A6, c6, by omega, by omega, by go_num, rfl, HIN⟩
        case measure => simp [intOf]; omega
    · obtain rfl : k = m := by omega
      have hown := HI.out.own
      have HLEN : Hid ((goneQ p Q).length = n5) := Lib.hid (by have := HI.out.len; rwa [gone_all p Q hm.out] at this)
      have HOWN : Hid (wr.ownsRow w.heap.size 9 1 (.slice A5 n5 c5) n5 ((goneQ p Q).map (fun x => .string x))) := Lib.hid (by rw [gone_all p Q hm.out] at hown; exact own_base hown HB1.out.size)
      have hgp : Gp wr g b N G r (stayQ p Q) := ⟨HI.out.row, by
        have q := HI.out.map
        rw [left_all p Q hm.out] at q
        obtain ⟨D, ho, hd⟩ := q
        exact ⟨D, ho, hd.kept (kpS_map HG1.out.map HI.out.only)⟩⟩
      have HOB : Hid (Only [g, b] w wr) := Lib.hid ((Only.ofBelow HB1.out).trans HI.out.only (fun k hk => .inl (by simp at hk; simp [hk])))
      have f0 := hgp.froz 0
      have HGP := Lib.hid hgp
      clear hown hgp
      by_cases h0 : 0 < n5
      · have q0 : (0 : Int) < (n5 : Int) := by omega
        have g2 : wrap64 (G + 1) = G + 1 := by have := GG.out.gen; simp only [wrap64]; omega
        have HGO : Hid (goneG p G Q = min (G + 1) 1099511627776) := Lib.hid (by unfold goneG upG; rw [HLEN.out, if_neg (by omega)])
        obtain ⟨G2, hG2⟩ : ∃ G2, min (G + 1) 1099511627776 = G2 := ⟨_, rfl⟩
        have HG2 := Lib.hid hG2
        obtain ⟨W5, hW5⟩ : ∃ W5, wr.setCell ⟨g, 0, none⟩ (.int .i64 G2) = W5 := ⟨_, rfl⟩
        have HW5 := Lib.hid hW5
        have n5n : ¬ n5 = 0 := by omega
        go_wp2_with fail
        go_ret
        refine ⟨A5, n5, c5, rfl, HLEN.out, ?_, ?_, ?_⟩
        · rw [← HW5.out]
          exact own_at HOWN.out (fun j hj => Below.heap_setCell _ _ _ _ (fun e => by
            have e' : j = g := e
            have := (HOWN.out.lt j hj).1; have := h.out.lt; omega))
        · rw [HGO.out, HG2.out, ← HW5.out]
          exact HGP.out.setGen G2
        · rw [← HW5.out]
          exact HOB.out.setCell (.inl (by simp)) _
      · have q0 : ¬ (0 : Int) < (n5 : Int) := by omega
        obtain rfl : n5 = 0 := by omega
        go_wp2_with fail
        go_ret
        exact ⟨A5, 0, c5, rfl, HLEN.out, HOWN.out, by
          have : goneG p G Q = G := by unfold goneG; rw [HLEN.out, if_pos rfl]
          rw [this]; exact HGP.out, HOB.out⟩

set_option maxRecDepth 100000 in
set_option maxHeartbeats 4000000 in
theorem let_expire {w : World} {g b N q m : Nat} {G : Int} {r : Bool} {Q : List Se} (p : Se → Bool) (u : Value) (h : Hid (Gp w g b N G r Q)) (GG : Hid (GoodG G Q)) (hm : Hid (Q.length = m)) (hm8 : m ≤ 8) (hq : Hid (w.cell? ⟨q, 0, none⟩ = some u)) (hqb : Hid (q ≠ b))
    (HC : Hid (∀ (W : World) (s : Se) (A : Option Addr) (n c : Nat), W.cell? ⟨q, 0, none⟩ = some u → mayS s = true → Calls Try.prog 56 #[.agg #[.string s.m.name, .slice A n c, .int .i64 s.tm, .int .i64 s.sn], .pointer (some ⟨q, 0, none⟩)] W fun e w' => e = .returned (.bool (p s)) ∧ Below W.heap.size W w')) :
    Calls Try.prog 45 #[.pointer (some ⟨g, 0, none⟩), .func (.func 56) #[] #[.pointer (some ⟨q, 0, none⟩)]] w (LetP w g b N G r p Q) := by
  obtain ⟨i0, hi0, hz0, hz1, hz2⟩ := info_parts strInfo
  have HR := Lib.hid GG.out.rise
  go_enter Try.func45, Try.ntmps45
  go_wp2_with (go_at_call 50; refine (names_is h HR hm hm8).mono ?_; rintro e w1 ⟨An, cn, rfl, hown, hb1⟩; have HROW := Lib.hid hown; have HB1 := Lib.hid hb1; clear hown hb1)
  have HG1 := Lib.hid (h.out.below HB1.out)
  have HQ1 : Hid (w1.cell? ⟨q, 0, none⟩ = some u) := Lib.hid (cell_b HB1.out hq.out)
  go_loopw [5, 11] (fun v i wr => ∃ (k n5 : Nat) (A5 : Option Addr) (c5 : Nat), k ≤ m ∧ n5 ≤ k ∧ i = .int .i64 k ∧ v = .slice A5 n5 c5 ∧ Hid (LetI w w1 g b N G r p Q k n5 (.slice A5 n5 c5) wr)) (fun _ i _ => m - (intOf i).toNat)
  case atStart => exact ⟨0, 0, none, 0, Nat.zero_le _, Nat.le_refl _, rfl, rfl, Lib.hid ⟨HG1.out.row, by rw [left_zero]; exact HG1.out.map, World.ownsRow_nil _ _ _ _, rfl, Only.refl _ _⟩⟩
  case round =>
    obtain ⟨k, n5, A5, c5, hk, hn5, rfl, rfl, HI⟩ := hrel
    have c0 := (cell_of_row _ _ 0 _ _ _ HI.out.row).trans rfl
    have c2 := (cell_of_row _ _ 2 _ _ _ HI.out.row).trans rfl
    by_cases hlt : k < m
    · obtain ⟨s, hs⟩ : ∃ s, Q[k]? = some s := ⟨_, List.getElem?_eq_getElem (by rw [hm.out]; exact hlt)⟩
      have hmay := GG.out.may s (List.mem_of_getElem? hs)
      have hsz : s.m.name.size ≤ maxLen := by have := (mayS_fit hmay).1; unfold maxLen; omega
      have HSZ := Lib.hid hsz
      have HMAY := Lib.hid hmay
      obtain ⟨gn, rfl, hgn, hgnl, x0⟩ : ∃ gn, An = some ⟨gn, 0, none⟩ ∧ w.heap.size ≤ gn ∧ gn < w1.heap.size ∧ w1.cell? ⟨gn, k, none⟩ = some (.string s.m.name) := by
        rcases HROW.out.2 with ⟨_, e⟩ | ⟨gn, cap, cur, e, h1, hh, _⟩
        · omega
        · injection e with e1; subst e1
          have q := HROW.out.cells (g := gn) rfl k (.string s.m.name) (by rw [List.getElem?_map, List.getElem?_map, hs]; rfl)
          rw [Addr.add_lit, Nat.zero_add] at q
          exact ⟨gn, rfl, h1, (Array.getElem?_eq_some_iff.1 hh).1, q⟩
      have hblt : b < w.heap.size := h.out.map.lt
      have x0 := HI.out.only.cell x0 (by show gn ∉ [b]; simp; omega)
      have xq := HI.out.only.cell HQ1.out (by show q ∉ [b]; simpa using hqb.out)
      obtain ⟨At, ct, hrt, hlook⟩ := HI.out.map.look (left_mem p hs) hsz
      obtain ⟨tn, htn⟩ : ∃ tn, s.m.ts.length = tn := ⟨_, rfl⟩
      have hrun := hlook wr rfl
      rw [htn] at hrun
      obtain ⟨pv, hpv⟩ : ∃ pv, p s = pv := ⟨_, rfl⟩
      have HCL := Lib.hid (HC.out wr s At tn ct xq hmay)
      have HST := Lib.hid hs
      have k0 : (0 : Int) ≤ (k : Int) := by omega
      have k1 : (k : Int) < (m : Int) := by omega
      have HPV := Lib.hid hpv
      have HGN := Lib.hid hgn
      have HBL := Lib.hid hblt
      clear hs hmay hsz hrt hlook htn xq hgn hgnl hblt hpv
      obtain ⟨nm, hnm⟩ : ∃ nm, s.m.name = nm := ⟨_, rfl⟩
      obtain ⟨tm, htm⟩ : ∃ nm, s.tm = nm := ⟨_, rfl⟩
      obtain ⟨sn, hsn⟩ : ∃ nm, s.sn = nm := ⟨_, rfl⟩
      have HCL2 := HCL.out
      rw [HPV.out, hnm, htm, hsn] at HCL2
      have HCL := Lib.hid HCL2
      rw [hnm, htm, hsn] at hrun
      rw [hnm] at x0 HSZ
      have HNM := Lib.hid hnm
      clear hnm htm hsn HCL2
      cases pv with
      | false =>
        go_wp2_with (go_at_call 56; refine HCL.out.mono ?_; rintro e w2 ⟨rfl, hb2⟩; have HB2 := Lib.hid hb2; clear hb2)
        have HIN : Hid (LetI w w1 g b N G r p Q (k + 1) n5 (.slice A5 n5 c5) w2) := Lib.hid ⟨(HB2.out.block g (Array.getElem?_eq_some_iff.1 HI.out.row).1).trans HI.out.row, by
          rw [left_next p HST.out, HPV.out, if_neg (by simp)]
          exact HI.out.map.at (HB2.out.block b (Nat.lt_of_lt_of_le (Nat.lt_of_lt_of_le HBL.out HB1.out.size) HI.out.only.size)), by
          rw [gone_next p HST.out, HPV.out]
          simpa using own_below HI.out.own HB2.out, by rw [gone_next p HST.out, HPV.out]; simpa using HI.out.len, HI.out.only.trans (Only.ofBelow (S := [b]) HB2.out) (fun k hk => .inl hk)⟩
        go_roundw
        case rel => exact ⟨k + 1, n5, A5, c5, by omega, by omega, by go_num, rfl, HIN⟩
        case measure => simp [intOf]; omega
      | true =>
        obtain ⟨D, ho, hd⟩ := HI.out.map
        have HK := Lib.hid (keyS HSZ.out)
        have HO := Lib.hid ho
        have HD := Lib.hid hd
        clear ho hd
        go_wp2_with (first
          | (go_at_call 56; refine HCL.out.mono ?_; rintro e w2 ⟨rfl, hb2⟩; have y2 := cell_b hb2 c2; have HO2 : Hid (w2.ownsMap Try.prog 9 rdS b N D) := Lib.hid (by
              obtain ⟨es, cl, h1, h2⟩ := HO.out
              exact ⟨es, cl, (hb2.block b (Array.getElem?_eq_some_iff.1 h1).1).trans h1, h2⟩); have HB2 := Lib.hid hb2; clear hb2)
          | (at_delete; refine wpList_delete_own _ rfl _ _ 86 9 rfl 47 lawStr Try.underlying86 _ b N D rfl HO2.out _ _ rfl HK.out ?_; intro w3 hown3 hturn3; have HO3 := Lib.hid hown3; have HT3 : Hid (Only [b] w2 w3) := Lib.hid (Only.ofGrown hturn3.grown); have HR3 : Hid (w3.ownsRow w1.heap.size 9 1 (.slice A5 n5 c5) n5 ((goneQ p (Q.take k)).map (fun x => .string x))) := Lib.hid (own_at (own_below HI.out.own HB2.out) (fun j hj => HT3.out.block j ((own_below HI.out.own HB2.out).lt j hj).2 (by have := (HI.out.own.lt j hj).1; have := HB1.out.size; have := HBL.out; simp; omega))); clear hown3 hturn3)
          | (at_builtin; refine wpList_append_own _ rfl _ _ 38 rfl w1.heap.size 9 i0 _ 1 16 Try.underlying38 hi0 hz0 hz1 hz2 rfl (by decide) _ _ _ rfl (HR3.out.alloc _) ⟨w3.heap.size, 0, none⟩ 1 1 [.string nm] rfl rfl (cell_one_new _ _ _) (by simp [Value.oneCell']) (by unfold maxLen; omega) (by omega) (by have := HI.out.only.size; have := HB2.out.size; have := HT3.out.size; simp; omega) ?_; intro v' w4 hown' hgrow _))
        obtain ⟨A6, c6, rfl⟩ := own_len hown'
        have HW4 : Hid (Only [b] w1 w4 ∧ w4.heap[b]? = w3.heap[b]? ∧ w4.heap[g]? = w3.heap[g]?) := by
          have hb3 : b < w3.heap.size := by have := HBL.out; have := HB1.out.size; have := HI.out.only.size; have := HB2.out.size; have := HT3.out.size; omega
          have hg3 : g < w3.heap.size := by have := h.out.lt; have := HB1.out.size; have := HI.out.only.size; have := HB2.out.size; have := HT3.out.size; omega
          have o3 : Only [b] w1 w3 := (HI.out.only.trans (Only.ofBelow (S := [b]) HB2.out) (fun k hk => .inl hk)).trans HT3.out (fun k hk => .inl hk)
          have hlt3 : ∀ j, (Value.slice A5 n5 c5).ownBlock = some j → w1.heap.size ≤ j := fun j hj => (HR3.out.lt j hj).1
          refine Lib.hid ⟨(o3.alloc _).grown hgrow (fun j hj => .inr (hlt3 j hj)), ?_, ?_⟩
          · refine (hgrow.block b (by simp; omega) (fun e => ?_)).trans ((one_box' _).block b hb3)
            have := hlt3 b e.symm; have := HBL.out; have := HB1.out.size; omega
          · refine (hgrow.block g (by simp; omega) (fun e => ?_)).trans ((one_box' _).block g hg3)
            have := hlt3 g e.symm; have := h.out.lt; have := HB1.out.size; omega
        have HIN : Hid (LetI w w1 g b N G r p Q (k + 1) (n5 + 1) (.slice A6 (n5 + 1) c6) w4) := Lib.hid ⟨HW4.out.2.2.trans ((HT3.out.block g (by have := h.out.lt; have := HB1.out.size; have := HI.out.only.size; have := HB2.out.size; omega) (by simpa using h.out.gb)).trans ((HB2.out.block g (Array.getElem?_eq_some_iff.1 HI.out.row).1).trans HI.out.row)), by
          rw [left_next p HST.out, HPV.out, if_pos rfl]
          have q : IsGrpAt w1 w3 b N (stayQ p (Q.take k) ++ Q.drop (k + 1)) := ⟨_, HO3.out, by
            have := HD.out.del (Q' := stayQ p (Q.take k) ++ Q.drop (k + 1)) nm (fun x => by rw [← HNM.out]; exact left_del p HR.out HST.out)
            exact this⟩
          exact q.at HW4.out.2.1, by
          rw [gone_next p HST.out, HPV.out, if_pos rfl, List.map_append, HNM.out]
          exact hown', by rw [gone_next p HST.out, HPV.out, if_pos rfl, List.length_append, HI.out.len]; rfl, HW4.out.1⟩
        clear hown' hgrow
        go_roundw
        case rel => exact ⟨k + 1, n5 + 1, A6, c6, by omega, by omega, by go_num, rfl, HIN⟩
        case measure => simp [intOf]; omega
    · obtain rfl : k = m := by omega
      have hown := HI.out.own
      have HLEN : Hid ((goneQ p Q).length = n5) := Lib.hid (by have := HI.out.len; rwa [gone_all p Q hm.out] at this)
      have HOWN : Hid (wr.ownsRow w.heap.size 9 1 (.slice A5 n5 c5) n5 ((goneQ p Q).map (fun x => .string x))) := Lib.hid (by rw [gone_all p Q hm.out] at hown; exact own_base hown HB1.out.size)
      have hgp : Gp wr g b N G r (stayQ p Q) := ⟨HI.out.row, by
        have q := HI.out.map
        rw [left_all p Q hm.out] at q
        obtain ⟨D, ho, hd⟩ := q
        exact ⟨D, ho, hd.kept (kpS_map HG1.out.map HI.out.only)⟩⟩
      have HOB : Hid (Only [g, b] w wr) := Lib.hid ((Only.ofBelow HB1.out).trans HI.out.only (fun k hk => .inl (by simp at hk; simp [hk])))
      have f0 := hgp.froz 0
      have HGP := Lib.hid hgp
      clear hown hgp
      by_cases h0 : 0 < n5
      · have q0 : (0 : Int) < (n5 : Int) := by omega
        have g2 : wrap64 (G + 1) = G + 1 := by have := GG.out.gen; simp only [wrap64]; omega
        have HGO : Hid (goneG p G Q = min (G + 1) 1099511627776) := Lib.hid (by unfold goneG upG; rw [HLEN.out, if_neg (by omega)])
        obtain ⟨G2, hG2⟩ : ∃ G2, min (G + 1) 1099511627776 = G2 := ⟨_, rfl⟩
        have HG2 := Lib.hid hG2
        obtain ⟨W5, hW5⟩ : ∃ W5, wr.setCell ⟨g, 0, none⟩ (.int .i64 G2) = W5 := ⟨_, rfl⟩
        have HW5 := Lib.hid hW5
        have n5n : ¬ n5 = 0 := by omega
        go_wp2_with fail
        go_ret
        refine ⟨A5, n5, c5, rfl, HLEN.out, ?_, ?_, ?_⟩
        · rw [← HW5.out]
          exact own_at HOWN.out (fun j hj => Below.heap_setCell _ _ _ _ (fun e => by
            have e' : j = g := e
            have := (HOWN.out.lt j hj).1; have := h.out.lt; omega))
        · rw [HGO.out, HG2.out, ← HW5.out]
          exact HGP.out.setGen G2
        · rw [← HW5.out]
          exact HOB.out.setCell (.inl (by simp)) _
      · have q0 : ¬ (0 : Int) < (n5 : Int) := by omega
        obtain rfl : n5 = 0 := by omega
        go_wp2_with fail
        go_ret
        exact ⟨A5, 0, c5, rfl, HLEN.out, HOWN.out, by
          have : goneG p G Q = G := by unfold goneG; rw [HLEN.out, if_pos rfl]
          rw [this]; exact HGP.out, HOB.out⟩
/-! ### Leave, Expire -/
theorem one_str {w : World} {a : ByteArray} : (w.alloc (.cells #[.string a] 9)).cell? ⟨w.heap.size, 0, none⟩ = some (.string a) := (cell_of_row _ _ 0 _ _ _ (heap_alloc_new w _)).trans rfl
theorem one_int {w : World} {a : Int} : (w.alloc (.cells #[.int .i64 a] 3)).cell? ⟨w.heap.size, 0, none⟩ = some (.int .i64 a) := (cell_of_row _ _ 0 _ _ _ (heap_alloc_new w _)).trans rfl
set_option maxRecDepth 100000 in
set_option maxHeartbeats 1000000 in
theorem leave1_is (q : Nat) (x : ByteArray) (W : World) (s : Se) (A : Option Addr) (n c : Nat) (hq : W.cell? ⟨q, 0, none⟩ = some (.string x)) :
    Calls Try.prog 46 #[.agg #[.string s.m.name, .slice A n c, .int .i64 s.tm, .int .i64 s.sn], .pointer (some ⟨q, 0, none⟩)] W fun e w' => e = .returned (.bool (decide (s.m.name = x))) ∧ Below W.heap.size W w' := by
  obtain ⟨⟨b0, b1, b2, b3⟩, hb⟩ := box_se (w := W) (a := s.m.name) (A := A) (n := n) (c := c) (t := s.tm) (e := s.sn)
  have hq2 := cell_b hb hq
  have hlt := World.block_lt_of_cell? _ _ hq
  by_cases h : s.m.name = x
  · have e0 : (s.m.name.toList == x.toList) = true := by simp [h]
    have e1 : decide (s.m.name = x) = true := decide_eq_true h
    rw [e1]
    clear h e1
    obtain ⟨nm, hnm⟩ : ∃ nm, s.m.name = nm := ⟨_, rfl⟩
    rw [hnm] at e0 b0 b1 b2 b3 hb hq2 ⊢
    go_enter Try.func46, Try.ntmps46
    go_wp2_with fail
    go_ret
    exact ⟨rfl, hb⟩
  · have e0 : (s.m.name.toList == x.toList) = false := bytes_off h
    have e1 : decide (s.m.name = x) = false := decide_eq_false h
    rw [e1]
    clear h e1
    obtain ⟨nm, hnm⟩ : ∃ nm, s.m.name = nm := ⟨_, rfl⟩
    rw [hnm] at e0 b0 b1 b2 b3 hb hq2 ⊢
    go_enter Try.func46, Try.ntmps46
    go_wp2_with fail
    go_ret
    exact ⟨rfl, hb⟩
set_option maxRecDepth 100000 in
set_option maxHeartbeats 1000000 in
theorem expire1_is (q : Nat) (now : Int) (W : World) (s : Se) (A : Option Addr) (n c : Nat) (hq : W.cell? ⟨q, 0, none⟩ = some (.int .i64 now)) (hm : mayS s = true) :
    Calls Try.prog 56 #[.agg #[.string s.m.name, .slice A n c, .int .i64 s.tm, .int .i64 s.sn], .pointer (some ⟨q, 0, none⟩)] W fun e w' => e = .returned (.bool (lateB now s)) ∧ Below W.heap.size W w' := by
  obtain ⟨⟨b0, b1, b2, b3⟩, hb⟩ := box_se (w := W) (a := s.m.name) (A := A) (n := n) (c := c) (t := s.tm) (e := s.sn)
  have hq2 := cell_b hb hq
  have e1 : wrap64 (s.sn + s.tm) = s.sn + s.tm := by have := mayS_in hm; simp only [wrap64]; omega
  unfold lateB
  obtain ⟨nm, hnm⟩ : ∃ nm, s.m.name = nm := ⟨_, rfl⟩
  obtain ⟨tm, htm⟩ : ∃ nm, s.tm = nm := ⟨_, rfl⟩
  obtain ⟨sn, hsn⟩ : ∃ nm, s.sn = nm := ⟨_, rfl⟩
  rw [hnm, htm, hsn] at b0 b1 b2 b3 hb hq2
  rw [htm, hsn] at e1
  rw [hnm, htm, hsn]
  obtain ⟨su, hsu⟩ : ∃ nm, sn + tm = nm := ⟨_, rfl⟩
  rw [hsu] at e1 ⊢
  obtain ⟨v, hv⟩ : ∃ v, decide (su ≤ now) = v := ⟨_, rfl⟩
  rw [hv]
  clear hnm htm hsn
  go_enter Try.func56, Try.ntmps56
  go_wp2_with fail
  go_ret
  exact ⟨by first | rfl | (rw [← hv]; rfl) | (simp [hv]), hb⟩
def LeaveP (w : World) (g b N : Nat) (G : Int) (r : Bool) (Q : List Se) (a : ByteArray) (x : Int) (e : Ending) (w' : World) : Prop :=
  e = .returned (.int .i64 x) ∧ Gp w' g b N (leaveG G x) r (leaveQ Q a x) ∧ Only [g, b] w w'
set_option maxRecDepth 100000 in
set_option maxHeartbeats 2000000 in
theorem leave_is {w : World} {g b N : Nat} {G : Int} {r : Bool} {Q : List Se} (a : ByteArray) (gn x : Int) (h : Hid (Gp w g b N G r Q)) (GG : Hid (GoodG G Q)) (hs : Hid (a.size ≤ maxLen)) (HX : Hid (fenceE G Q a gn = x)) :
    Calls Try.prog 23 #[.pointer (some ⟨g, 0, none⟩), .string a, .int .i64 gn] w (LeaveP w g b N G r Q a x) := by
  have b0 := one_str (w := w) (a := a)
  have hb := one_box' (w := w) (.cells #[.string a] 9)
  obtain ⟨W, hW⟩ : ∃ W, w.alloc (.cells #[.string a] 9) = W := ⟨_, rfl⟩
  obtain ⟨H, hH⟩ : ∃ H, w.heap.size = H := ⟨_, rfl⟩
  rw [hW] at b0 hb
  rw [hH] at b0
  have HB := Lib.hid hb
  have HB0 := Lib.hid b0
  have HH := Lib.hid hH
  have H1 := Lib.hid (h.out.below hb)
  have HW := Lib.hid hW
  have HHB : Hid (H ≠ b) := Lib.hid (by have := h.out.map.lt; omega)
  clear hb hW hH
  by_cases hx : x = 0
  · subst hx
    obtain ⟨hh, rfl⟩ := fenceE_ok HX.out
    have HHH := Lib.hid hh
    clear hh
    obtain ⟨m, hm⟩ : ∃ m, Q.length = m := ⟨_, rfl⟩
    have HM := Lib.hid hm
    have hm8 : m ≤ 8 := by have := GG.out.len; omega
    clear hm
    go_enter Try.func23, Try.ntmps23
    go_wp2_with (first
      | (rw [HW.out, HH.out])
      | (go_at_call 44; refine (fence_is a gn 0 H1 hs HX).mono ?_; rintro e w2 ⟨rfl, hb2⟩; have HB2 := Lib.hid (HB.out.trans (hb2.mono HB.out.size)); have HC0 := Lib.hid (cell_b hb2 HB0.out); have H2 := Lib.hid (H1.out.below hb2); clear hb2)
      | (go_at_call 45; refine (let_leave (fun s => decide (s.m.name = a)) _ H2 GG HM hm8 HC0 HHB (Lib.hid (fun W' s A n c hq _ => leave1_is H a W' s A n c hq))).mono ?_; rintro e w3 ⟨A3, n3, c3, rfl, hl3, ho3, hg3, hon3⟩; have HG3 := Lib.hid hg3; have HON := Lib.hid ((Only.ofBelow HB2.out).trans hon3 (fun k hk => .inl hk)); clear hl3 ho3 hg3 hon3))
    go_ret
    refine ⟨rfl, ?_, HON.out⟩
    unfold leaveG leaveQ
    rw [if_pos rfl, if_pos rfl]
    have e : goneG (fun s => decide (s.m.name = a)) gn Q = upG gn := by
      unfold goneG
      rw [gone_one GG.out.rise HHH.out, if_neg (by simp)]
    have q := HG3.out
    rw [e] at q
    exact q
  · have HX0 := Lib.hid hx
    have e1 : (x == 0) = false := by simpa using hx
    clear hx
    go_enter Try.func23, Try.ntmps23
    go_wp2_with (first
      | (rw [HW.out, HH.out])
      | (go_at_call 44; refine (fence_is a gn x H1 hs HX).mono ?_; rintro e w2 ⟨rfl, hb2⟩; have HB2 := Lib.hid (HB.out.trans (hb2.mono HB.out.size)); clear hb2))
    go_ret
    refine ⟨rfl, ?_, Only.ofBelow HB2.out⟩
    unfold leaveG leaveQ
    rw [if_neg HX0.out, if_neg HX0.out]
    exact h.out.below HB2.out
set_option maxRecDepth 100000 in
set_option maxHeartbeats 2000000 in
theorem expire_is {w : World} {g b N : Nat} {G : Int} {r : Bool} {Q : List Se} (now : Int) (h : Hid (Gp w g b N G r Q)) (GG : Hid (GoodG G Q)) :
    Calls Try.prog 30 #[.pointer (some ⟨g, 0, none⟩), .int .i64 now] w (LetP w g b N G r (lateB now) Q) := by
  have b0 := one_int (w := w) (a := now)
  have hb := one_box' (w := w) (.cells #[.int .i64 now] 3)
  obtain ⟨W, hW⟩ : ∃ W, w.alloc (.cells #[.int .i64 now] 3) = W := ⟨_, rfl⟩
  obtain ⟨H, hH⟩ : ∃ H, w.heap.size = H := ⟨_, rfl⟩
  rw [hW] at b0 hb
  rw [hH] at b0
  have HB := Lib.hid hb
  have HB0 := Lib.hid b0
  have HH := Lib.hid hH
  have H1 := Lib.hid (h.out.below hb)
  have HW := Lib.hid hW
  have HHB : Hid (H ≠ b) := Lib.hid (by have := h.out.map.lt; omega)
  clear hb hW hH
  obtain ⟨m, hm⟩ : ∃ m, Q.length = m := ⟨_, rfl⟩
  have HM := Lib.hid hm
  have hm8 : m ≤ 8 := by have := GG.out.len; omega
  clear hm b0
  go_enter Try.func30, Try.ntmps30
  go_wp2_with (first
    | (rw [HW.out, HH.out])
    | (go_at_call 45; refine (let_expire (lateB now) _ H1 GG HM hm8 HB0 HHB (Lib.hid (fun W' s A n c hq hm => expire1_is H now W' s A n c hq hm))).mono ?_; rintro e w3 ⟨A3, n3, c3, rfl, hl3, ho3, hg3, hon3⟩; have HG3 := Lib.hid hg3; have HON := Lib.hid ((Only.ofBelow HB.out).trans hon3 (fun k hk => .inl hk)); have HL3 := Lib.hid hl3; have HO3 := Lib.hid ho3; clear hl3 ho3 hg3 hon3))
  go_ret
  exact ⟨A3, n3, c3, rfl, HL3.out, own_base HO3.out HB.out.size, HG3.out, HON.out⟩
end Go.Proofs.Ytidgifnnkaheeaa.L11
