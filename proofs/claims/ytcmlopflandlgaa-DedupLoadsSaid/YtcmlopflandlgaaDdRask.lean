/-
  The document's Ask.
-/
import Derived.Test.YtcmlopflandlgaaDdRef
namespace Go.Proofs.Ytcmlopflandlgaa.L8
open Go.RowKit
open Go.Maps
open L3 L4

theorem due_lastR {l : List Did} {i : Nat} {d : Did} (h : l[i]? = some d) (hi : i + 1 = l.length) : due l = wrap64 (d.s + d.n) := by
  unfold due
  rw [List.getLast?_eq_getElem?, show l.length - 1 = i by omega, h]
set_option maxRecDepth 100000 in
set_option maxHeartbeats 4000000 in
theorem rask_hit {B : Nat} {w : World} {k cE cL kb m : Nat} {AL : Option Addr} {es : List Int} {vs : List MV} (t : ByteArray) (p pr ep sq x er : Int) (v : Bool) (R : Option Addr) (n rc j L ne : Nat) (l : List Did) (h : Hid (RT B w k (some ⟨kb, 0, none⟩) cE AL cL es vs)) (hm : Hid (vs.length = m)) (hml : m ≤ 1000000) (HT : Hid (Cmp (vs.map (·.m)))) (ht : t.size ≤ maxLen) (hp : Hid ((Lit.int .i64 p).wf = true))
    (hne : Hid (es.length = ne)) (hl : ne ≤ 32) (hj : Hid (pr = (j : Int) + 1)) (j1 : (j : Int) < (ne : Int)) (hc : w.cell? ⟨kb, j, none⟩ = some (.int .i64 ep)) (Hl : Hid (lastOf (vs.map (·.m)) pr t p = l)) (HL : Hid (l.length = L)) (HL5 : Hid (L ≤ 5)) (HX : Hid (hitP l sq n = (x, v, er))) :
    Calls Try.prog 12 #[.pointer (some ⟨k, 0, none⟩), .agg #[.string t, .int .i64 p], .agg #[.int .i64 pr, .int .i64 ep, .int .i64 sq, .slice R n rc]] w fun e w' => e = .returned (.tuple #[.int .i64 x, .bool v, .int .i64 er]) ∧ Below w.heap.size w w' := by
  have HV : Hid (decide (1 ≤ pr ∧ pr ≤ es.length) = true) := Lib.hid (by rw [hne.out]; simp; have := hj.out; omega)
  obtain ⟨W, hW⟩ : ∃ W, (w.alloc (.cells #[.string t, .int .i64 p] 31)).alloc (.cells #[.int .i64 pr, .int .i64 ep, .int .i64 sq, .slice R n rc] 34) = W := ⟨_, rfl⟩
  obtain ⟨hbW, r1, r2⟩ : Below w.heap.size w W ∧ (W.heap[w.heap.size]? = some (.cells #[.string t, .int .i64 p] 31 (0, 0)) ∧ W.heap[w.heap.size + 1]? = some (.cells #[.int .i64 pr, .int .i64 ep, .int .i64 sq, .slice R n rc] 34 (0, 0))) := by
    rw [← hW]; exact ask_boxes
  have b1 : W.cell? ⟨w.heap.size, 0, none⟩ = some (.string t) := (cell_of_row _ _ 0 _ _ _ r1).trans rfl
  have b2 : W.cell? ⟨w.heap.size, 1, none⟩ = some (.int .i64 p) := (cell_of_row _ _ 1 _ _ _ r1).trans rfl
  have b3 : W.cell? ⟨w.heap.size + 1, 0, none⟩ = some (.int .i64 pr) := (cell_of_row _ _ 0 _ _ _ r2).trans rfl
  have b4 : W.cell? ⟨w.heap.size + 1, 1, none⟩ = some (.int .i64 ep) := (cell_of_row _ _ 1 _ _ _ r2).trans rfl
  have b5 : W.cell? ⟨w.heap.size + 1, 2, none⟩ = some (.int .i64 sq) := (cell_of_row _ _ 2 _ _ _ r2).trans rfl
  have b6 : W.cell? ⟨w.heap.size + 1, 3, none⟩ = some (.slice R n rc) := (cell_of_row _ _ 3 _ _ _ r2).trans rfl
  have HTW := Lib.hid (h.out.below hbW)
  have c0 := HTW.out.c0
  rw [hne.out] at c0
  have ck := (hbW.cell (p := ⟨kb, j, none⟩) (World.block_lt_of_cell? _ _ hc)).trans hc
  have i0 : (pr == 0) = false := by simpa using (by have := hj.out; omega : pr ≠ 0)
  have e1 : wrap64 (pr - 1) = (j : Int) := by have := hj.out; simp only [wrap64]; omega
  have e2 : pr - 1 = (j : Int) := by have := hj.out; omega
  have j0 : (0 : Int) ≤ (j : Int) := by omega
  have HW := Lib.hid hW
  have HBW := Lib.hid hbW
  have t1 : ¬ ep < ep := by omega
  have t2 : ¬ ep > ep := by omega
  have B1 := Lib.hid b1
  have B2 := Lib.hid b2
  have B3 := Lib.hid b3
  have B5 := Lib.hid b5
  have B6 := Lib.hid b6
  clear hbW r1 r2 hc hW h
  go_enter Try.func12, Try.ntmps12
  go_upto_region 3 with fail
  rw [HW.out]
  go_quiet ((go_at_call 28; exact Calls.quiet_of_same (ris_q pr true HTW HV _ (drewN_below (Below.refl _ _) _))))
  obtain ⟨W4, hW4⟩ : ∃ W4, W.drewN nq = W4 := ⟨_, rfl⟩
  have hb4 : Below W.heap.size W W4 := by rw [← hW4]; exact drewN_below (Below.refl _ _) _
  rw [hW4]
  replace b3 := cell_at hb4 b3; replace b4 := cell_at hb4 b4; replace c0 := cell_at hb4 c0; replace ck := cell_at hb4 ck
  clear b1 b2 b5 b6 hW4
  go_upto_region 5 with fail
  go_quiet (fail)
  obtain ⟨W5, hW5⟩ : ∃ W5, W4.drewN nq = W5 := ⟨_, rfl⟩
  have hb5 : Below W.heap.size W W5 := by rw [← hW5]; exact drewN_below hb4 _
  rw [hW5]
  have HB5 := Lib.hid hb5
  clear b3 b4 c0 ck hb4 hW5 hb5 e1 e2 t1 t2 i0
  go_upto_region 7 with fail
  have a1 := cell_at HB5.out B1.out
  have a2 := cell_at HB5.out B2.out
  have a3 := cell_at HB5.out B3.out
  go_upto_region 8 with (go_at_call 30; refine (rlast_is pr p t l L (Lib.hid (HTW.out.below HB5.out)) hm hml HT ht hp Hl HL).mono ?_; rintro e w7 ⟨X, c, rfl, hR7, hn7, hb7⟩; have HR7 := Lib.hid hR7; have HB7 := Lib.hid hb7; clear hR7 hb7)
  have HBA : Hid (Below W.heap.size W w7) := Lib.hid (HB5.out.trans (HB7.out.mono HB5.out.size))
  obtain ⟨dv, hdv⟩ : ∃ dv, due l = dv := ⟨_, rfl⟩
  have HDV := Lib.hid hdv
  clear a1 a2 a3 hdv hn7 HB7
  go_upto_if 53 with fail
  go_cut [10] (fun sv wc => sv = .int .i64 dv ∧ Hid (Below w7.heap.size w7 wc))
  case first =>
    by_cases z0 : L = 0
    · have hl0 : l = [] := List.eq_nil_of_length_eq_zero (HL.out.trans z0)
      have hd0 : dv = 0 := by rw [← HDV.out, hl0]; rfl
      subst hd0
      subst z0
      go_wp2_with fail
      go_meet
      exact ⟨rfl, Lib.hid (Below.refl _ _)⟩
    · obtain ⟨g1, o1, cs, fr, rfl, hg1, hcells⟩ := HR7.out.1 (by rw [HL.out]; omega)
      obtain ⟨i, hi⟩ : ∃ i, i + 1 = L := ⟨L - 1, by omega⟩
      obtain ⟨⟨ds, dn, dd⟩, hd⟩ : ∃ d, l[i]? = some d := ⟨_, List.getElem?_eq_getElem (by rw [HL.out]; omega)⟩
      obtain ⟨k0, k1, _⟩ := hcells i _ hd
      dsimp only at k0 k1
      have hdu := due_lastR hd (by rw [HL.out]; exact hi)
      rw [HDV.out] at hdu
      dsimp only at hdu
      have y1 : wrap64 ((L : Int) - 1) = (i : Int) := by have := HL5.out; simp only [wrap64]; omega
      have y2 : (L : Int) - 1 = (i : Int) := by omega
      have y3 : (0 : Int) ≤ (i : Int) := by omega
      have y6 : IntKind.i64.wrap ((L : Int) - 1) = (i : Int) := by rw [y2]; exact IntWalk.i64_in _ (by have := HL5.out; omega)
      have y7 : IntKind.i64.wrap (i : Int) = (i : Int) := IntWalk.i64_in _ (by have := HL5.out; omega)
      have y4 : (i : Int) < (L : Int) := by omega
      have y5 : (0 : Int) < (L : Int) := by omega
      clear hcells hd hg1 hi z0
      go_upto_region 9 with fail
      go_quiet (fail)
      go_wp2_with fail
      go_meet
      exact ⟨by rw [hdu], Lib.hid (drewN_below (Below.refl _ _) _)⟩
  case rest =>
    obtain ⟨rfl, HBC⟩ := hcut
    have HBX : Hid (Below W.heap.size W wc) := Lib.hid (HBA.out.trans (HBC.out.mono HBA.out.size))
    have d2 := cell_at HBX.out B5.out
    have HRE : Hid (RowD wc X l) := Lib.hid (HR7.out.1.below HBC.out)
    have HFIN : Hid (Below w.heap.size w wc) := Lib.hid (HBW.out.trans (HBX.out.mono HBW.out.size))
    have hx := HX.out
    unfold hitP at hx
    rw [HDV.out] at hx
    by_cases hs : sq = dv
    · have s1 : (sq == dv) = true := by simpa using hs
      obtain ⟨rfl, rfl, rfl⟩ : 0 = x ∧ false = v ∧ 0 = er := by rw [if_pos hs] at hx; simpa using hx
      clear hx hs HX
      go_wp2_with fail
      go_ret3
      exact ⟨rfl, HFIN.out⟩
    · have s1 : (sq == dv) = false := by simpa using hs
      rw [if_neg hs] at hx
      have HX2 : Hid ((match found l sq n with | some d => (d.o, true, (0 : Int)) | none => (0, false, 82)) = (x, v, er)) := Lib.hid hx
      obtain ⟨res, hres⟩ : ∃ res, found l sq n = res := ⟨_, rfl⟩
      rw [hres] at HX2
      have HRES := Lib.hid hres
      clear hx hs HX hres
      go_wp2_with fail
      clear s1 d2
      go_loopw [11] (fun i wr => ∃ q : Nat, q ≤ L ∧ i = .int .i64 q ∧ Hid (found (l.drop q) sq n = res) ∧ Hid (Below wc.heap.size wc wr)) (fun i _ => L - (intOf i).toNat)
      case atStart => exact ⟨0, by omega, rfl, Lib.hid (by rw [List.drop_zero]; exact HRES.out), Lib.hid (Below.refl _ _)⟩
      case round =>
        obtain ⟨q, hq, rfl, HF, HBE⟩ := hrel
        by_cases hlt : q < L
        · obtain ⟨g1, o1, cs, fr, rfl, hg1, hcells⟩ := (HRE.out.below HBE.out) (by rw [HL.out]; omega)
          obtain ⟨⟨ds, dn, dd⟩, hd⟩ : ∃ d, l[q]? = some d := ⟨_, List.getElem?_eq_getElem (by rw [HL.out]; omega)⟩
          obtain ⟨k0, k1, k2⟩ := hcells q _ hd
          have hL5 : L ≤ 5 := HL5.out
          have g2 := cell_at HBE.out (cell_at HBX.out B5.out)
          have g3 := cell_at HBE.out (cell_at HBX.out B6.out)
          have q0 : (0 : Int) ≤ (q : Int) := by omega
          have q1 : (q : Int) < (L : Int) := by omega
          have hnx := found_next (sq := sq) (n := n) hd
          rw [HF.out] at hnx
          have HNX := Lib.hid hnx
          dsimp only at k0 k1 k2
          clear hcells hg1 hd hnx
          by_cases z1 : ds = sq
          · have y1 : (ds == sq) = true := by simpa using z1
            by_cases z2 : dn = (n : Int)
            · have y2 : (dn == (n : Int)) = true := by simpa using z2
              obtain ⟨rfl, rfl, rfl⟩ : dd = x ∧ true = v ∧ 0 = er := by
                have e := HX2.out
                rw [HNX.out, if_pos ⟨z1, z2⟩] at e
                simpa using e
              clear z1 z2 HNX
              go_upto_region 15 with fail
              go_quiet (fail)
              go_wp2_with fail
              go_ret3
              exact ⟨rfl, drewN_below (HFIN.out.trans (HBE.out.mono HFIN.out.size)) _⟩
            · have y2 : (dn == (n : Int)) = false := by simpa using z2
              have HF2 : Hid (found (l.drop (q + 1)) sq n = res) := Lib.hid (by have e := HNX.out; rw [if_neg (fun h => z2 h.2)] at e; exact e.symm)
              clear z1 z2 HNX
              go_upto_region 15 with fail
              go_quiet (fail)
              go_wp2_with fail
              go_roundw
              case rel => exact ⟨q + 1, by omega, by go_num, HF2, Lib.hid (drewN_below HBE.out _)⟩
              case measure => simp [intOf]; omega
          · have y1 : (ds == sq) = false := by simpa using z1
            have HF2 : Hid (found (l.drop (q + 1)) sq n = res) := Lib.hid (by have e := HNX.out; rw [if_neg (fun h => z1 h.1)] at e; exact e.symm)
            clear z1 HNX
            go_upto_region 15 with fail
            go_quiet (fail)
            go_wp2_with fail
            go_roundw
            case rel => exact ⟨q + 1, by omega, by go_num, HF2, Lib.hid (drewN_below HBE.out _)⟩
            case measure => simp [intOf]; omega
        · obtain rfl : q = L := by omega
          obtain ⟨rfl, rfl, rfl⟩ : 0 = x ∧ false = v ∧ 82 = er := by
            have e := HX2.out
            have e2 := HF.out
            rw [List.drop_of_length_le (by rw [HL.out]; exact Nat.le_refl _)] at e2
            rw [← e2] at e
            simpa [found] using e
          go_wp2_with fail
          go_ret3
          exact ⟨rfl, HFIN.out.trans (HBE.out.mono HFIN.out.size)⟩

set_option maxRecDepth 100000 in
set_option maxHeartbeats 4000000 in
theorem rask_is {B : Nat} {w : World} {k cE cL m : Nat} {AE AL : Option Addr} {es : List Int} {vs : List MV} (t : ByteArray) (p pr ep sq x er : Int) (v : Bool) (R : Option Addr) (n rc : Nat) (h : Hid (RT B w k AE cE AL cL es vs)) (hm : Hid (vs.length = m)) (hml : m ≤ 1000000) (G : Hid (Good es (vs.map (·.m)))) (ht : t.size ≤ maxLen) (hp : Hid ((Lit.int .i64 p).wf = true))
    (HX : Hid (askP es (vs.map (·.m)) t p pr ep sq n = (x, v, er))) :
    Calls Try.prog 12 #[.pointer (some ⟨k, 0, none⟩), .agg #[.string t, .int .i64 p], .agg #[.int .i64 pr, .int .i64 ep, .int .i64 sq, .slice R n rc]] w fun e w' => e = .returned (.tuple #[.int .i64 x, .bool v, .int .i64 er]) ∧ Below w.heap.size w w' := by
  obtain ⟨ne, hne⟩ : ∃ n, es.length = n := ⟨_, rfl⟩
  have hl : ne ≤ 32 := by rw [← hne]; exact G.out.len
  have hx := HX.out
  unfold askP at hx
  rw [hne] at hx
  by_cases h0 : pr = 0
  · rw [if_pos h0] at hx
    obtain ⟨rfl, rfl, rfl⟩ : 0 = x ∧ false = v ∧ 0 = er := by simpa using hx
    subst h0
    have hb := (ask_boxes (w := w) (pr := 0) (ep := ep) (sq := sq) (p := p) (t := t) (v := .slice R n rc)).1
    clear hx hne
    go_enter Try.func12, Try.ntmps12
    go_wp2_with fail
    go_ret3
    exact ⟨rfl, hb⟩
  · rw [if_neg h0] at hx
    have i0 : (pr == 0) = false := by simpa using h0
    obtain ⟨W, hW⟩ : ∃ W, (w.alloc (.cells #[.string t, .int .i64 p] 31)).alloc (.cells #[.int .i64 pr, .int .i64 ep, .int .i64 sq, .slice R n rc] 34) = W := ⟨_, rfl⟩
    obtain ⟨hb, r1, r2⟩ : Below w.heap.size w W ∧ (W.heap[w.heap.size]? = some (.cells #[.string t, .int .i64 p] 31 (0, 0)) ∧ W.heap[w.heap.size + 1]? = some (.cells #[.int .i64 pr, .int .i64 ep, .int .i64 sq, .slice R n rc] 34 (0, 0))) := by
      rw [← hW]; exact ask_boxes
    have b3 : W.cell? ⟨w.heap.size + 1, 0, none⟩ = some (.int .i64 pr) := (cell_of_row _ _ 0 _ _ _ r2).trans rfl
    have b4 : W.cell? ⟨w.heap.size + 1, 1, none⟩ = some (.int .i64 ep) := (cell_of_row _ _ 1 _ _ _ r2).trans rfl
    have HTW := Lib.hid (h.out.below hb)
    have c0 := HTW.out.c0
    rw [hne] at c0
    have HW := Lib.hid hW
    have HB := Lib.hid hb
    by_cases h1 : ¬ (1 ≤ pr ∧ pr ≤ ne)
    · rw [if_pos h1] at hx
      obtain ⟨rfl, rfl, rfl⟩ : 0 = x ∧ false = v ∧ 80 = er := by simpa using hx
      have HV : Hid (decide (1 ≤ pr ∧ pr ≤ es.length) = false) := Lib.hid (by rw [hne]; exact decide_eq_false h1)
      clear hx h1 hne h0 hb r1 r2 hW h
      go_enter Try.func12, Try.ntmps12
      go_upto_region 3 with fail
      rw [HW.out]
      go_quiet ((go_at_call 28; exact Calls.quiet_of_same (ris_q pr false HTW HV _ (drewN_below (Below.refl _ _) _))))
      go_wp2_with fail
      go_ret3
      exact ⟨rfl, drewN_below HB.out _⟩
    · rw [if_neg h1] at hx
      have h2 : 1 ≤ pr ∧ pr ≤ ne := by omega
      obtain ⟨j, hj⟩ : ∃ j : Nat, (pr - 1).toNat = j := ⟨_, rfl⟩
      have hj' : pr = (j : Int) + 1 := by omega
      have hat : es[j]? = some (es.getD j 0) := at_getD (by omega)
      obtain ⟨kb, rfl, _, _, _, hc, hf⟩ := own_num h.out.eown hat
      rw [hj] at hx
      obtain ⟨y, hy⟩ : ∃ y, es.getD j 0 = y := ⟨_, rfl⟩
      rw [hy] at hx hc
      by_cases hye : y = ep
      · subst hye
        rw [if_neg (by omega), if_neg (by omega)] at hx
        have hL5 : (lastOf (vs.map (·.m)) pr t p).length ≤ 5 := G.out.last_len _ _ _
        exact rask_hit t p pr y sq x er v R n rc j _ ne _ h hm hml (Lib.hid (fun q hq => G.out.txt q hq)) ht hp (Lib.hid hne) hl (Lib.hid hj') (by omega) hc (Lib.hid rfl) (Lib.hid rfl) (Lib.hid hL5) (Lib.hid hx)
      · have HV : Hid (decide (1 ≤ pr ∧ pr ≤ es.length) = true) := Lib.hid (by rw [hne]; exact decide_eq_true h2)
        have ck := cell_at hb hc
        have e1 : wrap64 (pr - 1) = (j : Int) := by simp only [wrap64]; omega
        have e2 : pr - 1 = (j : Int) := by omega
        have j0 : (0 : Int) ≤ (j : Int) := by omega
        have j1 : (j : Int) < (ne : Int) := by omega
        by_cases h3 : ep < y
        · rw [if_pos h3] at hx
          have h3' : ¬ y < ep := by omega
          have h3'' : y > ep := h3
          obtain ⟨rfl, rfl, rfl⟩ : 0 = x ∧ false = v ∧ 81 = er := by simpa using hx
          clear hx h1 hne h0 hb r1 r2 hW h2 hj hj' hat hf hy hye hc
          go_enter Try.func12, Try.ntmps12
          go_upto_region 3 with fail
          rw [HW.out]
          go_quiet ((go_at_call 28; exact Calls.quiet_of_same (ris_q pr true HTW HV _ (drewN_below (Below.refl _ _) _))))
          obtain ⟨W4, hW4⟩ : ∃ W4, W.drewN nq = W4 := ⟨_, rfl⟩
          have hb4 : Below W.heap.size W W4 := by rw [← hW4]; exact drewN_below (Below.refl _ _) _
          rw [hW4]
          replace b3 := cell_at hb4 b3; replace b4 := cell_at hb4 b4; replace c0 := cell_at hb4 c0; replace ck := cell_at hb4 ck
          have HB4 := Lib.hid hb4
          clear hW4 hb4
          go_upto_region 5 with fail
          go_quiet (fail)
          go_wp2_with fail
          go_ret3
          exact ⟨rfl, drewN_below (HB.out.trans (HB4.out.mono HB.out.size)) _⟩
        · rw [if_neg h3, if_pos (by omega)] at hx
          have h4 : y < ep := by omega
          obtain ⟨rfl, rfl, rfl⟩ : 0 = x ∧ false = v ∧ 80 = er := by simpa using hx
          clear hx h1 hne h0 hb r1 r2 hW h2 hj hj' hat hf hy hye hc h3
          go_enter Try.func12, Try.ntmps12
          go_upto_region 3 with fail
          rw [HW.out]
          go_quiet ((go_at_call 28; exact Calls.quiet_of_same (ris_q pr true HTW HV _ (drewN_below (Below.refl _ _) _))))
          go_wp2_with fail
          go_ret3
          exact ⟨rfl, drewN_below HB.out _⟩
end Go.Proofs.Ytcmlopflandlgaa.L8
