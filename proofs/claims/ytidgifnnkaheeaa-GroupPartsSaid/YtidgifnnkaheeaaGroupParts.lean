/-
  The statement GroupParts, without conditions.
-/
import Derived.Test.YtidgifnnkaheeaaRows
import Derived.WalkKit
import Derived.ProofKit
import Derived.OpenShut
import Derived.ShutString
import Derived.ChangeOld
import Derived.Below
import Derived.Test.YtidgifnnkaheeaaMGpMine
import Derived.Test.YtidgifnnkaheeaaGpCut
import Derived.Test.YtidgifnnkaheeaaGpParts
import Derived.LoopTactic
import Derived.IntWalk
import Derived.Deep.RegionHeld
import Derived.Deep.RegionLaw
import Derived.Deep.AppendLies
import Derived.Deep.RegionHeld3
import Derived.Deep.QuietTactic
import Derived.BigQuiet
import Derived.Deep.DeepCutAuto
import Derived.Deep.Cut
import Derived.Deep.CutBlock
import Derived.Outline
namespace Go.Proofs.Ytidgifnnkaheeaa.groupParts
open Go.ChangeShapes Go.WideShapes Go.ChangeAt Go.RowKit Go.Deep
open Go.ChangeMaps (open_string shut_string)
open L3 L4 L9 L10 L11

theorem own : ownKnob Try.prog.godebug = none := by kernel_rfl
theorem laidOut : laidOutB Try.prog = true := by kernel_rfl

theorem oc_cells {w : World} {A : Option Addr} {l : List Oc} (h : RowsO ocC 8 w A l) {i : Nat} {r : Oc} (hi : l[i]? = some r) : ∃ g o, A = some ⟨g, o, none⟩ ∧ g < w.heap.size ∧ w.cell? ⟨g, o + i * 8, none⟩ = some (.int .i64 r.kind) ∧ w.cell? ⟨g, o + i * 8 + 1, none⟩ = some (.string r.v.s.m.name) ∧ w.cell? ⟨g, o + i * 8 + 2, none⟩ = some (.slice r.v.A r.v.s.m.ts.length r.v.c) ∧ w.cell? ⟨g, o + i * 8 + 3, none⟩ = some (.int .i64 r.v.s.tm) ∧ w.cell? ⟨g, o + i * 8 + 4, none⟩ = some (.int .i64 r.v.s.sn) ∧ w.cell? ⟨g, o + i * 8 + 5, none⟩ = some (.int .i64 r.gen) ∧ w.cell? ⟨g, o + i * 8 + 6, none⟩ = some (.int .i64 r.now) ∧ w.cell? ⟨g, o + i * 8 + 7, none⟩ = some (.bool r.rb) := by
  obtain ⟨g, o, e, hg, hc⟩ := h (by have := (List.getElem?_eq_some_iff.1 hi).1; omega)
  have q := hc i r hi
  exact ⟨g, o, e, hg, q 0 _ rfl, q 1 _ rfl, q 2 _ rfl, q 3 _ rfl, q 4 _ rfl, q 5 _ rfl, q 6 _ rfl, q 7 _ rfl⟩
theorem rows_keep {α : Type} {row : α → List Value} {k : Nat} {w w' : World} {A : Option Addr} {l : List α} (h : RowsO row k w A l) (b : Below w.heap.size w w') : RowsO row k w' A l := fun h0 => by
  obtain ⟨g, o, e, hg, hc⟩ := h h0
  exact ⟨g, o, e, Nat.lt_of_lt_of_le hg b.size, fun i r hr j u hu => (b.cell (p := ⟨g, o + i * k + j, none⟩) hg).trans (hc i r hr j u hu)⟩
theorem row_only {w w' : World} {S : List Nat} {g : Nat} {o : Obj} (h : w.heap[g]? = some o) (k : Only S w w') (hn : g ∉ S) : w'.heap[g]? = some o := (k.block g (Array.getElem?_eq_some_iff.1 h).1 hn).trans h
theorem row_below {w w' : World} {g : Nat} {o : Obj} (h : w.heap[g]? = some o) (k : Below w.heap.size w w') : w'.heap[g]? = some o := (k.block g (Array.getElem?_eq_some_iff.1 h).1).trans h

def cutP (p : Pt) : Pt := ⟨L11.cutS p.t, p.n⟩
theorem topicInfo11 : (Try.prog.info? 55).map (fun i => (i.zero, i.size, i.bytes)) = some (some (.agg #[.string ⟨#[]⟩, .int .i64 0]), 2, 24) := by kernel_rfl
theorem only_grown0 {W w2 : World} {n c : Nat} {A : Option Addr} {o : Obj} (h : (W.drew.alloc o).grownBy w2 (Value.slice A n c).ownBlock) : Only (bk A) W w2 :=
  (((Only.refl _ W).drew).alloc o).grown h (fun k e => .inl (mem_bk.2 (by rw [blk_own] at e; exact e)))
theorem told_at {w w' : World} {Q : List Se} {G y : Int} {r : Bool} {l : List Pt} {i : Nat} {s : Se} {nm : ByteArray} {LL : List (List Pt)} {e : Ending} (g : GoodG G Q) (hi : Q[i]? = some s) (hn : s.m.name = nm) (hL : toldL y r l Q = LL) (h : AsgP w r Q nm l y e w') :
    ∃ X A c, LL[i]? = some X ∧ e = .returned (.tuple #[.slice A X.length c, .int .i64 y]) ∧ ReadsP w' w'.heap.size A X := by
  subst hn; subst hL; exact told_one g hi h
theorem told_no {w w' : World} {Q : List Se} {r : Bool} {l : List Pt} {nm : ByteArray} {z : Int} {e : Ending} (hz : z ≠ 0) (h : AsgP w r Q nm l z e w') : e = .returned (.tuple #[.slice none 0 0, .int .i64 z]) ∧ Below w.heap.size w w' := by
  rcases h.2 with ⟨_, h2⟩ | ⟨h1, _⟩
  · exact ⟨h2, h.1⟩
  · exact absurd h1 hz
theorem keep5g {W w1 w2 : World} {a1 a2 a3 a4 a5 : Addr} {v1 v2 v3 v4 v5 : Value} (h : (w1.cell? a1 = some v1 ∧ w1.cell? a2 = some v2 ∧ w1.cell? a3 = some v3 ∧ w1.cell? a4 = some v4 ∧ w1.cell? a5 = some v5) ∧ Below W.heap.size W w1) (hb : Below w1.heap.size w1 w2) : (w2.cell? a1 = some v1 ∧ w2.cell? a2 = some v2 ∧ w2.cell? a3 = some v3 ∧ w2.cell? a4 = some v4 ∧ w2.cell? a5 = some v5) ∧ Below W.heap.size W w2 := by
  obtain ⟨⟨h1, h2, h3, h4, h5⟩, h9⟩ := h
  have k : ∀ {a : Addr} {v : Value}, w1.cell? a = some v → w2.cell? a = some v := fun q => (hb.cell (World.block_lt_of_cell? _ _ q)).trans q
  exact ⟨⟨k h1, k h2, k h3, k h4, k h5⟩, h9.trans (hb.mono h9.size)⟩

set_option maxRecDepth 100000 in
set_option maxHeartbeats 16000000 in
theorem walk (W : World) (A0 : Option Addr) (l0 : List Oc) (c0 : Nat) (R0 : Hid (RowsO ocC 8 W A0 l0)) (S0 : Hid (∀ r ∈ l0, IsOc W r)) (Z0 : l0.length ≤ maxLen) (A1 : Option Addr) (l1 : List Pt) (c1 : Nat) (R1 : Hid (RowsO ptC 2 W A1 l1)) (S1 : Hid (∀ r ∈ l1, r.t.size ≤ maxLen ∧ (Lit.int .i64 r.n).wf = true)) (Z1 : l1.length ≤ maxLen) :
    Calls Try.prog 4 #[.slice A0 l0.length c0, .slice A1 l1.length c1] W fun e w' => e = .returned (.bool true) ∧ Below W.heap.size W w' := by
  obtain ⟨n0, hn0⟩ : ∃ n, l0.length = n := ⟨_, rfl⟩
  have HN0 := Lib.hid hn0
  have Z0 : n0 ≤ 9223372036854775807 := by unfold maxLen at Z0; omega
  obtain ⟨n1, hn1⟩ : ∃ n, l1.length = n := ⟨_, rfl⟩
  have HN1 := Lib.hid hn1
  have Z1 : n1 ≤ 9223372036854775807 := by unfold maxLen at Z1; omega
  rw [hn0, hn1]
  clear hn0 hn1
  go_enter Try.func4, Try.ntmps4
  go_upto_block 0 with (go_at_call 21; refine (m_new W W (Below.refl _ _)).mono ?_; rintro e w1 ⟨g, b, rfl, h1, -⟩; have H1 := Lib.hid h1; clear h1)
  go_cut [6, 7] from 24 to 63 (fun _ _ wc => ∃ (N : Nat) (G : Int) (r : Bool) (Q : List Se), N ≤ 40 ∧ Hid (GM W wc g b N G r Q))
  case first =>
    go_wp2_with fail
    go_loopw [6] (fun i wr => ∃ (k N : Nat) (G : Int) (r : Bool) (Q : List Se), k ≤ n0 ∧ k ≤ 40 ∧ i = .int .i64 k ∧ N ≤ k ∧ Hid (GM W wr g b N G r Q)) (fun i _ => n0 - (intOf i).toNat)
    case atStart => exact ⟨0, 0, 0, false, [], by omega, by omega, rfl, by omega, H1⟩
    case round =>
      obtain ⟨k, N, G, rg, Q, hk, hk40, rfl, hN, HG⟩ := hrel
      by_cases hlt : k < n0 ∧ k < 40
      · obtain ⟨hlt, hlt40⟩ := hlt
        obtain ⟨r, hr⟩ : ∃ r, l0[k]? = some r := ⟨_, List.getElem?_eq_getElem (by rw [HN0.out]; exact hlt)⟩
        have HBG : Hid (Below W.heap.size W wr) := Lib.hid HG.out.bel
        obtain ⟨g0, o0, rfl, hg0, d0, d1, d2, d3, d4, d5, d6, d7⟩ := oc_cells (rows_keep R0.out HBG.out) hr
        obtain ⟨g0', o0', eA, hg0W, -⟩ := R0.out (by rw [HN0.out]; omega)
        have hgW : g0 < W.heap.size := by injection eA with eA; injection eA with eA; omega
        have HOC := Lib.hid (S0.out r (List.mem_of_getElem? hr))
        obtain ⟨kd, hkd⟩ : ∃ kd, r.kind = kd := ⟨_, rfl⟩
        obtain ⟨nm, hnm⟩ : ∃ nm, r.v.s.m.name = nm := ⟨_, rfl⟩
        obtain ⟨tn, htn0⟩ : ∃ tn, r.v.s.m.ts.length = tn := ⟨_, rfl⟩
        obtain ⟨tc, htc⟩ : ∃ tc, r.v.c = tc := ⟨_, rfl⟩
        obtain ⟨tm, htm⟩ : ∃ tm, r.v.s.tm = tm := ⟨_, rfl⟩
        obtain ⟨sn, hsn⟩ : ∃ sn, r.v.s.sn = sn := ⟨_, rfl⟩
        obtain ⟨gn, hgn⟩ : ∃ gn, r.gen = gn := ⟨_, rfl⟩
        obtain ⟨rb, hrb⟩ : ∃ rb, r.rb = rb := ⟨_, rfl⟩
        obtain ⟨kk, hkk⟩ : ∃ kk, (cutSe r.v.s).m.ts.length = kk := ⟨_, rfl⟩
        rw [hkd] at d0
        rw [hnm] at d1
        rw [htn0, htc] at d2
        rw [htm] at d3
        rw [hsn] at d4
        rw [hgn] at d5
        rw [hrb] at d7
        have HS : Hid (r.v.s.m.name = nm ∧ r.v.s.m.ts.length = tn ∧ r.v.s.tm = tm ∧ r.v.s.sn = sn) := Lib.hid ⟨hnm, htn0, htm, hsn⟩
        have HSZ : Hid (r.v.s.m.name.size ≤ maxLen ∧ ∀ x ∈ r.v.s.m.ts, x.size ≤ maxLen) := Lib.hid ⟨HOC.out.1.1, HOC.out.1.2.2.1⟩
        have htn : tn ≤ maxLen := by rw [← htn0]; exact HOC.out.1.2.2.2.1
        have HKK := Lib.hid hkk
        have hkk10 : kk ≤ 1000000 := by rw [← hkk]; have := cutSe_len r.v.s; omega
        have k0 : (0 : Int) ≤ (k : Int) := by omega
        have k1 : (k : Int) < (n0 : Int) := by omega
        have k2 : (k : Int) < 40 := by omega
        have D0 := Lib.hid d0
        have D5 := Lib.hid d5
        have D7 := Lib.hid d7
        clear hr hkd htc hgn hrb hkk hnm htn0 htm hsn eA hg0W d0 d5 d6 d7
        go_upto_region 8 with (go_at_call 22; refine (cut_is _ r.v.s r.v.A tn tc kk nm tm sn HS (Lib.hid (rows_keep HOC.out.1.2.1 HBG.out)) HSZ htn HKK).mono ?_; rintro e w2 ⟨A2, c2, rfl, ht2, hb2⟩; have HT2 := Lib.hid ht2; have HB2 := Lib.hid hb2; clear ht2 hb2)
        obtain ⟨cn, hcn⟩ : ∃ cn, (cutSe r.v.s).m.name = cn := ⟨_, rfl⟩
        obtain ⟨-, -, q3, q4⟩ := HS.out
        rw [q3, q4, hcn]
        have HCS : Hid ((cutSe r.v.s).m.name = cn ∧ (cutSe r.v.s).m.ts.length = kk ∧ (cutSe r.v.s).tm = tm ∧ (cutSe r.v.s).sn = sn) := Lib.hid ⟨hcn, HKK.out, q3, q4⟩
        have HCZ : Hid ((cutSe r.v.s).m.name.size ≤ 281474976710656 ∧ ∀ x ∈ (cutSe r.v.s).m.ts, x.size ≤ 281474976710656) := Lib.hid (cutSe_sz r.v.s)
        have HCN : Hid (cn.size ≤ maxLen) := Lib.hid (by rw [← hcn]; have := (cutSe_sz r.v.s).1; unfold maxLen; omega)
        obtain ⟨se, hse⟩ : ∃ se, cutSe r.v.s = se := ⟨_, rfl⟩
        rw [hse] at HCS HCZ HT2
        have hr6 := heap_alloc_new w2 (.cells #[.string cn, .slice A2 kk c2, .int .i64 tm, .int .i64 sn] 47)
        have hb6 := one_box' (w := w2) (.cells #[.string cn, .slice A2 kk c2, .int .i64 tm, .int .i64 sn] 47)
        obtain ⟨W6, hW6⟩ : ∃ W6, w2.alloc (.cells #[.string cn, .slice A2 kk c2, .int .i64 tm, .int .i64 sn] 47) = W6 := ⟨_, rfl⟩
        obtain ⟨b6, hb6e⟩ : ∃ b, w2.heap.size = b := ⟨_, rfl⟩
        rw [hW6, hb6e] at hr6
        rw [hW6] at hb6 ⊢
        rw [hb6e]
        have HT6 := Lib.hid (HT2.out.below hb6)
        have HG6 := Lib.hid ((HG.out.below HB2.out).below hb6)
        have HLT6 : Hid (g < b6 ∧ b < b6 ∧ g0 ∉ [g, b] ∧ b6 ∉ [g, b]) := Lib.hid (by have := HG.out.lt; have := HB2.out.size; have := HG.out.hg; have := HG.out.hb; simp; omega)
        have t0 := (cell_of_row _ _ 0 _ _ _ hr6).trans rfl
        have t1 := (cell_of_row _ _ 1 _ _ _ hr6).trans rfl
        have t2 := (cell_of_row _ _ 2 _ _ _ hr6).trans rfl
        have t3 := (cell_of_row _ _ 3 _ _ _ hr6).trans rfl
        have d0 := cell_b hb6 (cell_b HB2.out D0.out)
        have d5 := cell_b hb6 (cell_b HB2.out D5.out)
        have d7 := cell_b hb6 (cell_b HB2.out D7.out)
        have hN6 : N ≤ 1000000 := by omega
        clear q3 q4 hcn hse hr6 hb6 hW6 hb6e d1 d2 d3 d4
        have HNN := Lib.hid hN
        clear hN
        obtain ⟨ld, hld⟩ : ∃ ld, (kd == 2) = ld := ⟨_, rfl⟩
        cases ld
        · obtain ⟨xj, hxj⟩ : ∃ x, joinE G rg Q se rb = x := ⟨_, rfl⟩
          have HXJ := Lib.hid hxj
          obtain ⟨yj, hyj⟩ : ∃ y, (if xj = 0 then G + 1 else 0) = y := ⟨_, rfl⟩
          have HYJ := Lib.hid hyj
          clear hxj hyj
          go_wp2_with fail
          go_region_held3 (fun w' => (w'.cell? ⟨b6, 0, none⟩ = some (.string cn) ∧ w'.cell? ⟨b6, 1, none⟩ = some (.slice A2 kk c2) ∧ w'.cell? ⟨b6, 2, none⟩ = some (.int .i64 tm) ∧ w'.cell? ⟨b6, 3, none⟩ = some (.int .i64 sn) ∧ w'.cell? ⟨g0, o0 + k * 8 + 7, none⟩ = some (.bool rb)) ∧ ∃ (N' : Nat) (G' : Int) (r' : Bool) (Q' : List Se), N' ≤ N + 1 ∧ Hid (GM W w' g b N' G' r' Q'))
            (first | with_reducible assumption | exact ⟨⟨t0, t1, t2, t3, d7⟩, N, G, rg, Q, by omega, Lib.hid (HG6.out.below (Below.refl _ _).drew)⟩)
            (first | (go_at_call 24; refine (m_join (n := kk) se cn A2 tm sn xj yj rb (Lib.hid (HG6.out.below (Below.refl _ _).drew)) hN6 HCS (Lib.hid (HT6.out.below (Below.refl _ _).drew)) HCZ hkk10 HXJ HYJ).mono ?_; rintro e w9 ⟨rfl, h9, ho9⟩; have HS9 : (w9.cell? ⟨b6, 0, none⟩ = some (.string cn) ∧ w9.cell? ⟨b6, 1, none⟩ = some (.slice A2 kk c2) ∧ w9.cell? ⟨b6, 2, none⟩ = some (.int .i64 tm) ∧ w9.cell? ⟨b6, 3, none⟩ = some (.int .i64 sn) ∧ w9.cell? ⟨g0, o0 + k * 8 + 7, none⟩ = some (.bool rb)) ∧ ∃ (N' : Nat) (G' : Int) (r' : Bool) (Q' : List Se), N' ≤ N + 1 ∧ Hid (GM W w9 g b N' G' r' Q') := ⟨⟨ho9.cell t0 HLT6.out.2.2.2, ho9.cell t1 HLT6.out.2.2.2, ho9.cell t2 HLT6.out.2.2.2, ho9.cell t3 HLT6.out.2.2.2, ho9.cell d7 HLT6.out.2.2.1⟩, _, _, _, _, Nat.le_refl _, Lib.hid h9⟩))
          rename_i hh
          obtain ⟨-, N', G', r', Q', hN', HX9⟩ := hh
          go_wp2_with fail
          go_roundw
          case rel => exact ⟨k + 1, N', G', r', Q', by omega, by omega, by go_num, by have := HNN.out; omega, HX9⟩
          case measure => (simp [intOf]; try omega)
        · obtain ⟨xj, hxj⟩ : ∃ x, fenceE G Q cn gn = x := ⟨_, rfl⟩
          have HXJ := Lib.hid hxj
          clear hxj
          go_wp2_with fail
          go_region_held3 (fun w' => (w'.cell? ⟨b6, 0, none⟩ = some (.string cn) ∧ w'.cell? ⟨g0, o0 + k * 8 + 5, none⟩ = some (.int .i64 gn)) ∧ ∃ (N' : Nat) (G' : Int) (r' : Bool) (Q' : List Se), N' ≤ N + 1 ∧ Hid (GM W w' g b N' G' r' Q'))
            (first | with_reducible assumption | exact ⟨⟨t0, d5⟩, N, G, rg, Q, by omega, Lib.hid (HG6.out.below (Below.refl _ _).drew)⟩)
            (first | (go_at_call 23; refine (m_leave cn gn xj (Lib.hid (HG6.out.below (Below.refl _ _).drew)) HCN HXJ).mono ?_; rintro e w9 ⟨rfl, h9, ho9⟩; have HS9 : (w9.cell? ⟨b6, 0, none⟩ = some (.string cn) ∧ w9.cell? ⟨g0, o0 + k * 8 + 5, none⟩ = some (.int .i64 gn)) ∧ ∃ (N' : Nat) (G' : Int) (r' : Bool) (Q' : List Se), N' ≤ N + 1 ∧ Hid (GM W w9 g b N' G' r' Q') := ⟨⟨ho9.cell t0 HLT6.out.2.2.2, ho9.cell d5 HLT6.out.2.2.1⟩, N, _, _, _, Nat.le_succ _, Lib.hid h9⟩))
          rename_i hh
          obtain ⟨-, N', G', r', Q', hN', HX9⟩ := hh
          go_wp2_with fail
          go_roundw
          case rel => exact ⟨k + 1, N', G', r', Q', by omega, by omega, by go_num, by have := HNN.out; omega, HX9⟩
          case measure => (simp [intOf]; try omega)
      · have hd : n0 ≤ k ∨ (k < n0 ∧ 40 ≤ k) := by omega
        rcases hd with hd | ⟨hd1, hd2⟩
        · have p1 : ¬ (k : Int) < (n0 : Int) := by omega
          go_wp2_with fail
          go_meet
          exact ⟨N, G, rg, Q, by omega, HG⟩
        · have p1 : (k : Int) < (n0 : Int) := by omega
          have p2 : ¬ (k : Int) < 40 := by omega
          go_wp2_with fail
          go_meet
          exact ⟨N, G, rg, Q, by omega, HG⟩
  case rest =>
    obtain ⟨N, G, rg, Q, hN, HG⟩ := hcut
    obtain ⟨L, hLL⟩ : ∃ L, (l1.take 10).map cutP = L := ⟨_, rfl⟩
    have HLL := Lib.hid hLL
    obtain ⟨nL, hnL⟩ : ∃ n, L.length = n := ⟨_, rfl⟩
    have HNL := Lib.hid hnL
    have hnl10 : nL ≤ 10 := by rw [← hnL, ← hLL, List.length_map, List.length_take]; omega
    clear hLL hnL
    go_upto_block 2 with fail
    have HOWN0 : (wc.alloc (.cells #[] 55)).ownsRow wc.heap.size 55 2 (.slice (some ⟨wc.heap.size, 0, none⟩) 0 0) 0 (rowP ((l1.take 0).map cutP)) := World.ownsRow_lit (size := 2) (e := 55) wc #[] 0 (Nat.le_refl _) (by unfold maxLen; omega) rfl
    have HBB0 := one_box' (w := wc) (.cells #[] 55)
    obtain ⟨W2, hW2⟩ : ∃ W2, wc.alloc (.cells #[] 55) = W2 := ⟨_, rfl⟩
    rw [hW2] at HOWN0 HBB0 ⊢
    have HOWN1 := Lib.hid HOWN0
    have HBB1 := Lib.hid HBB0
    clear hW2 HOWN0 HBB0
    go_cut [8, 9] from 65 to 96 (fun v8 _ wd => ∃ (A : Option Addr) (c : Nat), v8 = .slice A nL c ∧ Hid (IsL wd wd.heap.size A nL c L) ∧ Hid (GM W wd g b N G rg Q))
    case first =>
      obtain ⟨i0, hi0, hz0, hz1, hz2⟩ := info_parts topicInfo11
      go_wp2_with fail
      go_loopw [8, 9] (fun v8 v9 wr => ∃ (k : Nat) (A8 : Option Addr) (c8 : Nat), k ≤ n1 ∧ k ≤ 10 ∧ v9 = .int .i64 k ∧ v8 = .slice A8 k c8 ∧ Hid (wr.ownsRow wc.heap.size 55 2 (.slice A8 k c8) k (rowP ((l1.take k).map cutP))) ∧ Hid (Below wc.heap.size wc wr)) (fun _ v9 _ => n1 - (intOf v9).toNat)
      case atStart => exact ⟨0, _, _, by omega, by omega, rfl, rfl, HOWN1, HBB1⟩
      case round =>
        obtain ⟨k, A8, c8, hk, hk10, rfl, rfl, HO, HB⟩ := hrel
        by_cases hlt : k < n1 ∧ k < 10
        · obtain ⟨hlt, hlt10⟩ := hlt
          obtain ⟨g1, o1, rfl, hg, hcells⟩ := R1.out (by rw [HN1.out]; omega)
          obtain ⟨⟨t, x⟩, hst⟩ : ∃ st, l1[k]? = some st := ⟨_, List.getElem?_eq_getElem (by rw [HN1.out]; exact hlt)⟩
          have hts := (S1.out _ (List.mem_of_getElem? hst)).1
          unfold maxLen at hts
          dsimp only at hts
          have hbb : Below W.heap.size W wr := HG.out.bel.trans (HB.out.mono HG.out.bel.size)
          have d0 := (hbb.cell (p := ⟨g1, o1 + k * 2, none⟩) hg).trans (hcells k _ hst 0 _ rfl)
          have d1 := (hbb.cell (p := ⟨g1, o1 + k * 2 + 1, none⟩) hg).trans (hcells k _ hst 1 _ rfl)
          obtain ⟨t', ht'⟩ : ∃ s', t.extract 0 (min (t.size : Int) 40).toNat = s' := ⟨_, rfl⟩
          have HNX : Hid (rowP ((l1.take (k + 1)).map cutP) = rowP ((l1.take k).map cutP) ++ [.string t', .int .i64 x]) := Lib.hid (by
            rw [take_map hst, rowP_app, ← ht']; rfl)
          have hsw : W.heap.size ≤ wc.heap.size := HG.out.bel.size
          have hT : ∀ w', Only (bk A8) wr w' → (w'.cell? ⟨g1, o1 + k * 2, none⟩ = some (.string t) ∧ w'.cell? ⟨g1, o1 + k * 2 + 1, none⟩ = some (.int .i64 x)) ∧ Only (bk A8) wr w' := fun w' q => by
            have hno : g1 ∉ bk A8 := fun e => by
              obtain ⟨_, z, _⟩ := own_bk HO.out g1 e
              omega
            exact ⟨⟨q.cell d0 hno, q.cell d1 hno⟩, q⟩
          have HT := Lib.hid hT
          have HBL : Hid (wc.heap.size ≤ wr.heap.size) := Lib.hid HB.out.size
          have k0 : (0 : Int) ≤ (k : Int) := by omega
          have k1 : (k : Int) < (n1 : Int) := by omega
          have k2 : (k : Int) < 10 := by omega
          have m0 : 0 ≤ min (t.size : Int) 40 := by omega
          have m1 : min (t.size : Int) 40 ≤ (t.size : Int) := by omega
          clear hst hcells hT hbb
          go_wp2_with fail
          refine wp_region_held_drew (S := fun w' => (w'.cell? ⟨g1, o1 + k * 2, none⟩ = some (.string t) ∧ w'.cell? ⟨g1, o1 + k * 2 + 1, none⟩ = some (.int .i64 x)) ∧ Only (bk A8) wr w') (by kernel_rfl) (HT.out _ (Only.refl _ _).drew) (fun hHeld => ?_)
          refine wpAnyH_take (i := 0) (oi := ?o1) (v := ?v1) ?a1 (by kernel_rfl) (by kernel_rfl) (by kernel_rfl) ?q1 (Or.inl ⟨?g1, ?y1⟩) (by assumption) ?r1; (case' a1 => (simp only [List.getElem?_toArray, List.getElem?_cons_zero]; rfl)); (case' q1 => (exact fun _ _ _ h => h)); (case' g1 => rfl); (case' y1 => (intro w hSw; (try dsimp only at hSw); go_simp; try with_reducible rfl)); (case' r1 => (try simp only [Act.put, List.setIfInBounds_toArray, List.set_cons_zero, List.set_cons_succ]))
          refine wpAnyH_take (i := 1) (oi := ?o2) (v := ?v2) ?a2 (by kernel_rfl) (by kernel_rfl) (by kernel_rfl) ?q2 (Or.inl ⟨?g2, ?y2⟩) (by assumption) ?r2; (case' a2 => (simp only [List.getElem?_toArray, List.getElem?_cons_zero, List.getElem?_cons_succ]; rfl)); (case' q2 => (exact fun _ _ _ h => h)); (case' g2 => rfl); (case' y2 => (intro w hSw; (try dsimp only at hSw); go_simp; try with_reducible rfl)); (case' r2 => (try simp only [Act.put, List.setIfInBounds_toArray, List.set_cons_zero, List.set_cons_succ]))
          refine wpAnyH_take (i := 2) (oi := ?o3) (v := ?v3) ?a3 (by kernel_rfl) (by kernel_rfl) (by kernel_rfl) ?q3 (Or.inl ⟨?g3, ?y3⟩) (by assumption) ?r3; (case' a3 => (simp only [List.getElem?_toArray, List.getElem?_cons_zero, List.getElem?_cons_succ]; rfl)); (case' q3 => (exact fun _ _ _ h => h)); (case' g3 => rfl); (case' y3 => (intro w hSw; (try dsimp only at hSw); go_simp; try with_reducible rfl)); (case' r3 => (try simp only [Act.put, List.setIfInBounds_toArray, List.set_cons_zero, List.set_cons_succ]))
          refine wpAnyH_take (i := 3) (oi := ?o4) (v := ?v4) ?a4 (by kernel_rfl) (by kernel_rfl) (by kernel_rfl) ?q4 (Or.inl ⟨?g4, ?y4⟩) (by assumption) ?r4; (case' a4 => (simp only [List.getElem?_toArray, List.getElem?_cons_zero, List.getElem?_cons_succ]; rfl)); (case' q4 => (exact fun _ _ _ h => h)); (case' g4 => rfl); (case' y4 => (intro w hSw; (try dsimp only at hSw); go_simp; try with_reducible rfl)); (case' r4 => (try simp only [Act.put, List.setIfInBounds_toArray, List.set_cons_zero, List.set_cons_succ]))
          refine wpAnyH_take (i := 4) (oi := ?o5) (v := ?v5) ?a5 (by kernel_rfl) (by kernel_rfl) (by kernel_rfl) ?q5 (Or.inl ⟨?g5, ?y5⟩) (by assumption) ?r5; (case' a5 => (simp only [List.getElem?_toArray, List.getElem?_cons_zero, List.getElem?_cons_succ]; rfl)); (case' q5 => (exact fun _ _ _ h => h)); (case' g5 => rfl); (case' y5 => (intro w hSw; (try dsimp only at hSw); go_simp; try with_reducible rfl)); (case' r5 => (try simp only [Act.put, List.setIfInBounds_toArray, List.set_cons_zero, List.set_cons_succ]))
          refine wpAnyH_take (i := 5) (oi := ?o6) (v := ?v6) ?a6 (by kernel_rfl) (by kernel_rfl) (by kernel_rfl) ?q6 (Or.inl ⟨?g6, ?y6⟩) (by assumption) ?r6; (case' a6 => (simp only [List.getElem?_toArray, List.getElem?_cons_zero, List.getElem?_cons_succ]; rfl)); (case' q6 => (exact fun _ _ _ h => h)); (case' g6 => rfl); (case' y6 => (intro w hSw; (try dsimp only at hSw); go_simp; try with_reducible rfl)); (case' r6 => (try simp only [Act.put, List.setIfInBounds_toArray, List.set_cons_zero, List.set_cons_succ]))
          refine wpAnyH_take (i := 6) (oi := ?o7) (v := ?v7) ?a7 (by kernel_rfl) (by kernel_rfl) (by kernel_rfl) ?q7 (Or.inl ⟨?g7, ?y7⟩) (by assumption) ?r7; (case' a7 => (simp only [List.getElem?_toArray, List.getElem?_cons_zero, List.getElem?_cons_succ]; rfl)); (case' q7 => (exact fun _ _ _ h => h)); (case' g7 => rfl); (case' y7 => (intro w hSw; (try dsimp only at hSw); go_simp; try with_reducible rfl)); (case' r7 => (try simp only [Act.put, List.setIfInBounds_toArray, List.set_cons_zero, List.set_cons_succ]))
          refine wpAnyH_take (i := 7) (oi := ?o8) (v := ?v8) ?a8 (by kernel_rfl) (by kernel_rfl) (by kernel_rfl) ?q8 (Or.inl ⟨?g8, ?y8⟩) (by assumption) ?r8; (case' a8 => (simp only [List.getElem?_toArray, List.getElem?_cons_zero, List.getElem?_cons_succ]; rfl)); (case' q8 => (exact fun _ _ _ h => h)); (case' g8 => rfl); (case' y8 => (intro w hSw; (try dsimp only at hSw); go_simp; try with_reducible rfl)); (case' r8 => (try simp only [Act.put, List.setIfInBounds_toArray, List.set_cons_zero, List.set_cons_succ]))
          refine wpAnyH_take (i := 8) (oi := ?o9) (v := ?v9) ?a9 (by kernel_rfl) (by kernel_rfl) (by kernel_rfl) ?q9 (Or.inl ⟨?g9, ?y9⟩) (by assumption) ?r9; (case' a9 => (simp only [List.getElem?_toArray, List.getElem?_cons_zero, List.getElem?_cons_succ]; rfl)); (case' q9 => (exact fun _ _ _ h => h)); (case' g9 => rfl); (case' y9 => (intro w hSw; (try dsimp only at hSw); go_simp; try with_reducible rfl)); (case' r9 => (try simp only [Act.put, List.setIfInBounds_toArray, List.set_cons_zero, List.set_cons_succ]))
          refine wpAnyH_take (i := 9) (oi := ?o10) (v := ?v10) ?a10 (by kernel_rfl) (by kernel_rfl) (by kernel_rfl) ?q10 (Or.inl ⟨?g10, ?y10⟩) (by assumption) ?r10; (case' a10 => (simp only [List.getElem?_toArray, List.getElem?_cons_zero, List.getElem?_cons_succ]; rfl)); (case' q10 => (exact fun _ _ _ h => h)); (case' g10 => rfl); (case' y10 => (intro w hSw; (try dsimp only at hSw); go_simp; try with_reducible rfl)); (case' r10 => (try simp only [Act.put, List.setIfInBounds_toArray, List.set_cons_zero, List.set_cons_succ]))
          refine wpAnyH_take (i := 10) (oi := ?o11) (v := ?v11) ?a11 (by kernel_rfl) (by kernel_rfl) (by kernel_rfl) ?q11 (Or.inl ⟨?g11, ?y11⟩) (by assumption) ?r11; (case' a11 => (simp only [List.getElem?_toArray, List.getElem?_cons_zero, List.getElem?_cons_succ]; rfl)); (case' q11 => (exact fun _ _ _ h => h)); (case' g11 => rfl); (case' y11 => (intro w hSw; (try dsimp only at hSw); go_simp; try with_reducible rfl)); (case' r11 => (try simp only [Act.put, List.setIfInBounds_toArray, List.set_cons_zero, List.set_cons_succ]))
          refine wpAnyH_take (i := 11) (oi := ?o12) (v := ?v12) ?a12 (by kernel_rfl) (by kernel_rfl) (by kernel_rfl) ?q12 (Or.inl ⟨?g12, ?y12⟩) (by assumption) ?r12; (case' a12 => (simp only [List.getElem?_toArray, List.getElem?_cons_zero, List.getElem?_cons_succ]; rfl)); (case' q12 => (exact fun _ _ _ h => h)); (case' g12 => rfl); (case' y12 => (intro w hSw; (try dsimp only at hSw); go_simp; try with_reducible rfl)); (case' r12 => (try simp only [Act.put, List.setIfInBounds_toArray, List.set_cons_zero, List.set_cons_succ]))
          refine wpAnyH_take (i := 12) (oi := ?o13) (v := ?v13) ?a13 (by kernel_rfl) (by kernel_rfl) (by kernel_rfl) ?q13 (Or.inl ⟨?g13, ?y13⟩) (by assumption) ?r13; (case' a13 => (simp only [List.getElem?_toArray, List.getElem?_cons_zero, List.getElem?_cons_succ]; rfl)); (case' q13 => (exact fun _ _ _ h => h)); (case' g13 => rfl); (case' y13 => (intro w hSw; (try dsimp only at hSw); go_simp; try with_reducible rfl)); (case' r13 => (try simp only [Act.put, List.setIfInBounds_toArray, List.set_cons_zero, List.set_cons_succ]))
          refine wpAnyH_take (i := 13) (oi := ?o14) (v := ?v14) ?a14 (by kernel_rfl) (by kernel_rfl) (by kernel_rfl) ?q14 (Or.inl ⟨?g14, ?y14⟩) (by assumption) ?r14; (case' a14 => (simp only [List.getElem?_toArray, List.getElem?_cons_zero, List.getElem?_cons_succ]; rfl)); (case' q14 => (exact fun _ _ _ h => h)); (case' g14 => rfl); (case' y14 => (intro w hSw; (try dsimp only at hSw); go_simp; try with_reducible rfl)); (case' r14 => (try simp only [Act.put, List.setIfInBounds_toArray, List.set_cons_zero, List.set_cons_succ]))
          refine wpAnyH_take (i := 14) (oi := ?o15) (v := ?v15) ?a15 (by kernel_rfl) (by kernel_rfl) (by kernel_rfl) ?q15 (Or.inl ⟨?g15, ?y15⟩) (by assumption) ?r15; (case' a15 => (simp only [List.getElem?_toArray, List.getElem?_cons_zero, List.getElem?_cons_succ]; rfl)); (case' q15 => (exact fun _ _ _ h => h)); (case' g15 => rfl); (case' y15 => (intro w hSw; (try dsimp only at hSw); go_simp; try with_reducible rfl)); (case' r15 => (try simp only [Act.put, List.setIfInBounds_toArray, List.set_cons_zero, List.set_cons_succ]))
          refine wpAnyH_take (i := 15) (oi := ?o16) (v := ?v16) ?a16 (by kernel_rfl) (by kernel_rfl) (by kernel_rfl) ?q16 (Or.inl ⟨?g16, ?y16⟩) (by assumption) ?r16; (case' a16 => (simp only [List.getElem?_toArray, List.getElem?_cons_zero, List.getElem?_cons_succ]; rfl)); (case' q16 => (exact fun _ _ _ h => h)); (case' g16 => rfl); (case' y16 => (intro w hSw; (try dsimp only at hSw); go_simp; try with_reducible rfl)); (case' r16 => (try simp only [Act.put, List.setIfInBounds_toArray, List.set_cons_zero, List.set_cons_succ]))
          refine wpAnyH_take (i := 16) (oi := ?o17) (v := ?v17) ?a17 (by kernel_rfl) (by kernel_rfl) (by kernel_rfl) ?q17 (Or.inl ⟨?g17, ?y17⟩) (by assumption) ?r17; (case' a17 => (simp only [List.getElem?_toArray, List.getElem?_cons_zero, List.getElem?_cons_succ]; rfl)); (case' q17 => (exact fun _ _ _ h => h)); (case' g17 => rfl); (case' y17 => (intro w hSw; (try dsimp only at hSw); go_simp; try with_reducible rfl)); (case' r17 => (try simp only [Act.put, List.setIfInBounds_toArray, List.set_cons_zero, List.set_cons_succ]))
          refine wpAnyH_take (i := 17) (oi := ?o18) (v := ?v18) ?a18 (by kernel_rfl) (by kernel_rfl) (by kernel_rfl) ?q18 (Or.inl ⟨?g18, ?y18⟩) (by assumption) ?r18; (case' a18 => (simp only [List.getElem?_toArray, List.getElem?_cons_zero, List.getElem?_cons_succ]; rfl)); (case' q18 => (exact fun _ _ _ h => h)); (case' g18 => rfl); (case' y18 => (intro w hSw; (try dsimp only at hSw); go_simp; try with_reducible rfl)); (case' r18 => (try simp only [Act.put, List.setIfInBounds_toArray, List.set_cons_zero, List.set_cons_succ]))
          refine wpAnyH_take (i := 18) (oi := ?o19) (v := ?v19) ?a19 (by kernel_rfl) (by kernel_rfl) (by kernel_rfl) ?q19 (Or.inl ⟨?g19, ?y19⟩) (by assumption) ?r19; (case' a19 => (simp only [List.getElem?_toArray, List.getElem?_cons_zero, List.getElem?_cons_succ]; rfl)); (case' q19 => (exact fun _ _ _ h => h)); (case' g19 => rfl); (case' y19 => (intro w hSw; (try dsimp only at hSw); go_simp; try with_reducible rfl)); (case' r19 => (try simp only [Act.put, List.setIfInBounds_toArray, List.set_cons_zero, List.set_cons_succ]))
          refine wpAnyH_take (i := 19) (oi := ?o20) (v := ?v20) ?a20 (by kernel_rfl) (by kernel_rfl) (by kernel_rfl) ?q20 (Or.inl ⟨?g20, ?y20⟩) (by assumption) ?r20; (case' a20 => (simp only [List.getElem?_toArray, List.getElem?_cons_zero, List.getElem?_cons_succ]; rfl)); (case' q20 => (exact fun _ _ _ h => h)); (case' g20 => rfl); (case' y20 => (intro w hSw; (try dsimp only at hSw); go_simp; try with_reducible rfl)); (case' r20 => (try simp only [Act.put, List.setIfInBounds_toArray, List.set_cons_zero, List.set_cons_succ]))
          refine wpAnyH_ready (rs := [20]) (by kernel_rfl) (by simp) ?_
          refine AllReadyH.cons (o := ?o21) ?a21 (fun K hK => ?s21) ?m21; (case' a21 => (simp only [List.getElem?_toArray, List.getElem?_cons_zero, List.getElem?_cons_succ]; rfl))
          case s21 =>
            go_simp
            refine hK.out _ _ (HT.out _ (hHeld.2.alloc _)) (fun hHeld => ?_)
            clear hK K
            (try simp only [Act.put, List.setIfInBounds_toArray, List.set_cons_zero, List.set_cons_succ])
            refine wpAnyH_ready (rs := [21]) (by kernel_rfl) (by simp) ?_
            refine AllReadyH.cons (o := ?o22) ?a22 (fun K hK => ?s22) ?m22; (case' a22 => (simp only [List.getElem?_toArray, List.getElem?_cons_zero, List.getElem?_cons_succ]; rfl))
            case s22 =>
              refine step_append_lies _ (by rfl) _ _ _ (by rfl) wc.heap.size 55 i0 _ 2 24 Try.underlying22 hi0 hz0 hz1 hz2 rfl (by omega) (.slice A8 k c8) k (rowP ((l1.take k).map cutP)) (by rfl) ((own_below HO.out (Below.refl _ _).drew).alloc _) ⟨wr.heap.size, 0, none⟩ 1 1 [.string t', .int .i64 x] (by rfl) (by rfl) (World.news_of_block (cs := #[.string t', .int .i64 x]) (t := 55) (fr := (0, 0)) (heap_alloc_new wr.drew _)) (by simp [Value.oneCell']) (by omega) (by unfold maxLen; omega) (by omega) (by have := HBL.out; simp; omega) (wr.heap.size + 1) (by simp) ?_
              intro gg cc w2 hown2 hgrow hat hltg
              refine hK.out _ _ (HT.out _ (only_grown0 hgrow)) (fun hHeld => ?_)
              clear hK K
              (try simp only [Act.put, List.setIfInBounds_toArray, List.set_cons_zero, List.set_cons_succ])
              refine wpAnyH_take (i := 22) (oi := ?o23) (v := ?v23) ?a23 (by kernel_rfl) (by kernel_rfl) (by kernel_rfl) ?q23 (Or.inl ⟨?g23, ?y23⟩) (by assumption) ?r23; (case' a23 => (simp only [List.getElem?_toArray, List.getElem?_cons_zero, List.getElem?_cons_succ]; rfl)); (case' q23 => (exact fun _ _ _ h => h)); (case' g23 => rfl); (case' y23 => (intro w hSw; (try dsimp only at hSw); go_simp; try with_reducible rfl)); (case' r23 => (try simp only [Act.put, List.setIfInBounds_toArray, List.set_cons_zero, List.set_cons_succ]))
              refine wpAnyH_done (by kernel_rfl) ?_ _
              have HH := Lib.hid hHeld.2
              clear hHeld
              go_wp2_with fail
              go_roundw
              case rel =>
                refine ⟨k + 1, _, _, by omega, by omega, by go_num, rfl, Lib.hid ?_, Lib.hid ?_⟩
                · rw [HNX.out]; exact hown2
                · exact HB.out.trans (HH.out.below HB.out.size (fun j hj => by obtain ⟨_, z, _⟩ := own_bk HO.out j hj; exact z))
              case measure => (simp [intOf]; try omega)
            exact AllReadyH.nil
          exact AllReadyH.nil
        · obtain ⟨hm1, hm2⟩ := cut10 HN1.out hk hk10 hlt HLL.out
          have hov := HO.out
          rw [hm1] at hov
          have hnl := HNL.out
          have hnil : A8 = none → nL = 0 ∧ c8 = 0 := fun e => by
            rcases hov.2 with ⟨q, q0⟩ | ⟨g, cap, cur, q, _⟩
            · injection q with _ q1 q2
              exact ⟨by omega, q2⟩
            · rw [e] at q
              injection q with q
              cases q
          have hszs : ∀ y ∈ L, y.t.size ≤ 281474976710656 := fun y hy => by
            rw [← HLL.out] at hy
            obtain ⟨z, _, rfl⟩ := List.mem_map.1 hy
            have := L11.cutS_size z.t
            show (L11.cutS z.t).size ≤ _
            omega
          have hcap : nL ≤ c8 := by
            rcases hov.2 with ⟨_, q0⟩ | ⟨g, cap, cur, q, _, _, hc, _⟩
            · omega
            · injection q with _ _ q2
              omega
          have HIL : Hid (IsL wr wr.heap.size A8 nL c8 L) := Lib.hid ⟨own_reads hov hm2 (own_lt hov), hnl, hnil, hszs, by omega, hcap⟩
          clear hnil hszs hcap
          have HGX := Lib.hid (HG.out.below HB.out)
          have hkL : k = nL := by omega
          have hd : n1 ≤ k ∨ (k < n1 ∧ 10 ≤ k) := by omega
          clear hm1 hm2 hov hi0 hz0 hz1 hz2 hnl
          subst hkL
          rcases hd with hd | ⟨hd1, hd2⟩
          · have p1 : ¬ (k : Int) < (n1 : Int) := by omega
            go_wp2_with fail
            go_meet
            exact ⟨A8, c8, rfl, HIL, HGX⟩
          · have p1 : (k : Int) < (n1 : Int) := by omega
            have p2 : ¬ (k : Int) < 10 := by omega
            go_wp2_with fail
            go_meet
            exact ⟨A8, c8, rfl, HIL, HGX⟩
    case rest =>
      obtain ⟨A, c, rfl, HIL, HG2⟩ := hcut
      clear HG HOWN1 HBB1
      obtain ⟨m, hm⟩ : ∃ m, Q.length = m := ⟨_, rfl⟩
      have HM := Lib.hid hm
      have hm8 : m ≤ 8 := by rw [← hm]; exact HG2.out.good.len
      obtain ⟨y, hy⟩ := chk_is1 L (Q.map (·.m))
      have HY := Lib.hid hy
      have HGOOD := Lib.hid HG2.out.good
      clear hm hy
      go_upto_block 4 with (first
        | (go_at_call 25; refine (m_gen HG2).mono ?_; rintro e w3 ⟨rfl, h3, hb3⟩; have HG3 := Lib.hid h3; have HIL3 := Lib.hid (HIL.out.up (Nat.le_refl _) hb3); clear h3 hb3)
        | (go_at_call 26; refine (m_seats m HG3 HM).mono ?_; rintro e w4 ⟨A4, c4, vs, rfl, HV, ho4, h4, hb4⟩; have HG4 := Lib.hid h4; have HE4 := Lib.hid ho4; have HIL4 := Lib.hid (HIL3.out.up (Nat.le_refl _) hb4); clear h4 ho4 hb4))
      have HR4 : Hid (ReadsE w4 A4 Q) := Lib.hid (by have := HE4.out.reads; rwa [HV.out] at this)
      obtain ⟨LL, hLLe⟩ : ∃ LL, toldL y rg L Q = LL := ⟨_, rfl⟩
      have HTL := Lib.hid hLLe
      have HLLN : Hid (LL.length = m) := Lib.hid (by rw [← hLLe, told_len]; exact HM.out)
      have HWHO : Hid (∀ (i : Nat) x p, LL[i]? = some x → p ∈ x → WhoP LL p (i : Int) ∧ wantAt (Q.map (·.m)) i p.t = true) := Lib.hid (fun i x p hx hp => by rw [← hLLe] at hx ⊢; exact told_who HY.out hx hp)
      have HXL : Hid (∀ x ∈ LL, x.length ≤ 1000000) := Lib.hid (fun x hx => by rw [← hLLe] at hx; have := told_64 HY.out x hx; omega)
      have HOWN0 : (w4.alloc (.cells #[] 36)).ownsRow w4.heap.size 36 1 (.slice (some ⟨w4.heap.size, 0, none⟩) 0 0) 0 (([] : List Sl).map Sl.v) := World.ownsRow_lit (size := 1) (e := 36) w4 #[] 0 (Nat.le_refl _) (by unfold maxLen; omega) rfl
      have HBB0 := one_box' (w := w4) (.cells #[] 36)
      obtain ⟨W5, hW5⟩ : ∃ W5, w4.alloc (.cells #[] 36) = W5 := ⟨_, rfl⟩
      rw [hW5] at HOWN0 HBB0 ⊢
      have HOWN1 := Lib.hid HOWN0
      have HBB1 := Lib.hid HBB0
      have hg0 := HGOOD.out.gen
      have hw3 : wrap64 (G - 1) = G - 1 := by simp only [wrap64]; omega
      have HY0 := Lib.hid (chk_nil HGOOD.out HY.out)
      obtain ⟨z, hz⟩ : ∃ z, (if y = 0 then 111 else y) = z := ⟨_, rfl⟩
      have HZ := Lib.hid hz
      have HMN : ∀ w : World, Hid (IsM w w.heap.size none 0 0 []) := fun w => Lib.hid ⟨fun h0 => absurd h0 (Nat.lt_irrefl _), rfl, fun _ h => (by cases h), Nat.zero_le _, Nat.le_refl _⟩
      have HMN := Lib.hid HMN
      clear hLLe hW5 HOWN0 HBB0 hz hg0 HG2 HIL HG3 HIL3 HE4 HV
      obtain ⟨i0, hi0, hz0, hz1, hz2⟩ := info_parts slInfo
      go_wp2_with fail
      go_loopw [13, 14] (fun v13 v14 wr => ∃ (i : Nat) (A9 : Option Addr) (c9 : Nat) (sl : List Sl), i ≤ m ∧ v14 = .int .i64 i ∧ v13 = .slice A9 i c9 ∧ Hid (AllI wr w4.heap.size A9 i c9 LL sl) ∧ Hid (Below w4.heap.size w4 wr)) (fun _ v14 _ => m - (intOf v14).toNat)
      case atStart => exact ⟨0, _, _, [], by omega, rfl, rfl, Lib.hid ⟨HOWN1.out, by simp, rfl, (fun s hs => by cases hs), fun _ => rfl⟩, HBB1⟩
      case round =>
        obtain ⟨i, A9, c9, sl, hi, rfl, rfl, HA, HB⟩ := hrel
        by_cases hlt : i < m
        · obtain ⟨g4, rfl, hg4, hc4⟩ := HR4.out (by rw [HM.out]; omega)
          obtain ⟨s, hs⟩ : ∃ s, Q[i]? = some s := ⟨_, List.getElem?_eq_getElem (by rw [HM.out]; omega)⟩
          obtain ⟨-, -, -, e0, -, -, -⟩ := hc4 i s hs
          have e0 := cell_b HB.out e0
          obtain ⟨nm, hnm⟩ : ∃ nm, s.m.name = nm := ⟨_, rfl⟩
          rw [hnm] at e0
          have HNM := Lib.hid hnm
          have HQI := Lib.hid hs
          have HHAS : Hid (hasS Q nm = true) := Lib.hid (hasS_mem.2 ⟨s, List.mem_of_getElem? hs, hnm⟩)
          have HNS : Hid (nm.size ≤ maxLen) := Lib.hid (by rw [← hnm]; have := (mayS_fit (HGOOD.out.may s (List.mem_of_getElem? hs))).1; unfold maxLen; omega)
          have HX1 : Hid (asgE G Q nm G L y) := Lib.hid (asg_first HY.out HHAS.out)
          have HX2 : Hid (asgE G Q nm (G - 1) L z) := Lib.hid (by rw [← HZ.out]; exact asg_next HY.out HHAS.out)
          have HGR := Lib.hid (HG4.out.below HB.out)
          have HLR := Lib.hid (HIL4.out.up (Nat.le_refl _) HB.out)
          have b0 : (0 : Int) ≤ (i : Int) := by omega
          have b1 : (i : Int) < (m : Int) := by omega
          have hyy : (y == y) = true := by simp
          have hzz : (y == 0) = true ∧ (z == 111) = true ∨ (y == 0) = false := by
            by_cases q : y = 0
            · exact .inl ⟨by simp [q], by rw [← HZ.out, if_pos q]; rfl⟩
            · exact .inr (by simpa using q)
          have HZN : Hid (z ≠ 0) := Lib.hid (by rw [← HZ.out]; split; decide; assumption)
          clear hs hc4 hnm
          rcases hzz with ⟨q1, q2⟩ | q1
          all_goals
            go_wp2_with (first
              | (go_at_call 13; refine (rcheck_is _ A none nL c 0 0 L [] y HL7 (HMN.out _) HY0).mono ?_; rintro e w8 ⟨rfl, hb8⟩; have HB8 := Lib.hid hb8; clear hb8)
              | (go_at_call 27; have _q := HG6; refine (m_assigned nm (G - 1) z HG6 HNS HL6 HX2).mono ?_; rintro e w7 ⟨h7, -⟩; obtain ⟨rfl, hb7⟩ := told_no HZN.out h7; have HB7 := Lib.hid hb7; have HL7 := Lib.hid (HL6.out.up (Nat.le_refl _) hb7); clear h7 hb7)
              | (go_at_call 27; refine (m_assigned nm G y HGR HNS HLR HX1).mono ?_; rintro e w6 ⟨h6, hg6⟩; obtain ⟨X, A6, c6, hX, rfl, hR6⟩ := told_at HGOOD.out HQI.out HNM.out HTL.out h6; have HB6 := Lib.hid h6.1; have HG6 := Lib.hid hg6; have HL6 := Lib.hid (HLR.out.up (Nat.le_refl _) h6.1); have HXI := Lib.hid hX; have HR6 := Lib.hid hR6; obtain ⟨xn, hxn⟩ : ∃ n, X.length = n := ⟨_, rfl⟩; rw [hxn]; have HXN := Lib.hid hxn; have e0 := cell_b HB6.out e0; clear h6 hg6 hX hR6 hxn)
              | (at_builtin; have HB68 : Hid (Below w6.heap.size w6 w8) := Lib.hid (HB7.out.trans (HB8.out.mono HB7.out.size)); have HA8 := Lib.hid ((HA.out.below HB6.out).below HB68.out); have HR8 := Lib.hid ((HR6.out.below HB68.out).mono HB68.out.size); have HBT : Hid (Below w4.heap.size w4 w8) := Lib.hid ((HB.out.trans (HB6.out.mono HB.out.size)).trans (HB68.out.mono (by have := HB.out.size; have := HB6.out.size; omega))); refine wpList_append_own _ rfl _ _ 29 rfl w4.heap.size 36 i0 _ 1 24 Try.underlying29 hi0 hz0 hz1 hz2 rfl (by decide) _ _ _ rfl (HA8.out.own.alloc _) ⟨w8.heap.size, 0, none⟩ 1 1 [.slice A6 xn c6] rfl rfl (World.news_of_block (cs := #[.slice A6 xn c6]) (t := 36) (fr := (0, 0)) (heap_alloc_new w8 _)) (by simp [Value.oneCell']) (by unfold maxLen; omega) (by omega) (by have := HBT.out.size; simp; omega) ?_; intro v' w9 hown' hgrow _))
            rw [← HXN.out] at hown'
            obtain ⟨A10, c10, sl', rfl, hA10⟩ := HA8.out.push HXI.out HR8.out hown' hgrow
            have HA10 := Lib.hid hA10
            have HB9 : Hid (Below w4.heap.size w4 w9) := Lib.hid ((HBT.out.alloc HBT.out.size _).grown hgrow (by have := HBT.out.size; simp; omega) (fun j e => (HA8.out.own.lt j e).1))
            clear hown' hgrow hA10
            go_roundw
            case rel => exact ⟨i + 1, A10, c10, sl', by omega, by go_num, rfl, HA10, HB9⟩
            case measure => (simp [intOf]; try omega)
        · obtain rfl : i = m := by omega
          have HAL := Lib.hid (HA.out.reads HLLN.out)
          have HRQ := Lib.hid (HR4.out.below HB.out)
          have HGQ := Lib.hid (HG4.out.below HB.out)
          clear HA hi0 hz0 hz1 hz2 HOWN1 HBB1 HG4 HIL4 HY0 HMN HR4
          go_wp2_with fail
          obtain ⟨w5, hw5⟩ : ∃ w5, w5 = wr := ⟨_, rfl⟩
          rw [← hw5] at HAL HRQ HGQ ⊢
          clear hw5 HB
          go_loopw [19] (fun v wr => ∃ q : Nat, q ≤ i ∧ v = .int .i64 q ∧ Hid (Below w5.heap.size w5 wr)) (fun v _ => i - (intOf v).toNat)
          case atStart => exact ⟨0, by omega, rfl, Lib.hid (Below.refl _ _)⟩
          case round =>
            obtain ⟨q, hq, rfl, HB⟩ := hrel
            by_cases hlt : q < i
            · obtain ⟨g9, rfl, hg9, hc9⟩ := HAL.out (by rw [HLLN.out]; omega)
              obtain ⟨x, hx0⟩ : ∃ x, LL[q]? = some x := ⟨_, List.getElem?_eq_getElem (by rw [HLLN.out]; omega)⟩
              obtain ⟨Ai, ci, dd, hrd⟩ := hc9 q x hx0
              have b0 : (0 : Int) ≤ (q : Int) := by omega
              have b1 : (q : Int) < (i : Int) := by omega
              have hxl := HXL.out x (List.mem_of_getElem? hx0)
              obtain ⟨xm, hxm⟩ : ∃ m, x.length = m := ⟨_, rfl⟩
              rw [hxm] at dd hxl
              have D0 := Lib.hid dd
              have HXM := Lib.hid hxm
              have HX0 := Lib.hid hx0
              have HRD := Lib.hid hrd
              have d0 := cell_b HB.out dd
              clear hc9 hx0 hxm hrd dd
              go_wp2_with fail
              clear d0
              obtain ⟨wo, hwo⟩ : ∃ wo, wo = wr := ⟨_, rfl⟩
              rw [← hwo] at HB ⊢
              clear hwo
              go_loopw [20] (fun s wr => ∃ k : Nat, k ≤ xm ∧ s = .int .i64 k ∧ Hid (Below w5.heap.size w5 wr)) (fun s _ => xm - (intOf s).toNat)
              case atStart => exact ⟨0, by omega, rfl, HB⟩
              case round =>
                obtain ⟨k, hk, rfl, HBQ⟩ := hrel
                have d0 := cell_b HBQ.out D0.out
                by_cases hkm : k < xm
                · obtain ⟨gi, rfl, hgi, hci⟩ := HRD.out (by rw [HXM.out]; omega)
                  obtain ⟨⟨tt, kk⟩, hs⟩ : ∃ s, x[k]? = some s := ⟨_, List.getElem?_eq_getElem (by rw [HXM.out]; omega)⟩
                  obtain ⟨e0, e1⟩ := hci k _ hs
                  have e0 := cell_b HBQ.out e0
                  have e1 := cell_b HBQ.out e1
                  dsimp only at e0 e1
                  obtain ⟨hwho, hwant⟩ := HWHO.out q x _ HX0.out (List.mem_of_getElem? hs)
                  dsimp only at hwant
                  obtain ⟨gm, rfl, hgm, hcm⟩ := HRQ.out (by rw [HM.out]; omega)
                  obtain ⟨⟨⟨nk, ts⟩, tm, sn⟩, hms⟩ : ∃ s, Q[q]? = some s := ⟨_, List.getElem?_eq_getElem (by rw [HM.out]; omega)⟩
                  obtain ⟨At, ct, hrt, f0, f1, -, -⟩ := hcm q _ hms
                  have hfit := mayS_fit (HGOOD.out.may _ (List.mem_of_getElem? hms))
                  dsimp only at f0 f1 hrt hfit
                  have hmm : (Q.map (·.m))[q]? = some ⟨nk, ts⟩ := by rw [List.getElem?_map, hms]; rfl
                  rw [wantAt_at hmm] at hwant
                  obtain ⟨tn, htn⟩ : ∃ tn, ts.length = tn := ⟨_, rfl⟩
                  have z1 : tn ≤ 1000000 := by omega
                  rw [htn] at f1
                  have f0 := cell_b HBQ.out f0
                  have f1 := cell_b HBQ.out f1
                  have HWHO1 := Lib.hid hwho
                  have HWANT : Hid (anyB ts tt = true) := Lib.hid hwant
                  have HRT := Lib.hid (hrt.row.reads)
                  have HTN := Lib.hid htn
                  have HZW := Lib.hid HBQ.out.size
                  have j0 : (0 : Int) ≤ (k : Int) := by omega
                  have j1 : (k : Int) < (xm : Int) := by omega
                  have hS5 := Lib.hid (show (wr.cell? ⟨gm, q * 4, none⟩ = some (.string nk) ∧ wr.cell? ⟨gm, q * 4 + 1, none⟩ = some (.slice At tn ct) ∧ wr.cell? ⟨g9, q, none⟩ = some (.slice (some ⟨gi, 0, none⟩) xm ci) ∧ wr.cell? ⟨gi, k * 2, none⟩ = some (.string tt) ∧ wr.cell? ⟨gi, k * 2 + 1, none⟩ = some (.int .i64 kk)) ∧ Below wr.heap.size wr wr from ⟨⟨f0, f1, d0, e0, e1⟩, Below.refl _ _⟩)
                  have HAW := Lib.hid (HAL.out.up HBQ.out HBQ.out.size)
                  clear hci hcm hs hms hwho hwant hrt htn hfit hmm
                  go_wp2_with fail
                  go_region_held3 (fun w' => (w'.cell? ⟨gm, q * 4, none⟩ = some (.string nk) ∧ w'.cell? ⟨gm, q * 4 + 1, none⟩ = some (.slice At tn ct) ∧ w'.cell? ⟨g9, q, none⟩ = some (.slice (some ⟨gi, 0, none⟩) xm ci) ∧ w'.cell? ⟨gi, k * 2, none⟩ = some (.string tt) ∧ w'.cell? ⟨gi, k * 2 + 1, none⟩ = some (.int .i64 kk)) ∧ Below wr.heap.size wr w')
                    (first | with_reducible assumption | exact keep5g hS5.out HB4.out | exact keep5g hS5.out HB3.out | exact keep5g hS5.out (Below.refl _ _).drew)
                    (first
                      | (go_at_call 17; refine (rwhose2_is _ (some ⟨g9, 0, none⟩) i _ LL tt kk (q : Int) (Lib.hid (HAW.out.up HB3.out HB3.out.size)) HLLN (by omega) HXL HWHO1).mono ?_; rintro e w4' ⟨rfl, hb4⟩; have HB4 := Lib.hid (HB3.out.trans (hb4.mono HB3.out.size)))
                      | (go_at_call 17; refine (rwhose2_is _ (some ⟨g9, 0, none⟩) i _ LL tt kk (q : Int) (Lib.hid (HAW.out.up (Below.refl _ _).drew (Below.refl wr.heap.size wr).drew.size)) HLLN (by omega) HXL HWHO1).mono ?_; rintro e w4' ⟨rfl, hb4⟩; have HB3 := Lib.hid ((Below.refl _ wr).drew.trans hb4))
                      | (go_at_call 19; refine (rwants_is nk tt ts At ct tn w5.heap.size true _ (Lib.hid (HRT.out.below (HBQ.out.trans (HB3.out.mono HZW.out)))) (by have := HB3.out.size; have := HZW.out; omega) HTN z1 HWANT).mono ?_; rintro e w3' ⟨rfl, hb3⟩; have HB4 := Lib.hid (HB3.out.trans (hb3.mono HB3.out.size)))
                      | (go_at_call 19; refine (rwants_is nk tt ts At ct tn w5.heap.size true _ (Lib.hid (HRT.out.below (HBQ.out.drew))) HZW.out HTN z1 HWANT).mono ?_; rintro e w3' ⟨rfl, hb3⟩; have HB3 := Lib.hid ((Below.refl _ wr).drew.trans hb3)))
                  rename_i hHeld
                  have HH := Lib.hid hHeld.2
                  clear hHeld
                  go_wp2_with fail
                  go_roundw
                  case rel => exact ⟨k + 1, by omega, by go_num, Lib.hid (HBQ.out.trans (HH.out.mono HBQ.out.size))⟩
                  case measure => (simp [intOf]; try omega)
                · obtain rfl : k = xm := by omega
                  go_wp2_with fail
                  go_roundw
                  case rel => exact ⟨q + 1, by omega, by go_num, HBQ⟩
                  case measure => (simp [intOf]; try omega)
            · obtain rfl : q = i := by omega
              have HGE := Lib.hid (HGQ.out.below HB.out)
              go_wp2_with (go_at_call 28; refine (fixed11_any _).mono ?_; rintro e w20 ⟨rfl, hb20⟩; have H20 := Lib.hid (HGE.out.below hb20); clear hb20)
              go_ret
              exact ⟨rfl, H20.out.bel⟩

set_option maxRecDepth 100000 in
set_option maxHeartbeats 1000000 in
theorem lifted (os : Os) (started : os.Started) (H : Type) (enc : TypeId × Value → H) :
    ReturnsInHanded {} Try.checked os 4 .any (Rows.groupPartsSpec.pre6 enc Try.prog Try.f4 Rows.groupPartsRow.domain false) (Rows.groupPartsSpec.post enc Try.prog Try.f4 false true false false) := by
  refine returnsInHanded_of_change (C := Try.checked) own started (by kernel_rfl) Try.func4
    (ChangeSpec.witness6 (enc := enc) (C := Try.checked) false ⟨#[], #[.slice none 0 0, .slice none 0 0], []⟩ 8 (by kernel_rfl) (by kernel_rfl) (by kernel_rfl) (by kernel_rfl)) ?_
  intro W base args ds gs before hval0 hW _ _
  have hval : ∀ (j : Nat) t v, Try.f4.params[j]? = some t → args[j]? = some v → Value.okWide Try.prog W .any base t v := hval0
  have hW' := hW
  obtain ⟨p, q, hA0, hV, rfl, hfz, hnd⟩ := hW
  have hA : DataW.TrodAll enc Try.prog W 0 (fun _ => true) true Try.f4.params.toList args.toList ds p := hA0
  rw [Try.params4] at hA hval
  obtain ⟨v0, vs0, d0, ds0, p0, q0, hargs, rfl, rfl, h0, r0⟩ := trodAll_cons hA
  obtain ⟨v1, vs1, d1, ds1, p1, q1, rfl, rfl, rfl, h1, r1⟩ := trodAll_cons r0
  obtain ⟨rfl, rfl, rfl⟩ := trodAll_nil r1
  obtain rfl : args = #[v0, v1] := by cases args; simp_all
  obtain ⟨rfl, rfl⟩ := trodVars_none hV
  have k0 := h0
  have lt0 : ∀ x ∈ p0, x.block < W.heap.size := by obtain ⟨m, hm⟩ := k0; exact DataW.trod_lt m _ _ _ hm
  have k1 := h1
  have lt1 : ∀ x ∈ p1, x.block < W.heap.size := by obtain ⟨m, hm⟩ := k1; exact DataW.trod_lt m _ _ _ hm
  obtain ⟨A0, l0, c0, e0, R0, S0, Z0⟩ := L11.open_script (hval 0 43 v0 rfl rfl) h0
  subst e0
  obtain ⟨A1, l1, c1, e1, R1, S1, Z1⟩ := L11.open_tops (hval 1 22 v1 rfl rfl) h1
  subst e1
  clear hA0 hval0
  refine (walk W A0 l0 c0 R0 S0 Z0 A1 l1 c1 R1 S1 Z1).mono fun e W' ⟨he, bel⟩ => ?_
  subst he
  exact ⟨_, rfl, _, _, _, [], _, [], hW', trodAll_mk1 (shut_bool Try.underlying4 _), (trodAll_cons_mk (Below.trod laidOut (by kernel_rfl) (of_decide_eq_true (by kernel_rfl)) k0 bel lt0) (trodAll_cons_mk (Below.trod laidOut (by kernel_rfl) (of_decide_eq_true (by kernel_rfl)) k1 bel lt1) trodAll_mk0)), rfl, bel.frame _, fun h => by cases h⟩

theorem over : Rows.groupPartsRow.holds Try.pinned (OpenSpec.ofChange Rows.groupPartsSpec) :=
  OpenClaim.holds_of_wide 4 Try.f4 rfl rfl rfl rfl rfl rfl rfl ⟨rfl, rfl, rfl, rfl, rfl⟩ rfl rfl rfl rfl rfl (by kernel_rfl) Try.func4 (by kernel_rfl)
    (of_decide_eq_true (by kernel_rfl)) (by unfold Func.isWrapper; first | (rw [if_pos (by decide +kernel)]; kernel_rfl) | (rw [if_neg (by decide +kernel)]; exact ⟨rfl, rfl⟩))
    (fun os started H enc _ => lifted os started H enc)

/-- the statement -/
theorem proved : Rows.GroupPartsSaid :=
  over
#print axioms proved
end Go.Proofs.Ytidgifnnkaheeaa.groupParts
