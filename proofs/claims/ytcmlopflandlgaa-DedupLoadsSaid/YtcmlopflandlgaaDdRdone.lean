/-
  The document's Done.
-/
import Derived.Test.YtcmlopflandlgaaDdRopen
import Derived.Deep.DeepCutAuto
import Derived.Deep.RegionHeld3
import Derived.Deep.RegionLaw
namespace Go.Proofs.Ytcmlopflandlgaa.L8
open Go.RowKit
open Go.Maps
open L3 L4

/-- another one in its place -/
def putV (m : MV) : Bool → List MV → List MV
  | put, [] => if put then [] else [m]
  | put, x :: t => (if !put && !befB x.m m.m then [m] else []) ++ ((if befB x.m m.m || befB m.m x.m then [x] else []) ++ putV m (put || !befB x.m m.m) t)
theorem putV_map (m : MV) : ∀ (vs : List MV) (put : Bool), (putV m put vs).map (·.m) = putM m.m put (vs.map (·.m))
  | [], put => by cases put <;> rfl
  | x :: t, put => by
    have ih := putV_map m t (put || !befB x.m m.m)
    show ((if (!put && !befB x.m m.m) = true then [m] else []) ++ ((if (befB x.m m.m || befB m.m x.m) = true then [x] else []) ++ putV m (put || !befB x.m m.m) t)).map (·.m) = (if (!put && !befB x.m m.m) = true then [m.m] else []) ++ ((if (befB x.m m.m || befB m.m x.m) = true then [x.m] else []) ++ putM m.m (put || !befB x.m m.m) (t.map (·.m)))
    rw [List.map_append, List.map_append, ih]
    congr 1
    · split <;> rfl
    · congr 1
      split <;> rfl
theorem putV_mem {m v : MV} : ∀ {vs : List MV} {put : Bool}, v ∈ putV m put vs → v = m ∨ v ∈ vs
  | [], put, h => by cases put <;> simp [putV] at h; exact .inl h
  | x :: t, put, h => by
    have h' : v ∈ (if (!put && !befB x.m m.m) = true then [m] else []) ++ ((if (befB x.m m.m || befB m.m x.m) = true then [x] else []) ++ putV m (put || !befB x.m m.m) t) := h
    rcases List.mem_append.1 h' with q | q
    · split at q
      · exact .inl (by simpa using q)
      · simp at q
    · rcases List.mem_append.1 q with q | q
      · split at q
        · exact .inr (by simp at q; simp [q])
        · simp at q
      · rcases putV_mem q with q | q
        · exact .inl q
        · exact .inr (by simp [q])
theorem putV_at {m : MV} {vs : List MV} {j : Nat} {x : MV} (h : vs[j]? = some x) (put : Bool) : putV m put (vs.drop j) = (if !put && !befB x.m m.m then [m] else []) ++ ((if befB x.m m.m || befB m.m x.m then [x] else []) ++ putV m (put || !befB x.m m.m) (vs.drop (j + 1))) := by
  rw [drop_at h]; rfl
/-- while the list is gone over -/
structure RPut (W : World) (vs : List MV) (m : MV) (j n c : Nat) (A : Option Addr) (put : Bool) (out : List MV) (wr : World) : Prop where
  own : wr.ownsRow W.heap.size 48 5 (.slice A n c) n (rowM out)
  len : out.length = n
  bel : Below W.heap.size W wr
  eq : out ++ putV m put (vs.drop j) = putV m false vs
section
variable {W w1 w2 : World} {a1 a2 a3 a4 a5 a6 a7 a8 a9 a0 c0 c1 : Addr} {v1 v2 v3 v4 v5 v6 v7 v8 v9 v0 u0 u1 : Value}
theorem keep12n (h : ((w1.cell? a1 = some v1 ∧ w1.cell? a2 = some v2 ∧ w1.cell? a3 = some v3 ∧ w1.cell? a4 = some v4 ∧ w1.cell? a5 = some v5) ∧ (w1.cell? a6 = some v6 ∧ w1.cell? a7 = some v7 ∧ w1.cell? a8 = some v8 ∧ w1.cell? a9 = some v9 ∧ w1.cell? a0 = some v0) ∧ w1.cell? c0 = some u0) ∧ Below W.heap.size W w1) (hb : Below w1.heap.size w1 w2) :
    ((w2.cell? a1 = some v1 ∧ w2.cell? a2 = some v2 ∧ w2.cell? a3 = some v3 ∧ w2.cell? a4 = some v4 ∧ w2.cell? a5 = some v5) ∧ (w2.cell? a6 = some v6 ∧ w2.cell? a7 = some v7 ∧ w2.cell? a8 = some v8 ∧ w2.cell? a9 = some v9 ∧ w2.cell? a0 = some v0) ∧ w2.cell? c0 = some u0) ∧ Below W.heap.size W w2 := by
  obtain ⟨⟨⟨h1, h2, h3, h4, h5⟩, ⟨h6, h7, h8, h9, h0⟩, k0⟩, ho⟩ := h
  exact ⟨⟨⟨cell_at hb h1, cell_at hb h2, cell_at hb h3, cell_at hb h4, cell_at hb h5⟩, ⟨cell_at hb h6, cell_at hb h7, cell_at hb h8, cell_at hb h9, cell_at hb h0⟩, cell_at hb k0⟩, ho.trans (hb.mono ho.size)⟩
end
theorem rowC_src {w : World} {X : Option Addr} {c : Nat} {l : List Did} (h : RowC w X c l) : Src w X (rowD l) := h.1.src
theorem own_cap {w : World} {base n c : Nat} {A : Option Addr} {T : TypeId} {s : Nat} {xs : List Value} (h : w.ownsRow base T s (.slice A n c) n xs) : n ≤ c := by
  rcases h.2 with ⟨e, q⟩ | ⟨g, cap, cur, e, _, _, hc, _⟩
  · omega
  · injection e with _ _ e3; omega
theorem own_some {w : World} {base n c : Nat} {A : Option Addr} {T : TypeId} {s : Nat} {xs : List Value} (h : w.ownsRow base T s (.slice A n c) n xs) (h0 : 0 < n) : ∃ g, A = some ⟨g, 0, none⟩ := by
  rcases h.2 with ⟨e, q⟩ | ⟨g, cap, cur, e, _⟩
  · omega
  · injection e with e; exact ⟨g, e⟩
set_option maxRecDepth 100000 in
set_option maxHeartbeats 16000000 in
theorem rdone_put {B : Nat} {w : World} {k cE cL m : Nat} {AE AL : Option Addr} {es : List Int} {vs : List MV} (t : ByteArray) (p pr ep sq off : Int) (R : Option Addr) (n rc L Lp : Nat) (l lp : List Did) (h : Hid (RT B w k AE cE AL cL es vs)) (HB : Hid (B ≤ w.heap.size)) (hm : Hid (vs.length = m)) (hml : m ≤ 100000) (G : Hid (Good es (vs.map (·.m)))) (ht : t.size ≤ maxLen) (hp : Hid ((Lit.int .i64 p).wf = true)) (hpr : Hid (1 ≤ pr ∧ pr ≤ 32))
    (HA : Hid (askP es (vs.map (·.m)) t p pr ep sq n = (0, false, 0))) (hn0 : 0 < n) (hoff : Hid (numB8 off = true)) (Hl : Hid (lastOf (vs.map (·.m)) pr t p = l)) (HL : Hid (l.length = L)) (Hlp : Hid (push l ⟨sq, n, off⟩ = lp)) (HLp : Hid (lp.length = Lp)) :
    Calls Try.prog 14 #[.pointer (some ⟨k, 0, none⟩), .agg #[.string t, .int .i64 p], .agg #[.int .i64 pr, .int .i64 ep, .int .i64 sq, .slice R n rc], .int .i64 off] w fun e w' => e = .returned (.int .i64 0) ∧ RTurned w B k AE AL es (putM ⟨pr, ep, t, p, lp⟩ false (vs.map (·.m))) w' := by
  obtain ⟨i0, hi0, hz0, hz1, hz2⟩ := info_parts didInfo
  obtain ⟨im, hi0m, hz0m, hz1m, hz2m⟩ := info_parts makerInfo
  have HL5 : Hid (L ≤ 5) := Lib.hid (by rw [← HL.out, ← Hl.out]; exact G.out.last_len _ _ _)
  have HLpv : Hid (Lp = min (L + 1) 5) := Lib.hid (by rw [← HLp.out, ← Hlp.out, push_len, HL.out])
  have HCM : Hid (Cmp (vs.map (·.m))) := Lib.hid (fun q hq => G.out.txt q hq)
  obtain ⟨W, hW⟩ : ∃ W, (w.alloc (.cells #[.string t, .int .i64 p] 31)).alloc (.cells #[.int .i64 pr, .int .i64 ep, .int .i64 sq, .slice R n rc] 34) = W := ⟨_, rfl⟩
  have HW := Lib.hid hW
  obtain ⟨hbW, _⟩ := done_boxes hW (Below.refl _ _)
  have HT := Lib.hid (h.out.below hbW)
  clear hW hbW
  have i00 : (pr == 0) = false := by simpa using (by have := hpr.out; omega : pr ≠ 0)
  have n0 : ((n : Int) == 0) = false := by simpa using (by omega : (n : Int) ≠ 0)
  go_enter Try.func14, Try.ntmps14
  go_upto_region 6 with (go_at_call 12; rw [HW.out]; refine (rask_is t p pr ep sq 0 0 false R n rc HT hm (by omega) G ht hp HA).mono ?_; rintro e w1 ⟨rfl, hb1⟩; obtain ⟨B1, ⟨k0, k1⟩, k2, k3, k4⟩ := done_boxes HW.out hb1; have HB1 := Lib.hid hb1; clear hb1)
  have HBW1 : Hid (Below w.heap.size w w1) := Lib.hid B1
  have k5 : w1.cell? ⟨w.heap.size + 1, 1, none⟩ = some (.int .i64 ep) := by
    have hb2 := HB1.out
    rw [← HW.out] at hb2
    exact cell_at hb2 ((cell_of_row _ _ 1 _ _ _ (ask_boxes (w := w) (pr := pr) (ep := ep) (sq := sq) (p := p) (t := t) (v := .slice R n rc)).2.2).trans rfl)
  clear B1
  go_upto_region 10 with (go_at_call 34; refine (num8_is off true _ hoff).mono ?_; rintro e wz ⟨rfl, rfl⟩)
  have HT1 := Lib.hid (h.out.below HBW1.out)
  have K0 := Lib.hid k0
  have K1 := Lib.hid k1
  have K2 := Lib.hid k2
  have K3 := Lib.hid k3
  have K4 := Lib.hid k4
  have K5 := Lib.hid k5
  clear i00 n0 k3 k4 k5
  obtain ⟨W2, hW2⟩ : ∃ W2, w1.alloc (.cells #[] 50) = W2 := ⟨_, rfl⟩
  have hb2 : Below w1.heap.size w1 W2 := by rw [← hW2]; exact one_box' _
  have ho2 : W2.ownsRow w1.heap.size 50 3 (.slice (some ⟨w1.heap.size, 0, none⟩) 0 0) 0 [] := by rw [← hW2]; exact World.ownsRow_made (size := 3) w1 #[] 0 (Nat.le_refl _) (by unfold maxLen; omega) rfl
  have HB2 := Lib.hid hb2
  have HO2 := Lib.hid ho2
  have HZ2 : Hid (w1.heap.size ≤ W2.heap.size) := Lib.hid hb2.size
  have b0 := cell_at hb2 k0
  have b1 := cell_at hb2 k1
  have b2 := cell_at hb2 k2
  clear hb2 ho2 k0 k1 k2
  go_upto_region 11 with (first
    | (at_builtin; have _q := HR3; refine wpList_append_src (by rfl) _ _ 46 (by rfl) w1.heap.size 50 i0 _ 3 24 Try.underlying46 hi0 hz0 hz1 hz2 rfl (by omega) (.slice (some ⟨w1.heap.size, 0, none⟩) 0 0) 0 [] (by rfl) HO3.out X L c (rowD l) (by rfl) (by rw [rowD_len, HL.out]) HR3.out.1.src (fun e => by have hc := HN3.out e; have hl := HR3.out.2; rw [HL.out] at hl; omega) (rowD_one l) (by have := HL5.out; unfold maxLen; omega) (by have := HL5.out; omega) (by have := HZ3.out; omega) ?_; intro v4 w4 hown4 hgrow4; have HB4 : Hid (Below w1.heap.size w1 w4) := Lib.hid (HB3.out.grown hgrow4 (by have := HZ3.out; omega) (fun z e => (HO3.out.lt z e).1)); obtain ⟨A4, c4, rfl⟩ := own_len hown4; rw [Nat.zero_add, List.nil_append] at hown4; have HO4 := Lib.hid hown4; have HZ4 : Hid (w1.heap.size ≤ w4.heap.size) := Lib.hid HB4.out.size; clear hown4 hgrow4)
    | (go_at_call 30; refine (rlast_is pr p t l L (Lib.hid (HT1.out.below HB2.out)) hm (by omega) HCM ht hp Hl HL).mono ?_; rintro e w3 ⟨X, c, rfl, hR3, hn3, hb3⟩; have HR3 := Lib.hid hR3; have HN3 := Lib.hid hn3; have HB3 : Hid (Below w1.heap.size w1 w3) := Lib.hid (HB2.out.trans (hb3.mono HB2.out.size)); have HO3 := Lib.hid (own_below HO2.out hb3); have HZ3 : Hid (w1.heap.size ≤ w3.heap.size) := Lib.hid HB3.out.size; clear hR3 hn3 hb3))
  clear hW2 b0 b1 b2
  have d2 := cell_at HB4.out K3.out
  have d3 := cell_at HB4.out K4.out
  go_upto_if 60 with (at_builtin; refine wpList_append_own _ rfl _ _ 46 (by rfl) w1.heap.size 50 i0 _ 3 24 Try.underlying46 hi0 hz0 hz1 hz2 rfl (by omega) (.slice A4 L c4) L (rowD l) (by first | rfl | simp) (HO4.out.alloc _) ⟨w4.heap.size, 0, none⟩ 1 1 [.int .i64 sq, .int .i64 n, .int .i64 off] (by rfl) (by rfl) (World.news_of_block (cs := #[.int .i64 sq, .int .i64 n, .int .i64 off]) (t := 50) (fr := (0, 0)) (heap_alloc_new w4 _)) (by simp [Value.oneCell']) (by have := HL5.out; unfold maxLen; omega) (by have := HL5.out; omega) (by have := HZ4.out; simp; omega) ?_; intro v5 w5 hown5 hgrow5 _; have HB5 : Hid (Below w1.heap.size w1 w5) := Lib.hid ((HB4.out.alloc HZ4.out _).grown hgrow5 (by have := HZ4.out; simp; omega) (fun z e => (HO4.out.lt z e).1)); obtain ⟨A5, c5, rfl⟩ := own_len hown5; have HO5 := Lib.hid hown5; clear hown5 hgrow5)
  obtain ⟨g5, rfl⟩ := own_some HO5.out (by omega)
  have hcap5 : L + 1 ≤ c5 := own_cap HO5.out
  have HRD5 : Hid (RowD w5 (some ⟨g5, 0, none⟩) (l ++ [(⟨sq, n, off⟩ : Did)])) := Lib.hid (RowD.own (n := L + 1) (c := c5) (by rw [rowD_app]; exact HO5.out) (by simp [HL.out]))
  have HPQ : Hid (lp = (l ++ [(⟨sq, n, off⟩ : Did)]).drop (L + 1 - 5)) := Lib.hid (by rw [← Hlp.out]; unfold push; rw [HL.out])
  clear d2 d3
  go_cut [12] (fun sv wc => ∃ (X' : Option Addr) (c' : Nat), sv = .slice X' Lp c' ∧ Hid (RowC wc X' c' lp ∧ (X' = none → c' = 0)) ∧ Hid (Below w1.heap.size w1 wc))
  case first =>
    by_cases z5 : L = 5
    · subst z5
      have hLp5 : Lp = 5 := HLpv.out
      subst hLp5
      have hd := HRD5.out.drop 1
      have hpq := HPQ.out
      rw [← hpq] at hd
      have HD := Lib.hid hd
      clear hd hpq
      go_wp2_with fail
      all_goals
        go_meet
        exact ⟨some ⟨g5, 0 + 1 * 3, none⟩, c5 - 1, by simp, Lib.hid ⟨⟨HD.out, by rw [HLp.out]; omega⟩, fun e => (by cases e)⟩, HB5⟩
    · have hL5 := HL5.out
      have hLp5 : Lp = L + 1 := by rw [HLpv.out]; omega
      subst hLp5
      have z6 : ¬ (5 : Int) < (L : Int) + 1 := by omega
      have hpq := HPQ.out
      rw [show L + 1 - 5 = 0 by omega, List.drop_zero] at hpq
      have HPQ0 := Lib.hid hpq
      clear hpq
      go_wp2_with fail
      all_goals
        go_meet
        exact ⟨some ⟨g5, 0, none⟩, c5, rfl, Lib.hid ⟨⟨by rw [HPQ0.out]; exact HRD5.out, by rw [HLp.out]; omega⟩, fun e => (by cases e)⟩, HB5⟩
  case rest =>
    obtain ⟨X', c', rfl, HX', HBX⟩ := hcut
    have m0 := cell_at HBX.out K2.out
    have m1 := cell_at HBX.out K5.out
    have m2 := cell_at HBX.out K0.out
    have m3 := cell_at HBX.out K1.out
    clear hcap5 HRD5 HPQ HO5 HB5
    go_upto_region 15 with fail
    obtain ⟨W3, hW3⟩ : ∃ W3, wc.alloc (.cells #[.int .i64 pr, .int .i64 ep, .string t, .int .i64 p, .slice X' Lp c'] 48) = W3 := ⟨_, rfl⟩
    obtain ⟨mb, hmb⟩ : ∃ b, wc.heap.size = b := ⟨_, rfl⟩
    have hb3 : Below wc.heap.size wc W3 := by rw [← hW3]; exact one_box' _
    have hr3 : W3.heap[mb]? = some (.cells #[.int .i64 pr, .int .i64 ep, .string t, .int .i64 p, .slice X' Lp c'] 48 (0, 0)) := by rw [← hW3, ← hmb]; exact heap_alloc_new _ _
    have HBW3 : Hid (Below w.heap.size w W3) := Lib.hid (HBW1.out.trans ((HBX.out.trans (hb3.mono HBX.out.size)).mono HBW1.out.size))
    have HT3 := Lib.hid (h.out.below HBW3.out)
    have HX3 : Hid (RowC W3 X' c' lp ∧ (X' = none → c' = 0)) := Lib.hid ⟨HX'.out.1.below hb3, HX'.out.2⟩
    have E0 : Hid (W3.cell? ⟨mb, 0, none⟩ = some (.int .i64 pr)) := Lib.hid ((cell_of_row _ _ 0 _ _ _ hr3).trans rfl)
    have E1 : Hid (W3.cell? ⟨mb, 1, none⟩ = some (.int .i64 ep)) := Lib.hid ((cell_of_row _ _ 1 _ _ _ hr3).trans rfl)
    have E2 : Hid (W3.cell? ⟨mb, 2, none⟩ = some (.string t)) := Lib.hid ((cell_of_row _ _ 2 _ _ _ hr3).trans rfl)
    have E3 : Hid (W3.cell? ⟨mb, 3, none⟩ = some (.int .i64 p)) := Lib.hid ((cell_of_row _ _ 3 _ _ _ hr3).trans rfl)
    have E4 : Hid (W3.cell? ⟨mb, 4, none⟩ = some (.slice X' Lp c')) := Lib.hid ((cell_of_row _ _ 4 _ _ _ hr3).trans rfl)
    have lk := HT3.out.lt
    have HZW3 : Hid (w.heap.size ≤ W3.heap.size) := Lib.hid HBW3.out.size
    rw [hW3, hmb]
    clear hW3 hmb hb3 hr3 m0 m1 m2 m3 HX'
    go_wp2_with fail
    go_loopw [14, 15, 16] (fun o pv i wr => ∃ (q c nn : Nat) (A : Option Addr) (put : Bool) (out : List MV), q ≤ m ∧ nn ≤ 2 * q ∧ i = .int .i64 q ∧ pv = .bool put ∧ o = .slice A nn c ∧ Hid (RPut W3 vs ⟨⟨pr, ep, t, p, lp⟩, X', c'⟩ q nn c A put out wr)) (fun _ _ i _ => m - (intOf i).toNat)
    case atStart => exact ⟨0, 0, 0, _, false, [], by omega, by omega, rfl, rfl, rfl, Lib.hid ⟨by simpa [rowM] using World.ownsRow_made (size := 5) W3 #[] 0 (Nat.le_refl _) (by unfold maxLen; omega) rfl, rfl, one_box' _, rfl⟩⟩
    case round =>
      obtain ⟨q, c, nn, A, put, out, hq, hnq, rfl, rfl, rfl, HR⟩ := hrel
      have HBR := Lib.hid HR.out.bel
      have HRW := Lib.hid HR.out.own
      have HRL := Lib.hid HR.out.len
      have HRE := Lib.hid HR.out.eq
      have HZR : Hid (W3.heap.size ≤ wr.heap.size) := Lib.hid HBR.out.size
      have c1 := cell_at HBR.out HT3.out.c1
      rw [hm.out] at c1
      have e0 := cell_at HBR.out E0.out; have e1 := cell_at HBR.out E1.out; have e2 := cell_at HBR.out E2.out; have e3 := cell_at HBR.out E3.out; have e4 := cell_at HBR.out E4.out
      by_cases hlt : q < m
      · obtain ⟨gl, ol, rfl, hgl, hcl⟩ := HT3.out.reads (by rw [hm.out]; omega)
        obtain ⟨⟨⟨xi, xe, xt, xp, xl⟩, vA, vc⟩, hv⟩ : ∃ v, vs[q]? = some v := ⟨_, List.getElem?_eq_getElem (by rw [hm.out]; omega)⟩
        obtain ⟨d0, d1, d2, d3, d4⟩ := hcl q _ hv
        dsimp only at d0 d1 d2 d3 d4
        obtain ⟨xn, hxn⟩ : ∃ n, xl.length = n := ⟨_, rfl⟩
        rw [hxn] at d4
        have HXN := Lib.hid hxn
        have DD := Lib.hid (And.intro d0 (And.intro d1 (And.intro d2 (And.intro d3 d4))))
        have HCC : Hid (W3.cell? ⟨k, 1, none⟩ = some (.slice (some ⟨gl, ol, none⟩) m cL)) := Lib.hid (by rw [← hm.out]; exact HT3.out.c1)
        replace d0 := cell_at HBR.out d0; replace d1 := cell_at HBR.out d1; replace d2 := cell_at HBR.out d2; replace d3 := cell_at HBR.out d3; replace d4 := cell_at HBR.out d4
        have hxt := (HCM.out _ (List.mem_map_of_mem (List.mem_of_getElem? hv))).1
        dsimp only at hxt
        have hat := putV_at (m := ⟨⟨pr, ep, t, p, lp⟩, X', c'⟩) hv put
        dsimp only at hat
        obtain ⟨bx, hbx⟩ : ∃ b, befB ⟨xi, xe, xt, xp, xl⟩ ⟨pr, ep, t, p, lp⟩ = b := ⟨_, rfl⟩
        obtain ⟨bm, hbm⟩ : ∃ b, befB ⟨pr, ep, t, p, lp⟩ ⟨xi, xe, xt, xp, xl⟩ = b := ⟨_, rfl⟩
        rw [hbx, hbm] at hat
        have HBXV := Lib.hid hbx
        have HBMV := Lib.hid hbm
        have HAT := Lib.hid hat
        have q0 : (0 : Int) ≤ (q : Int) := by omega
        have q1 : (q : Int) < (m : Int) := by omega
        have F0 := Lib.hid e0; have F1 := Lib.hid e1; have F2 := Lib.hid e2; have F3 := Lib.hid e3; have F4 := Lib.hid e4
        clear hcl hv hgl hxn hbx hbm hat hlt
        go_upto_region 19 with fail
        go_cut [93] (fun sv wd => sv = .bool (!put && !bx) ∧ Hid (Below wr.heap.size wr wd))
        case first =>
          cases put with
          | true =>
            go_quiet (fail)
            go_wp2_with fail
            go_meet
            exact ⟨rfl, Lib.hid (drewN_below (Below.refl _ _) _)⟩
          | false =>
            have hS := And.intro (And.intro (And.intro d0 (And.intro d1 (And.intro d2 (And.intro d3 d4)))) (And.intro (And.intro e0 (And.intro e1 (And.intro e2 (And.intro e3 e4)))) c1)) (Below.refl wr.heap.size wr)
            go_region_held3 (fun w' => ((w'.cell? ⟨gl, ol + q * 5, none⟩ = some (.int .i64 xi) ∧ w'.cell? ⟨gl, ol + q * 5 + 1, none⟩ = some (.int .i64 xe) ∧ w'.cell? ⟨gl, ol + q * 5 + 2, none⟩ = some (.string xt) ∧ w'.cell? ⟨gl, ol + q * 5 + 3, none⟩ = some (.int .i64 xp) ∧ w'.cell? ⟨gl, ol + q * 5 + 4, none⟩ = some (.slice vA xn vc)) ∧ (w'.cell? ⟨mb, 0, none⟩ = some (.int .i64 pr) ∧ w'.cell? ⟨mb, 1, none⟩ = some (.int .i64 ep) ∧ w'.cell? ⟨mb, 2, none⟩ = some (.string t) ∧ w'.cell? ⟨mb, 3, none⟩ = some (.int .i64 p) ∧ w'.cell? ⟨mb, 4, none⟩ = some (.slice X' Lp c')) ∧ w'.cell? ⟨k, 1, none⟩ = some (.slice (some ⟨gl, ol, none⟩) m cL)) ∧ Below wr.heap.size wr w')
              (first | assumption | exact keep12n hS (drewB _) | exact keep12n (by assumption) (by assumption) | exact keep12n (by assumption) (drewB _))
              ((go_at_call 22; refine (rbefore_is xi xe xp pr ep p xt t xl lp vA X' xn vc Lp c' bx _ hxt ht HBXV).mono ?_; rintro e wb ⟨rfl, hbb⟩))
            all_goals
              rename_i hh
              have hbw := hh.2
              clear hh
              go_wp2_with fail
              go_meet
              exact ⟨by simp, Lib.hid hbw⟩
        case rest =>
          obtain ⟨rfl, HBD⟩ := hcut
          obtain ⟨g1, hg1⟩ : ∃ g, (!put && !bx) = g := ⟨_, rfl⟩
          have HG1 := Lib.hid hg1
          rw [hg1]
          have HOD := Lib.hid (own_below HRW.out HBD.out)
          have HBWD : Hid (Below W3.heap.size W3 wc) := Lib.hid (HBR.out.trans (HBD.out.mono HBR.out.size))
          have HZD : Hid (W3.heap.size ≤ wc.heap.size) := Lib.hid HBWD.out.size
          clear hg1 d0 d1 d2 d3 d4 c1 e0 e1 e2 e3 e4
          go_upto_if 93 with fail
          go_cut [14, 15] (fun o pv we => ∃ (A' : Option Addr) (c2 n2 : Nat) (p2 : Bool), o = .slice A' n2 c2 ∧ pv = .bool p2 ∧ Hid (p2 = (put || !bx)) ∧ n2 ≤ nn + 1 ∧ Hid (we.ownsRow W3.heap.size 48 5 (.slice A' n2 c2) n2 (rowM (out ++ if g1 then [⟨⟨pr, ep, t, p, lp⟩, X', c'⟩] else []))) ∧ Hid ((out ++ if g1 then [(⟨⟨pr, ep, t, p, lp⟩, X', c'⟩ : MV)] else []).length = n2) ∧ Hid (Below wr.heap.size wr we ∨ Below W3.heap.size W3 we) ∧ Hid (Below W3.heap.size W3 we))
          case first =>
            cases g1 with
            | false =>
              have hpb : (put || !bx) = put := by
                have e := HG1.out
                cases put <;> cases bx <;> simp at e ⊢
              go_wp2_with fail
              go_meet
              exact ⟨A, c, nn, put, rfl, rfl, Lib.hid hpb.symm, by omega, Lib.hid (by simpa using HOD.out), Lib.hid (by simpa using HRL.out), Lib.hid (.inl HBD.out), HBWD⟩
            | true =>
              have hpb : (put || !bx) = true := by
                have e := HG1.out
                cases put <;> cases bx <;> simp at e ⊢
              have e0 := cell_at HBD.out F0.out; have e1 := cell_at HBD.out F1.out; have e2 := cell_at HBD.out F2.out; have e3 := cell_at HBD.out F3.out; have e4 := cell_at HBD.out F4.out
              go_wp2_with (at_builtin; refine wpList_append_own _ rfl _ _ 27 (by rfl) W3.heap.size 48 im _ 5 64 Try.underlying27 hi0m hz0m hz1m hz2m rfl (by omega) (.slice A nn c) nn _ (by rfl) (HOD.out.alloc _) ⟨wc.heap.size, 0, none⟩ 1 1 [.int .i64 pr, .int .i64 ep, .string t, .int .i64 p, .slice X' Lp c'] (by rfl) (by rfl) (World.news_of_block (cs := #[.int .i64 pr, .int .i64 ep, .string t, .int .i64 p, .slice X' Lp c']) (t := 48) (fr := (0, 0)) (heap_alloc_new wc _)) (by simp [Value.oneCell']) (by unfold maxLen; omega) (by omega) (by have := HZD.out; simp; omega) ?_; intro v7 w7 hown7 hgrow7 _; have HB7 : Hid (Below W3.heap.size W3 w7) := Lib.hid ((HBWD.out.alloc HZD.out _).grown hgrow7 (by have := HZD.out; simp; omega) (fun z e => (HOD.out.lt z e).1)); obtain ⟨A7, c7, rfl⟩ := own_len hown7; have HO7 := Lib.hid hown7; clear hown7 hgrow7)
              go_meet
              exact ⟨A7, c7, nn + 1, true, rfl, rfl, Lib.hid hpb.symm, by omega, Lib.hid (by simpa [rowM, mkC, HLp.out] using HO7.out), Lib.hid (by simp [HRL.out]), Lib.hid (.inr HB7.out), HB7⟩
          case rest =>
            obtain ⟨A', c2, n2, p2, rfl, rfl, HP2, hn2, HO2', HL2, _, HBE⟩ := hcut
            obtain ⟨g0, g1', g2, g3, g4⟩ := DD.out
            replace g0 := cell_at HBE.out g0; replace g1' := cell_at HBE.out g1'; replace g2 := cell_at HBE.out g2; replace g3 := cell_at HBE.out g3; replace g4 := cell_at HBE.out g4
            have e0 := cell_at HBE.out E0.out; have e1 := cell_at HBE.out E1.out; have e2 := cell_at HBE.out E2.out; have e3 := cell_at HBE.out E3.out; have e4 := cell_at HBE.out E4.out
            have c1 := cell_at HBE.out HCC.out
            obtain ⟨o1, ho1⟩ : ∃ o, (out ++ if g1 then [(⟨⟨pr, ep, t, p, lp⟩, X', c'⟩ : MV)] else []) = o := ⟨_, rfl⟩
            rw [ho1] at HO2' HL2
            have HO1 := Lib.hid ho1
            clear ho1
            go_upto_region 22 with fail
            have hS := And.intro (And.intro (And.intro g0 (And.intro g1' (And.intro g2 (And.intro g3 g4)))) (And.intro (And.intro e0 (And.intro e1 (And.intro e2 (And.intro e3 e4)))) c1)) (Below.refl wc.heap.size wc)
            go_cut [117] (fun sv we => sv = .bool (bx || bm) ∧ Hid (Below wc.heap.size wc we))
            case first =>
              cases bx with
              | true =>
                refine wp_region_held_drew (S := (fun w' => ((w'.cell? ⟨gl, ol + q * 5, none⟩ = some (.int .i64 xi) ∧ w'.cell? ⟨gl, ol + q * 5 + 1, none⟩ = some (.int .i64 xe) ∧ w'.cell? ⟨gl, ol + q * 5 + 2, none⟩ = some (.string xt) ∧ w'.cell? ⟨gl, ol + q * 5 + 3, none⟩ = some (.int .i64 xp) ∧ w'.cell? ⟨gl, ol + q * 5 + 4, none⟩ = some (.slice vA xn vc)) ∧ (w'.cell? ⟨mb, 0, none⟩ = some (.int .i64 pr) ∧ w'.cell? ⟨mb, 1, none⟩ = some (.int .i64 ep) ∧ w'.cell? ⟨mb, 2, none⟩ = some (.string t) ∧ w'.cell? ⟨mb, 3, none⟩ = some (.int .i64 p) ∧ w'.cell? ⟨mb, 4, none⟩ = some (.slice X' Lp c')) ∧ w'.cell? ⟨k, 1, none⟩ = some (.slice (some ⟨gl, ol, none⟩) m cL)) ∧ Below wc.heap.size wc w')) (by kernel_rfl) (keep12n hS (drewB _)) (fun hHeld => ?_)
                clear hS g0 g1' g2 g3 g4 e0 e1 e2 e3 e4 c1
                refine wpAnyH_take (i := 0) (oi := ?o1) (v := ?v1) ?a1 (by kernel_rfl) (by kernel_rfl) (by kernel_rfl) ?q1 (Or.inl ⟨?g1, ?y1⟩) (by assumption) ?r1; (case' a1 => (simp only [List.getElem?_toArray, List.getElem?_cons_zero]; rfl)); (case' q1 => (exact fun _ _ _ h => h)); (case' g1 => rfl); (case' y1 => (intro w hSw; (try dsimp only at hSw); go_simp; try with_reducible rfl)); (case' r1 => (try simp only [Act.put, List.setIfInBounds_toArray, List.set_cons_zero, List.set_cons_succ]))
                refine wpAnyH_take (i := 1) (oi := ?o2) (v := ?v2) ?a2 (by kernel_rfl) (by kernel_rfl) (by kernel_rfl) ?q2 (Or.inl ⟨?g2, ?y2⟩) (by assumption) ?r2; (case' a2 => (simp only [List.getElem?_toArray, List.getElem?_cons_zero, List.getElem?_cons_succ]; rfl)); (case' q2 => (exact fun _ _ _ h => h)); (case' g2 => rfl); (case' y2 => (intro w hSw; (try dsimp only at hSw); go_simp; try with_reducible rfl)); (case' r2 => (try simp only [Act.put, List.setIfInBounds_toArray, List.set_cons_zero, List.set_cons_succ]))
                refine wpAnyH_take (i := 2) (oi := ?o3) (v := ?v3) ?a3 (by kernel_rfl) (by kernel_rfl) (by kernel_rfl) ?q3 (Or.inl ⟨?g3, ?y3⟩) (by assumption) ?r3; (case' a3 => (simp only [List.getElem?_toArray, List.getElem?_cons_zero, List.getElem?_cons_succ]; rfl)); (case' q3 => (exact fun _ _ _ h => h)); (case' g3 => rfl); (case' y3 => (intro w hSw; (try dsimp only at hSw); go_simp; try with_reducible rfl)); (case' r3 => (try simp only [Act.put, List.setIfInBounds_toArray, List.set_cons_zero, List.set_cons_succ]))
                refine wpAnyH_take (i := 3) (oi := ?o4) (v := ?v4) ?a4 (by kernel_rfl) (by kernel_rfl) (by kernel_rfl) ?q4 (Or.inl ⟨?g4, ?y4⟩) (by assumption) ?r4; (case' a4 => (simp only [List.getElem?_toArray, List.getElem?_cons_zero, List.getElem?_cons_succ]; rfl)); (case' q4 => (exact fun _ _ _ h => h)); (case' g4 => rfl); (case' y4 => (intro w hSw; (try dsimp only at hSw); go_simp; try with_reducible rfl)); (case' r4 => (try simp only [Act.put, List.setIfInBounds_toArray, List.set_cons_zero, List.set_cons_succ]))
                refine wpAnyH_take (i := 4) (oi := ?o5) (v := ?v5) ?a5 (by kernel_rfl) (by kernel_rfl) (by kernel_rfl) ?q5 (Or.inl ⟨?g5, ?y5⟩) (by assumption) ?r5; (case' a5 => (simp only [List.getElem?_toArray, List.getElem?_cons_zero, List.getElem?_cons_succ]; rfl)); (case' q5 => (exact fun _ _ _ h => h)); (case' g5 => rfl); (case' y5 => (intro w hSw; (try dsimp only at hSw); go_simp; try with_reducible rfl)); (case' r5 => (try simp only [Act.put, List.setIfInBounds_toArray, List.set_cons_zero, List.set_cons_succ]))
                refine wpAnyH_take (i := 5) (oi := ?o6) (v := ?v6) ?a6 (by kernel_rfl) (by kernel_rfl) (by kernel_rfl) ?q6 (Or.inl ⟨?g6, ?y6⟩) (by assumption) ?r6; (case' a6 => (simp only [List.getElem?_toArray, List.getElem?_cons_zero, List.getElem?_cons_succ]; rfl)); (case' q6 => (exact fun _ _ _ h => h)); (case' g6 => rfl); (case' y6 => (intro w hSw; (try dsimp only at hSw); go_simp; try with_reducible rfl)); (case' r6 => (try simp only [Act.put, List.setIfInBounds_toArray, List.set_cons_zero, List.set_cons_succ]))
                refine wpAnyH_take (i := 6) (oi := ?o7) (v := ?v7) ?a7 (by kernel_rfl) (by kernel_rfl) (by kernel_rfl) ?q7 (Or.inl ⟨?g7, ?y7⟩) (by assumption) ?r7; (case' a7 => (simp only [List.getElem?_toArray, List.getElem?_cons_zero, List.getElem?_cons_succ]; rfl)); (case' q7 => (exact fun _ _ _ h => h)); (case' g7 => rfl); (case' y7 => (intro w hSw; (try dsimp only at hSw); go_simp; try with_reducible rfl)); (case' r7 => (try simp only [Act.put, List.setIfInBounds_toArray, List.set_cons_zero, List.set_cons_succ]))
                refine wpAnyH_take (i := 7) (oi := ?o8) (v := ?v8) ?a8 (by kernel_rfl) (by kernel_rfl) (by kernel_rfl) ?q8 (Or.inl ⟨?g8, ?y8⟩) (by assumption) ?r8; (case' a8 => (simp only [List.getElem?_toArray, List.getElem?_cons_zero, List.getElem?_cons_succ]; rfl)); (case' q8 => (exact fun _ _ _ h => h)); (case' g8 => rfl); (case' y8 => (intro w hSw; (try dsimp only at hSw); go_simp; try with_reducible rfl)); (case' r8 => (try simp only [Act.put, List.setIfInBounds_toArray, List.set_cons_zero, List.set_cons_succ]))
                refine wpAnyH_ready (rs := [8]) (by kernel_rfl) (by simp) ?_
                refine AllReadyH.cons (o := ?o9) ?a9 (fun K hK => ?s9) ?m9; (case' a9 => (simp only [List.getElem?_toArray, List.getElem?_cons_zero, List.getElem?_cons_succ]; rfl))
                case s9 =>
                  go_simp
                  go_at_call 22
                  refine (rbefore_is xi xe xp pr ep p xt t xl lp vA X' xn vc Lp c' true _ hxt ht HBXV).mono ?_
                  rintro e wn ⟨rfl, hbn⟩
                  go_wp2_with fail
                  refine hK.out _ _ (keep12n hHeld hbn) (fun hHeld => ?_)
                  clear hK K
                  (try simp only [Act.put, List.setIfInBounds_toArray, List.set_cons_zero, List.set_cons_succ])
                  refine wpAnyH_take (i := 9) (oi := ?o10) (v := ?v10) ?a10 (by kernel_rfl) (by kernel_rfl) (by kernel_rfl) ?q10 (Or.inl ⟨?g10, ?y10⟩) (by assumption) ?r10; (case' a10 => (simp only [List.getElem?_toArray, List.getElem?_cons_zero, List.getElem?_cons_succ]; rfl)); (case' q10 => (exact fun _ _ _ h => h)); (case' g10 => rfl); (case' y10 => (intro w hSw; (try dsimp only at hSw); go_simp; try with_reducible rfl)); (case' r10 => (try simp only [Act.put, List.setIfInBounds_toArray, List.set_cons_zero, List.set_cons_succ]))
                  refine wpAnyH_take (i := 10) (oi := ?o11) (v := undef) ?a11 (by kernel_rfl) (by kernel_rfl) (by kernel_rfl) ?q11 (Or.inr ⟨?g11, rfl⟩) (by assumption) ?r11; (case' a11 => (simp only [List.getElem?_toArray, List.getElem?_cons_zero, List.getElem?_cons_succ]; rfl)); (case' q11 => (exact fun _ _ _ h => h)); (case' g11 => rfl); (case' r11 => (try simp only [Act.put, List.setIfInBounds_toArray, List.set_cons_zero, List.set_cons_succ]))
                  refine wpAnyH_take (i := 11) (oi := ?o12) (v := undef) ?a12 (by kernel_rfl) (by kernel_rfl) (by kernel_rfl) ?q12 (Or.inr ⟨?g12, rfl⟩) (by assumption) ?r12; (case' a12 => (simp only [List.getElem?_toArray, List.getElem?_cons_zero, List.getElem?_cons_succ]; rfl)); (case' q12 => (exact fun _ _ _ h => h)); (case' g12 => rfl); (case' r12 => (try simp only [Act.put, List.setIfInBounds_toArray, List.set_cons_zero, List.set_cons_succ]))
                  refine wpAnyH_take (i := 12) (oi := ?o13) (v := undef) ?a13 (by kernel_rfl) (by kernel_rfl) (by kernel_rfl) ?q13 (Or.inr ⟨?g13, rfl⟩) (by assumption) ?r13; (case' a13 => (simp only [List.getElem?_toArray, List.getElem?_cons_zero, List.getElem?_cons_succ]; rfl)); (case' q13 => (exact fun _ _ _ h => h)); (case' g13 => rfl); (case' r13 => (try simp only [Act.put, List.setIfInBounds_toArray, List.set_cons_zero, List.set_cons_succ]))
                  refine wpAnyH_take (i := 13) (oi := ?o14) (v := undef) ?a14 (by kernel_rfl) (by kernel_rfl) (by kernel_rfl) ?q14 (Or.inr ⟨?g14, rfl⟩) (by assumption) ?r14; (case' a14 => (simp only [List.getElem?_toArray, List.getElem?_cons_zero, List.getElem?_cons_succ]; rfl)); (case' q14 => (exact fun _ _ _ h => h)); (case' g14 => rfl); (case' r14 => (try simp only [Act.put, List.setIfInBounds_toArray, List.set_cons_zero, List.set_cons_succ]))
                  refine wpAnyH_take (i := 14) (oi := ?o15) (v := undef) ?a15 (by kernel_rfl) (by kernel_rfl) (by kernel_rfl) ?q15 (Or.inr ⟨?g15, rfl⟩) (by assumption) ?r15; (case' a15 => (simp only [List.getElem?_toArray, List.getElem?_cons_zero, List.getElem?_cons_succ]; rfl)); (case' q15 => (exact fun _ _ _ h => h)); (case' g15 => rfl); (case' r15 => (try simp only [Act.put, List.setIfInBounds_toArray, List.set_cons_zero, List.set_cons_succ]))
                  refine wpAnyH_take (i := 15) (oi := ?o16) (v := undef) ?a16 (by kernel_rfl) (by kernel_rfl) (by kernel_rfl) ?q16 (Or.inr ⟨?g16, rfl⟩) (by assumption) ?r16; (case' a16 => (simp only [List.getElem?_toArray, List.getElem?_cons_zero, List.getElem?_cons_succ]; rfl)); (case' q16 => (exact fun _ _ _ h => h)); (case' g16 => rfl); (case' r16 => (try simp only [Act.put, List.setIfInBounds_toArray, List.set_cons_zero, List.set_cons_succ]))
                  refine wpAnyH_take (i := 16) (oi := ?o17) (v := undef) ?a17 (by kernel_rfl) (by kernel_rfl) (by kernel_rfl) ?q17 (Or.inr ⟨?g17, rfl⟩) (by assumption) ?r17; (case' a17 => (simp only [List.getElem?_toArray, List.getElem?_cons_zero, List.getElem?_cons_succ]; rfl)); (case' q17 => (exact fun _ _ _ h => h)); (case' g17 => rfl); (case' r17 => (try simp only [Act.put, List.setIfInBounds_toArray, List.set_cons_zero, List.set_cons_succ]))
                  refine wpAnyH_take (i := 17) (oi := ?o18) (v := undef) ?a18 (by kernel_rfl) (by kernel_rfl) (by kernel_rfl) ?q18 (Or.inr ⟨?g18, rfl⟩) (by assumption) ?r18; (case' a18 => (simp only [List.getElem?_toArray, List.getElem?_cons_zero, List.getElem?_cons_succ]; rfl)); (case' q18 => (exact fun _ _ _ h => h)); (case' g18 => rfl); (case' r18 => (try simp only [Act.put, List.setIfInBounds_toArray, List.set_cons_zero, List.set_cons_succ]))
                  refine wpAnyH_take (i := 18) (oi := ?o19) (v := undef) ?a19 (by kernel_rfl) (by kernel_rfl) (by kernel_rfl) ?q19 (Or.inr ⟨?g19, rfl⟩) (by assumption) ?r19; (case' a19 => (simp only [List.getElem?_toArray, List.getElem?_cons_zero, List.getElem?_cons_succ]; rfl)); (case' q19 => (exact fun _ _ _ h => h)); (case' g19 => rfl); (case' r19 => (try simp only [Act.put, List.setIfInBounds_toArray, List.set_cons_zero, List.set_cons_succ]))
                  refine wpAnyH_take (i := 19) (oi := ?o20) (v := ?v20) ?a20 (by kernel_rfl) (by kernel_rfl) (by kernel_rfl) ?q20 (Or.inl ⟨?g20, ?y20⟩) (by assumption) ?r20; (case' a20 => (simp only [List.getElem?_toArray, List.getElem?_cons_zero, List.getElem?_cons_succ]; rfl)); (case' q20 => (exact fun _ _ _ h => h)); (case' g20 => rfl); (case' y20 => (intro w hSw; (try dsimp only at hSw); go_simp; try with_reducible rfl)); (case' r20 => (try simp only [Act.put, List.setIfInBounds_toArray, List.set_cons_zero, List.set_cons_succ]))
                  refine wpAnyH_done (by kernel_rfl) ?_ _
                  have hbw := hHeld.2
                  clear hHeld
                  go_wp2_with fail
                  go_meet
                  exact ⟨by simp, Lib.hid hbw⟩
                exact AllReadyH.nil
              | false =>
                go_region_held3 (fun w' => ((w'.cell? ⟨gl, ol + q * 5, none⟩ = some (.int .i64 xi) ∧ w'.cell? ⟨gl, ol + q * 5 + 1, none⟩ = some (.int .i64 xe) ∧ w'.cell? ⟨gl, ol + q * 5 + 2, none⟩ = some (.string xt) ∧ w'.cell? ⟨gl, ol + q * 5 + 3, none⟩ = some (.int .i64 xp) ∧ w'.cell? ⟨gl, ol + q * 5 + 4, none⟩ = some (.slice vA xn vc)) ∧ (w'.cell? ⟨mb, 0, none⟩ = some (.int .i64 pr) ∧ w'.cell? ⟨mb, 1, none⟩ = some (.int .i64 ep) ∧ w'.cell? ⟨mb, 2, none⟩ = some (.string t) ∧ w'.cell? ⟨mb, 3, none⟩ = some (.int .i64 p) ∧ w'.cell? ⟨mb, 4, none⟩ = some (.slice X' Lp c')) ∧ w'.cell? ⟨k, 1, none⟩ = some (.slice (some ⟨gl, ol, none⟩) m cL)) ∧ Below wc.heap.size wc w')
                  (first | assumption | exact keep12n hS (drewB _) | exact keep12n (by assumption) (by assumption) | exact keep12n (by assumption) (drewB _))
                  (first
                    | (go_at_call 22; have _q := hb1; refine (rbefore_is pr ep p xi xe xp t xt lp xl X' vA Lp c' xn vc bm _ ht hxt HBMV).mono ?_; rintro e wb2 ⟨rfl, hb2⟩)
                    | (go_at_call 22; refine (rbefore_is xi xe xp pr ep p xt t xl lp vA X' xn vc Lp c' false _ hxt ht HBXV).mono ?_; rintro e wb ⟨rfl, hb1⟩))
                all_goals
                  rename_i hh
                  have hbw := hh.2
                  clear hh
                  go_wp2_with fail
                  go_meet
                  exact ⟨by simp, Lib.hid hbw⟩
            case rest =>
              obtain ⟨rfl, HBF⟩ := hcut
              obtain ⟨g5, hg5⟩ : ∃ g, (bx || bm) = g := ⟨_, rfl⟩
              have HG5 := Lib.hid hg5
              rw [hg5]
              have HBG : Hid (Below W3.heap.size W3 wc) := Lib.hid (HBE.out.trans (HBF.out.mono HBE.out.size))
              have HOG := Lib.hid (own_below HO2'.out HBF.out)
              have HZG : Hid (W3.heap.size ≤ wc.heap.size) := Lib.hid HBG.out.size
              have HEQ : Hid (o1 ++ ((if g5 = true then [⟨⟨xi, xe, xt, xp, xl⟩, vA, vc⟩] else []) ++ putV ⟨⟨pr, ep, t, p, lp⟩, X', c'⟩ p2 (vs.drop (q + 1))) = putV ⟨⟨pr, ep, t, p, lp⟩, X', c'⟩ false vs) := Lib.hid (by
                have e := HRE.out
                rw [HAT.out, HG1.out, HG5.out, ← HP2.out, ← List.append_assoc] at e
                rw [← HO1.out]; exact e)
              clear hg5 g0 g1' g2 g3 g4 e0 e1 e2 e3 e4 c1 hS
              cases g5 with
              | false =>
                go_wp2_with fail
                go_roundw
                case rel => exact ⟨q + 1, c2, n2, A', p2, o1, by omega, by omega, by go_num, rfl, rfl, Lib.hid ⟨HOG.out, HL2.out, HBG.out, by simpa using HEQ.out⟩⟩
                case measure => simp [intOf]; omega
              | true =>
                obtain ⟨g0, g1', g2, g3, g4⟩ := DD.out
                replace g0 := cell_at HBG.out g0; replace g1' := cell_at HBG.out g1'; replace g2 := cell_at HBG.out g2; replace g3 := cell_at HBG.out g3; replace g4 := cell_at HBG.out g4
                have c1 := cell_at HBG.out HCC.out
                go_wp2_with (at_builtin; refine wpList_append_own _ rfl _ _ 27 (by rfl) W3.heap.size 48 im _ 5 64 Try.underlying27 hi0m hz0m hz1m hz2m rfl (by omega) (.slice A' n2 c2) n2 _ (by rfl) (HOG.out.alloc _) ⟨wc.heap.size, 0, none⟩ 1 1 [.int .i64 xi, .int .i64 xe, .string xt, .int .i64 xp, .slice vA xn vc] (by rfl) (by rfl) (World.news_of_block (cs := #[.int .i64 xi, .int .i64 xe, .string xt, .int .i64 xp, .slice vA xn vc]) (t := 48) (fr := (0, 0)) (heap_alloc_new wc _)) (by simp [Value.oneCell']) (by unfold maxLen; omega) (by omega) (by have := HZG.out; simp; omega) ?_; intro v7 w7 hown7 hgrow7 _; have HB7 : Hid (Below W3.heap.size W3 w7) := Lib.hid ((HBG.out.alloc HZG.out _).grown hgrow7 (by have := HZG.out; simp; omega) (fun z e => (HOG.out.lt z e).1)); obtain ⟨A7, c7, rfl⟩ := own_len hown7; have HO7 := Lib.hid hown7; clear hown7 hgrow7)
                go_roundw
                case rel => exact ⟨q + 1, c7, n2 + 1, A7, p2, o1 ++ [⟨⟨xi, xe, xt, xp, xl⟩, vA, vc⟩], by omega, by omega, by go_num, rfl, rfl, Lib.hid ⟨by rw [rowM_app]; simpa [rowM, mkC, HXN.out] using HO7.out, by rw [List.length_append, HL2.out]; rfl, HB7.out, by simpa using HEQ.out⟩⟩
                case measure => simp [intOf]; omega
      · obtain rfl : q = m := by omega
        have q1 : ¬ (q : Int) < (q : Int) := by omega
        have f1 := (HBR.out.frozen (p := ⟨k, 1, none⟩) lk).trans (HT3.out.froz 1)
        have hdr : vs.drop q = [] := List.drop_of_length_le (by rw [hm.out]; exact Nat.le_refl _)
        have hre := HRE.out
        rw [hdr] at hre
        have HBWR : Hid (Below w.heap.size w wr) := Lib.hid (HBW3.out.trans (HBR.out.mono HBW3.out.size))
        have HKB : Hid (∀ w', Below W3.heap.size W3 w' → RowsIn w' (putV ⟨⟨pr, ep, t, p, lp⟩, X', c'⟩ false vs)) := Lib.hid (fun w' hb v hv => by
          rcases putV_mem hv with rfl | hv
          · exact ⟨HX3.out.1.below hb, HX3.out.2⟩
          · exact HT3.out.rows.below hb v hv)
        have fin : ∀ (w4 : World) (A' : Option Addr) (n' c4 : Nat), Below W3.heap.size W3 w4 → w4.ownsRow W3.heap.size 48 5 (.slice A' n' c4) n' (rowM (putV ⟨⟨pr, ep, t, p, lp⟩, X', c'⟩ false vs)) → (putV ⟨⟨pr, ep, t, p, lp⟩, X', c'⟩ false vs).length = n' → RTurned w B k AE AL es (putM ⟨pr, ep, t, p, lp⟩ false (vs.map (·.m))) (w4.setCell ⟨k, 1, none⟩ (.slice A' n' c4)) := fun w4 A' n' c4 hb ho hn => by
          obtain ⟨r1, r2, r3⟩ := h.out.storeL HB.out (HBW3.out.trans (hb.mono HBW3.out.size)) (own_base ho HZW3.out) hn (HKB.out w4 hb)
          exact ⟨AE, cE, A', c4, _, r1, putV_map _ _ _, r2.mono (fun j hj => .inl (by simp at hj; simp [hj])), fun j hj => .inl hj, fun j hj => .inr (r3 j hj)⟩
        have FIN := Lib.hid fin
        clear hdr fin
        cases put with
        | true =>
          have HOUT : Hid (out = putV ⟨⟨pr, ep, t, p, lp⟩, X', c'⟩ false vs) := Lib.hid (by simpa [putV] using hre)
          clear hre
          go_wp2_with fail
          go_ret
          exact ⟨rfl, FIN.out _ _ _ _ HBR.out (by rw [← HOUT.out]; exact HRW.out) (by rw [← HOUT.out]; exact HRL.out)⟩
        | false =>
          have HOUT : Hid (out ++ [⟨⟨pr, ep, t, p, lp⟩, X', c'⟩] = putV ⟨⟨pr, ep, t, p, lp⟩, X', c'⟩ false vs) := Lib.hid (by simpa [putV] using hre)
          clear hre
          go_wp2_with (at_builtin; refine wpList_append_own _ rfl _ _ 27 (by rfl) W3.heap.size 48 im _ 5 64 Try.underlying27 hi0m hz0m hz1m hz2m rfl (by omega) (.slice A nn c) nn _ (by rfl) (HRW.out.alloc _) ⟨wr.heap.size, 0, none⟩ 1 1 [.int .i64 pr, .int .i64 ep, .string t, .int .i64 p, .slice X' Lp c'] (by rfl) (by rfl) (World.news_of_block (cs := #[.int .i64 pr, .int .i64 ep, .string t, .int .i64 p, .slice X' Lp c']) (t := 48) (fr := (0, 0)) (heap_alloc_new wr _)) (by simp [Value.oneCell']) (by unfold maxLen; omega) (by omega) (by have := HZR.out; simp; omega) ?_; intro v7 w7 hown7 hgrow7 _; have HB7 : Hid (Below W3.heap.size W3 w7) := Lib.hid ((HBR.out.alloc HZR.out _).grown hgrow7 (by have := HZR.out; simp; omega) (fun z e => (HRW.out.lt z e).1)); obtain ⟨A7, c7, rfl⟩ := own_len hown7; have HO7 := Lib.hid hown7; have c7' := cell_at HB7.out HT3.out.c1; have f7 := (HB7.out.frozen (p := ⟨k, 1, none⟩) lk).trans (HT3.out.froz 1); clear hown7 hgrow7)
          go_ret
          exact ⟨rfl, FIN.out _ _ _ _ HB7.out (by rw [← HOUT.out, rowM_app]; simpa [rowM, mkC, HLp.out] using HO7.out) (by rw [← HOUT.out, List.length_append, HRL.out]; rfl)⟩
end Go.Proofs.Ytcmlopflandlgaa.L8
