/-
  Contracts: all partitions of the topics that are among some names.
-/
import Derived.Test.YtohfbmgonjkhhaaTpList
namespace Go.Proofs.Ytohfbmgonjkhhaa.L9
open Go.RowKit Go.Shelf
open Go.Maps
open L3 L4

attribute [local go_sem] Oper.semAt_some

theorem contains_is (A : Option Addr) (cap B : Nat) (names : List ByteArray) (s : ByteArray) (v : Bool) (w : World) (hR : ReadsT w B A names) (hl : names.length ≤ maxLen) (HV : inB names s = v) :
    Calls Try.prog 37 #[.slice A names.length cap, .string s] w fun e w' => e = .returned (.bool v) ∧ w' = w := by
  subst HV
  by_cases h0 : 0 < names.length
  · obtain ⟨g, rfl, _, hc⟩ := hR h0
    refine (Try.slices_Contains_string g 0 names.length cap names s w (Nat.le_refl _) hl (fun j hj => ?_)).mono fun e w' ⟨he, hw⟩ => ⟨he.trans ?_, hw⟩
    · rw [Nat.zero_add]
      refine hc j _ ?_
      rw [List.getD_eq_getElem?_getD, List.getElem?_eq_getElem hj]
      rfl
    · rw [List.take_length]
      congr 2
      rw [Bool.eq_iff_iff, Lib.containsS_iff]
      unfold inB
      rw [List.any_eq_true]
      exact ⟨fun h => ⟨s, h, decide_eq_true rfl⟩, fun ⟨x, h1, h2⟩ => by rw [← of_decide_eq_true h2]; exact h1⟩
  · have : names = [] := List.eq_nil_of_length_eq_zero (by omega)
    subst this
    exact (Try.slices_Contains_string_empty A cap s w).mono fun e w' ⟨he, hw⟩ => ⟨he, hw⟩
theorem parts_snoc (Q : List Pt) (y : Pt) (names : List ByteArray) : partsQ (Q ++ [y]) names = partsQ Q names ++ (if inB names y.t = true then someP y else []) := by
  unfold partsQ
  rw [List.flatMap_append, List.flatMap_cons, List.flatMap_nil, List.append_nil]
theorem some_next {y : Pt} {i : Nat} (h : i < y.n.toNat) : (someP y).take (i + 1) = (someP y).take i ++ [⟨y.t, (i : Int)⟩] := by
  rw [List.take_add_one]
  congr 1
  unfold someP
  rw [List.getElem?_map, List.getElem?_range h]
  rfl
theorem partInfo : (Try.prog.info? 37).map (fun i => (i.zero, i.size, i.bytes)) = some (some (.agg #[.string ⟨#[]⟩, .int .i64 0]), 2, 24) := by kernel_rfl
/-- what the walk keeps of its boxes -/
structure PBox (w W : World) (g : Nat) (An : Option Addr) (ln cn : Nat) (l : List Pt) (v : Value) : Prop where
  bC : Boxed W w.heap.size 24 (.pointer (some ⟨g, 0, none⟩))
  bN : Boxed W (w.heap.size + 1) 23 (.slice An ln cn)
  bL : Boxed W (w.heap.size + 1 + 1) 43 v
  row : W.ownsRow w.heap.size 37 2 v l.length (rowP l)
  bel : Below w.heap.size w W
theorem PBox.appended {w W w1 : World} {g ln cn : Nat} {An : Option Addr} {l : List Pt} {v v' : Value} {y : Pt} {tmp : Obj} (h : PBox w W g An ln cn l v)
    (hown' : w1.ownsRow w.heap.size 37 2 v' (l.length + 1) (rowP l ++ [.string y.t, .int .i64 y.n])) (hgrow : (W.alloc tmp).grownBy w1 v.ownBlock) :
    PBox w (w1.setCell ⟨w.heap.size + 1 + 1, 0, none⟩ v') g An ln cn (l ++ [y]) v' ∧ KeepsOthers W (w1.setCell ⟨w.heap.size + 1 + 1, 0, none⟩ v') ∧ KpS W (w1.setCell ⟨w.heap.size + 1 + 1, 0, none⟩ v') := by
  obtain ⟨h1, h2, h3, h4, h5⟩ := h.bL.appended (by decide) h.row h.bel.size (by omega) hown' hgrow
  refine ⟨⟨?_, ?_, h2, ?_, h.bel.trans h5⟩, h4, kpS_appended h.bL (by decide) h.row (by decide) hgrow rfl⟩
  · exact ((h.bC.alloc tmp).kept hgrow (h.bC.not_row (by decide) h.row)).kept (grownBy_setCell' w1 (w.heap.size + 1 + 1) v') (by simp; omega)
  · exact ((h.bN.alloc tmp).kept hgrow (h.bN.not_row (by decide) h.row)).kept (grownBy_setCell' w1 (w.heap.size + 1 + 1) v') (by simp)
  · rw [List.length_append, rowP_app]; exact h3
theorem pbox_from {w W0 : World} {g ln cn : Nat} {An : Option Addr} {β : Type} (f : β → List Pt) (hB : w.heap.size ≤ W0.heap.size) : OwnFrom W0.heap.size (fun (s : β) W => ∃ v, PBox w W g An ln cn (f s) v) := fun s X Y row ⟨v, h⟩ hg hr => by
  obtain ⟨⟨bC, bN⟩, v', bL, hrow, _⟩ := (OwnFrom.and (OwnFrom.and (Own.from (boxed_own w.heap.size 24 (fun _ : β => .pointer (some ⟨g, 0, none⟩))) W0.heap.size) (Own.from (boxed_own (w.heap.size + 1) 23 (fun _ : β => .slice An ln cn)) W0.heap.size)) (Own.from (holdsRow_own (β := β) w.heap.size (w.heap.size + 1 + 1) 43 37 2 (fun s => (f s).length) (fun s => rowP (f s)) (fun _ _ => True)) W0.heap.size)) s X Y row ⟨⟨h.bC, h.bN⟩, v, h.bL, h.row, trivial⟩ hg hr
  exact ⟨v', bC, bN, bL, hrow, (ownFrom_below (w₀ := w) (Nat.le_refl _) hB : OwnFrom W0.heap.size (fun (_ : β) W => Below w.heap.size w W)) s X Y row h.bel hg hr⟩

set_option maxRecDepth 100000 in
set_option maxHeartbeats 4000000 in
theorem parts_in (w : World) (g b N m ln cn : Nat) (An : Option Addr) (Q : List Pt) (names : List ByteArray) (hm : Q.length = m) (hl : m ≤ 8) (hQ : Rise Q) (hT : ∀ x ∈ Q, x.t.size ≤ maxLen ∧ 1 ≤ x.n ∧ x.n ≤ 8) (hC : Cat w g b N Q) (hN : ReadsT w w.heap.size An names) (hln : names.length = ln) (hlm : ln ≤ 1000000) :
    CallsIn Fence.wide 6 Try.prog 24 #[.pointer (some ⟨g, 0, none⟩), .slice An ln cn] w fun e W' => ∃ A c, e = .returned (.slice A (partsQ Q names).length c) ∧ W'.ownsRow w.heap.size 37 2 (.slice A (partsQ Q names).length c) (partsQ Q names).length (rowP (partsQ Q names)) ∧ Below w.heap.size w W' := by
  obtain ⟨i0, hi0, hz0, hz1, hz2⟩ := info_parts partInfo
  have h1 : 1 ≤ 6 := by decide
  refine callsIn_of_wp_marks Try.func24 rfl trivial ?_ rfl
  simp only [Try.ntmps24, List.size_toArray, List.length_cons, List.length_nil, Nat.reduceAdd, Nat.reduceSub, Array.replicate_succ, Array.replicate_zero, List.push_toArray, List.append_toArray, List.nil_append, List.cons_append]
  gi_wp2_with (refine ⟨trivial, ?_⟩; gi_at_call 36; refine (callsIn_wide.2 (names_is g _)).mono ?_; rintro e w' ⟨rfl, rfl⟩)
  have bC := Boxed.new w 24 (.pointer (some ⟨g, 0, none⟩))
  have bN := Boxed.new (w.alloc (.cells #[.pointer (some ⟨g, 0, none⟩)] 24)) 23 (.slice An ln cn)
  have bL := Boxed.new ((w.alloc (.cells #[.pointer (some ⟨g, 0, none⟩)] 24)).alloc (.cells #[.slice An ln cn] 23)) 43 (.slice none 0 0)
  have bP := Boxed.new (((w.alloc (.cells #[.pointer (some ⟨g, 0, none⟩)] 24)).alloc (.cells #[.slice An ln cn] 23)).alloc (.cells #[.slice none 0 0] 43)) 24 (.pointer (some ⟨g, 0, none⟩))
  simp only [World.size_alloc] at bN bL bP
  obtain ⟨W0, hW0⟩ : ∃ W0, (((w.alloc (.cells #[.pointer (some ⟨g, 0, none⟩)] 24)).alloc (.cells #[.slice An ln cn] 23)).alloc (.cells #[.slice none 0 0] 43)).alloc (.cells #[.pointer (some ⟨g, 0, none⟩)] 24) = W0 := ⟨_, rfl⟩
  have hB0 : Below w.heap.size w W0 := by rw [← hW0]; exact ((((Below.refl _ w).alloc (Nat.le_refl _) _).alloc (by simp) _).alloc (by simp; omega) _).alloc (by simp; omega) _
  have hP0 : PBox w W0 g An ln cn [] (.slice none 0 0) := ⟨by rw [← hW0]; exact ((bC.alloc _).alloc _).alloc _, by rw [← hW0]; exact (bN.alloc _).alloc _, by rw [← hW0]; exact bL.alloc _, World.ownsRow_nil _ _ _ _, hB0⟩
  have bP0 : Boxed W0 (w.heap.size + 1 + 1 + 1) 24 (.pointer (some ⟨g, 0, none⟩)) := by rw [← hW0]; exact bP
  have hsz : W0.heap.size = w.heap.size + 1 + 1 + 1 + 1 := by rw [← hW0]; simp
  rw [hW0]
  clear hW0 bC bL bN bP
  refine wpIn_rangeFunc_ownF rfl h1 (gf := 42) (lb := #[.pointer (some ⟨w.heap.size + 1 + 1 + 1, 0, none⟩)]) rfl trivial (enters_of Try.func42 (by kernel_rfl) rfl)
    (names_stops (6 - 1) (by decide) (w.heap.size + 1 + 1 + 1) g b N m Q hm hl hQ W0 (by omega) bP0.cell (hC.below hB0)) KpS.trans (kpS_b (w := W0)) (Below.refl _ _) (fun _ => rfl)
    (fun pre W => ∃ v, PBox w W g An ln cn (partsQ (atN Q pre) names) v)
    (fun _ _ _ => False)
    (pbox_from _ (by omega))
    (fun _ _ _ _ _ hs _ _ => hs)
    ⟨_, hP0⟩
    (fun x : Fin Q.length => { tmps := #[.pointer (some ⟨g, 0, none⟩), .slice An ln cn, .pointer (some ⟨w.heap.size, 0, none⟩), .pointer (some ⟨w.heap.size + 1, 0, none⟩), .slice none 0 0, .pointer (some ⟨w.heap.size + 1 + 1, 0, none⟩), .string Q[x].t, undef, .pointer (some ⟨g, 0, none⟩), .func (.func 42) #[] #[.pointer (some ⟨w.heap.size + 1 + 1 + 1, 0, none⟩)], .string Q[x].t, undef, undef, undef, undef, undef, undef, undef, undef, undef, undef, undef, undef, undef, undef, undef, undef, undef, undef, undef, undef, undef], defers := [] })
    ?assign ?body ?done ?stop
  case assign =>
    intro l x W K hK
    gi_wp2
    exact hK
  case body =>
    rintro l pre x W ⟨v, hP⟩ hlen
    obtain ⟨⟨xt, xn⟩, hel⟩ : ∃ f, Q[x] = f := ⟨_, rfl⟩
    have hxm : (⟨xt, xn⟩ : Pt) ∈ Q := by rw [← hel]; exact List.getElem_mem _
    have hsn : Hid (partsQ (atN Q (pre ++ [x])) names = partsQ (atN Q pre) names ++ (if inB names xt = true then someP ⟨xt, xn⟩ else [])) := Lib.hid (by rw [atN_snoc, hel, parts_snoc])
    obtain ⟨L, hL⟩ : ∃ L, partsQ (atN Q pre) names = L := ⟨_, rfl⟩
    have hLl : L.length ≤ 8 * pre.length := by
      rw [← hL, ← atN_len Q pre]
      exact parts_len (fun y hy => by
        obtain ⟨z, _, rfl⟩ := List.mem_map.1 hy
        exact (hT _ (List.getElem_mem _)).2.2) names
    rw [hL] at hsn hP
    rw [hel]
    dsimp only
    obtain ⟨hx1, hx2, hx3⟩ := hT _ hxm
    dsimp only at hx1 hx2 hx3
    have HP := Lib.hid hP
    have lC := hP.bC.cell
    have lN := hP.bN.cell
    have HC1 := Lib.hid (hC.below hP.bel)
    have c0 := HC1.out.c0
    have HNR := Lib.hid (hN.below hP.bel)
    have HX1 := Lib.hid hx1
    cases hin : inB names xt with
    | false =>
      have HIN := Lib.hid hin
      rw [hin, if_neg (by simp), List.append_nil] at hsn
      clear hin hP hx1 hx2 hx3 hel hxm hL hLl
      gi_wp2_with (refine ⟨trivial, ?_⟩; gi_at_call 37; refine (CallsIn.inRound l (callsIn_wide.2 (by rw [← hln]; exact contains_is An cn w.heap.size names xt false _ HNR.out (by unfold maxLen; omega) HIN.out))).mono ?_; rintro e w1 ⟨rfl, hw1⟩; obtain rfl := hw1.symm)
      exact ⟨KeepsOthers.refl _, fun _ _ _ _ => rfl, _, by rw [hsn.out]; exact HP.out⟩
    | true =>
      have HIN := Lib.hid hin
      rw [hin, if_pos rfl] at hsn
      obtain ⟨D, ho, hd⟩ := HC1.out.map
      have HO := Lib.hid ho
      have HK := Lib.hid (keyStr hx1)
      have HAT : Hid (D.atKey (.string xt.data.toList) (.lit (.int .i64 0)) = .lit (.int .i64 xn)) := Lib.hid ((hd.num hQ xt).trans (by rw [show numOf Q xt = xn from num_mem hQ.ne hxm]))
      obtain ⟨q, rfl⟩ : ∃ q : Nat, xn = (q : Int) := ⟨xn.toNat, by omega⟩
      have hq8 : q ≤ 8 := by omega
      clear hin hP hx1 hx2 hx3 hel hxm hL ho hd
      gi_wp2_with (first
        | (refine ⟨trivial, ?_⟩; gi_at_call 37; refine (CallsIn.inRound l (callsIn_wide.2 (by rw [← hln]; exact contains_is An cn w.heap.size names xt true _ HNR.out (by unfold maxLen; omega) HIN.out))).mono ?_; rintro e w1 ⟨rfl, hw1⟩; obtain rfl := hw1.symm)
        | (gi_at_lookup; refine wpListIn_lookup_own_int _ rfl _ _ 57 rfl 9 3 .i64 lawStr Try.underlying57 Try.underlying3 (zeroInt _) b N D rfl HO.out _ _ rfl HK.out ?_; intro c hat hwc; obtain rfl : c = (q : Int) := lit_inj (hat.symm.trans HAT.out)))
      have hsl : (someP ⟨xt, (q : Int)⟩).length = q := by rw [someP_len]; exact Int.toNat_natCast q
      have HSL := Lib.hid hsl
      clear hsl lC lN c0 HO HK HAT
      gi_loopw [21] (fun p wr => ∃ (i : Nat) (u : Value), i ≤ q ∧ p = .int .i64 i ∧ Hid (PBox w wr g An ln cn (L ++ (someP ⟨xt, (q : Int)⟩).take i) u) ∧ Hid (KeepsOthers W wr ∧ KpS W wr)) (fun p _ => q - (intOf p).toNat)
      case atStart => exact ⟨0, v, Nat.zero_le _, rfl, Lib.hid (by rw [List.take_zero, List.append_nil]; exact HP.out), Lib.hid ⟨KeepsOthers.refl _, fun _ _ _ _ => rfl⟩⟩
      case round =>
        obtain ⟨i, u, hi, rfl, HPW, HKW⟩ := hrel
        obtain ⟨A, c, rfl⟩ := own_len HPW.out.row
        have lLw := HPW.out.bL.cell
        obtain ⟨k, hk⟩ : ∃ k, (L ++ (someP ⟨xt, (q : Int)⟩).take i).length = k := ⟨_, rfl⟩
        have hk1 : k = L.length + i := by rw [← hk, List.length_append, List.length_take, HSL.out]; omega
        have HKE := Lib.hid hk
        rw [hk] at lLw
        by_cases hlt : i < q
        · have q0 : (0 : Int) ≤ (i : Int) := by omega
          have q1 : (i : Int) < (q : Int) := by omega
          have HKB : Hid (k ≤ 1000) := Lib.hid (by omega)
          have HROW : Hid (wr.ownsRow w.heap.size 37 2 (.slice A k c) k (rowP (L ++ (someP ⟨xt, (q : Int)⟩).take i))) := Lib.hid (by have := HPW.out.row; rwa [hk] at this)
          have ltL : w.heap.size + 1 + 1 < wr.heap.size := HPW.out.bL.lt
          have HNX : Hid ((someP ⟨xt, (q : Int)⟩).take (i + 1) = (someP ⟨xt, (q : Int)⟩).take i ++ [⟨xt, (i : Int)⟩]) := Lib.hid (some_next (by show i < (q : Int).toNat; omega))
          have HSZ := Lib.hid HPW.out.bel.size
          clear hk hk1 hLl
          gi_wp2_with (gi_at_builtin; refine wpListIn_append_own _ rfl _ _ 43 rfl w.heap.size 37 i0 _ 2 24 Try.underlying43 hi0 hz0 hz1 hz2 rfl (by decide) (.slice A k c) k _ rfl (HROW.out.alloc _) ⟨wr.heap.size, 0, none⟩ 1 1 [.string xt, .int .i64 (i : Int)] rfl rfl (World.news_of_block (cs := #[.string xt, .int .i64 (i : Int)]) (t := 37) (fr := (0, 0)) (heap_alloc_new wr _)) (by simp [Value.oneCell']) (by have := HKB.out; unfold maxLen; omega) (by have := HKB.out; omega) (by have := HSZ.out; simp; omega) ?_; intro v' w2 hown' hgrow _; obtain ⟨g', cap', rfl⟩ := ownsRow_succ hown'; obtain ⟨r1, r2, r3⟩ := HPW.out.appended (y := ⟨xt, (i : Int)⟩) (by rw [HKE.out]; exact hown') (by rw [HKE.out]; exact hgrow); have R1 := Lib.hid r1; have R23 := Lib.hid (And.intro r2 r3); clear r1 r2 r3; have hv1 := (HPW.out.bL.alloc (.cells #[.string xt, .int .i64 (i : Int)] 37)).kept hgrow (HPW.out.bL.not_row (by decide) HROW.out); have hc1 := hv1.cell; have hf1 := hv1.frozen; clear hown' hgrow hv1)
          go_roundw
          case rel => exact ⟨i + 1, _, by omega, by go_num, Lib.hid (by rw [HNX.out, ← List.append_assoc]; exact R1.out), Lib.hid ⟨HKW.out.1.trans R23.out.1, HKW.out.2.trans R23.out.2⟩⟩
          case measure => simp [intOf]; omega
        · have hiq : i = q := by omega
          have HIQ := Lib.hid hiq
          have q1 : ¬ (i : Int) < (q : Int) := by omega
          clear hk hk1 hLl hiq hlt
          gi_wp2
          have hfin := HPW.out
          rw [List.take_of_length_le (by rw [HSL.out]; exact Nat.le_of_eq HIQ.out.symm)] at hfin
          exact ⟨HKW.out.1, HKW.out.2, _, by rw [hsn.out]; exact hfin⟩
  case done =>
    rintro D ys W hD rfl ⟨v, hP⟩ hKd
    have lL := hP.bL.cell
    gi_wp2
    refine ⟨by simp, .inl ⟨_, _, rfl, run_takeDeferred hKd, ?_⟩⟩
    rw [atN_all] at hP
    obtain ⟨A, c, rfl⟩ := own_len hP.row
    exact ⟨_, results_tmp rfl _ _ _, A, c, rfl, ownsRow_putObj hP.row _ hKd rfl, hP.bel.trans (belowK_b (w := w) (Nat.le_refl _) W D _ _ (by omega) hKd rfl rfl)⟩
  case stop =>
    rintro D c pre W _ _ h _
    exact h.elim
end Go.Proofs.Ytohfbmgonjkhhaa.L9
