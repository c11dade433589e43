/-
  The calls on who reads what whose answers the document fixes.
-/
import Derived.Test.YthongbobopampaaAsTwo
import Derived.Deep.RegionHeld
import Derived.Deep.RegionLaw
import Derived.Deep.RegionHeld3
namespace Go.Proofs.Ythongbobopampaa.L10
open Go.RowKit
open L3 L4 L9

def msR : List Mb := [⟨nN, [tT]⟩, ⟨mM, [tT]⟩]
def m9 : List Mb := List.replicate 9 ⟨⟨#[]⟩, []⟩
theorem load_l3 : loadE l3 0 := by
  unfold loadE
  rw [if_neg (by decide)]
  refine .inl ⟨rfl, fun i hi x hx => ?_⟩
  have : i = 0 := by have h1 : i < 1 := hi; omega
  subst this
  have : x = ⟨tT, 3⟩ := by have h : l3[0]? = some x := hx; simp [l3] at h; exact h.symm
  subst this
  exact ⟨by decide, fun h => absurd h (by decide)⟩
theorem chk_two : chkE l3 ms2 0 := ⟨0, load_l3, .inr ⟨rfl, .inr (.inl ⟨by decide, fun i h0 hi x y hx hy => by
  have : i = 1 := by have h1 : i < 2 := hi; omega
  subst this
  have hx' : ms2[1]? = some x := hx
  have hy' : ms2[0]? = some y := hy
  simp [ms2] at hx' hy'
  subst hx' hy'
  decide, rfl⟩)⟩⟩
theorem chk_rev : chkE l3 msR 100 := ⟨0, load_l3, .inr ⟨rfl, .inr (.inr ⟨by decide, fun h => by
  have := h 1 (by decide) (by decide) ⟨mM, [tT]⟩ ⟨nN, [tT]⟩ rfl rfl
  revert this; decide, rfl⟩)⟩⟩
theorem chk_bad : chkE [⟨tT, 0⟩] ms2 1 := ⟨1, by
  unfold loadE
  rw [if_neg (by decide)]
  exact .inr ⟨rfl, fun h => by have := (h 0 (by decide) ⟨tT, 0⟩ rfl).1; revert this; decide⟩, .inl ⟨by decide, rfl⟩⟩
theorem chk_nine : chkE l3 m9 2 := ⟨0, load_l3, .inr ⟨rfl, .inl ⟨by decide, rfl⟩⟩⟩
set_option maxRecDepth 100000 in
theorem make_nine (W : World) : (Instr.makeSlice 23 (.int .i64 9) (.int .i64 9)).run Try.prog W = .ok (.slice (some ⟨W.heap.size, 0, none⟩) 9 9) (W.alloc (.cells #[.string ⟨#[]⟩, .slice none 0 0, .string ⟨#[]⟩, .slice none 0 0, .string ⟨#[]⟩, .slice none 0 0, .string ⟨#[]⟩, .slice none 0 0, .string ⟨#[]⟩, .slice none 0 0, .string ⟨#[]⟩, .slice none 0 0, .string ⟨#[]⟩, .slice none 0 0, .string ⟨#[]⟩, .slice none 0 0, .string ⟨#[]⟩, .slice none 0 0] 40)) := by kernel_rfl
theorem isM_nine {w : World} {g : Nat} {T : TypeId} (hg : w.heap[g]? = some (.cells #[.string ⟨#[]⟩, .slice none 0 0, .string ⟨#[]⟩, .slice none 0 0, .string ⟨#[]⟩, .slice none 0 0, .string ⟨#[]⟩, .slice none 0 0, .string ⟨#[]⟩, .slice none 0 0, .string ⟨#[]⟩, .slice none 0 0, .string ⟨#[]⟩, .slice none 0 0, .string ⟨#[]⟩, .slice none 0 0, .string ⟨#[]⟩, .slice none 0 0] T (0, 0))) : IsM w w.heap.size (some ⟨g, 0, none⟩) 9 9 m9 := by
  refine ⟨fun _ => ⟨g, rfl, (Array.getElem?_eq_some_iff.1 hg).1, fun i m hm => ?_⟩, rfl, fun m hm => ?_, by decide, by decide⟩
  · have hi := (List.getElem?_eq_some_iff.1 hm).1
    have hmem := List.mem_of_getElem? hm
    have hm' : m = ⟨⟨#[]⟩, []⟩ := (List.mem_replicate.1 hmem).2
    subst hm'
    have hi9 : i < 9 := hi
    have c0 : w.cell? ⟨g, i * 2, none⟩ = some (.string ⟨#[]⟩) := (cell_of_row _ _ (i * 2) _ _ _ hg).trans (by
      match i, hi9 with
      | 0, _ | 1, _ | 2, _ | 3, _ | 4, _ | 5, _ | 6, _ | 7, _ | 8, _ => rfl
      | i + 9, h => omega)
    have c1 : w.cell? ⟨g, i * 2 + 1, none⟩ = some (.slice none 0 0) := (cell_of_row _ _ (i * 2 + 1) _ _ _ hg).trans (by
      match i, hi9 with
      | 0, _ | 1, _ | 2, _ | 3, _ | 4, _ | 5, _ | 6, _ | 7, _ | 8, _ => rfl
      | i + 9, h => omega)
    exact ⟨c0, none, 0, c1, fun h => absurd h (by simp)⟩
  · have hm' : m = ⟨⟨#[]⟩, []⟩ := (List.mem_replicate.1 hm).2
    subst hm'
    exact ⟨by decide, by decide, fun s hs => by cases hs⟩
theorem readsP_row {w : World} {b : Nat} {l : List Pt} {T : TypeId} {cs : Array Value} (hb : w.heap[b]? = some (.cells cs T (0, 0))) (hc : cs.toList = rowP l) : ReadsP w w.heap.size (some ⟨b, 0, none⟩) l := fun _ => by
  refine ⟨b, rfl, (Array.getElem?_eq_some_iff.1 hb).1, fun i d hd => ?_⟩
  have key : ∀ j u, (ptC d)[j]? = some u → w.cell? ⟨b, i * 2 + j, none⟩ = some u := fun j u hu => (cell_of_row _ _ _ _ _ _ hb).trans (by
    have := rowP_at hd j u hu
    rw [← hc] at this
    simpa using this)
  exact ⟨key 0 _ rfl, key 1 _ rfl⟩
theorem readsL_two {w : World} {g ga gb n m : Nat} {la lb : List Pt} {T : TypeId} {ca cb : Array Value} {Ta Tb : TypeId} (hg : w.heap[g]? = some (.cells #[.slice (some ⟨ga, 0, none⟩) n n, .slice (some ⟨gb, 0, none⟩) m m] T (0, 0)))
    (ha : w.heap[ga]? = some (.cells ca Ta (0, 0))) (hb : w.heap[gb]? = some (.cells cb Tb (0, 0))) (hca : ca.toList = rowP la) (hcb : cb.toList = rowP lb) (h1 : ga ≠ g) (h2 : gb ≠ g) (hn : la.length = n) (hm : lb.length = m) : ReadsL w 0 w.heap.size (some ⟨g, 0, none⟩) [la, lb] := fun _ => by
  refine ⟨g, rfl, Nat.zero_le _, (Array.getElem?_eq_some_iff.1 hg).1, fun i x hx => ?_⟩
  match i, hx with
  | 0, hx =>
    simp at hx; subst hx
    subst hn
    exact ⟨_, _, (cell_of_row _ _ _ _ _ _ hg).trans rfl, readsP_row ha hca, fun k hk => ⟨Nat.zero_le _, by have : k = ga := by simpa [bk] using hk
                                                                                                           rw [this]; exact h1⟩⟩
  | 1, hx =>
    simp at hx; subst hx
    subst hm
    exact ⟨_, _, (cell_of_row _ _ _ _ _ _ hg).trans rfl, readsP_row hb hcb, fun k hk => ⟨Nat.zero_le _, by have : k = gb := by simpa [bk] using hk
                                                                                                           rw [this]; exact h2⟩⟩
  | i + 2, hx => simp at hx
theorem three_a (w : World) (a b c : Obj) : (((w.alloc a).alloc b).alloc c).heap[w.heap.size]? = some a ∧ (((w.alloc a).alloc b).alloc c).heap[w.heap.size + 1]? = some b ∧ (((w.alloc a).alloc b).alloc c).heap[w.heap.size + 1 + 1]? = some c ∧ Below w.heap.size w (((w.alloc a).alloc b).alloc c) := by
  have h1 := heap_alloc_new w a
  have h2 := heap_alloc_new (w.alloc a) b
  have h3 := heap_alloc_new ((w.alloc a).alloc b) c
  have s1 : (w.alloc a).heap.size = w.heap.size + 1 := by simp
  have s2 : ((w.alloc a).alloc b).heap.size = w.heap.size + 1 + 1 := by simp
  rw [s1] at h2
  rw [s2] at h3
  refine ⟨?_, ?_, h3, ?_⟩
  · rw [Below.heap_alloc _ _ _ (by rw [s2]; omega), Below.heap_alloc _ _ _ (by rw [s1]; omega)]; exact h1
  · rw [Below.heap_alloc _ _ _ (by rw [s2]; omega)]; exact h2
  · exact (two_box a b).alloc (by rw [s2]; omega) c
theorem who_yes : WhoP [[⟨tT, 0⟩, ⟨tT, 2⟩], [⟨tT, 1⟩]] ⟨tT, 1⟩ 1 := .inl ⟨1, rfl, by decide, ⟨_, rfl, by decide⟩, fun j hj x hx => by
  have : j = 0 := by omega
  subst this
  simp at hx
  subst hx
  decide⟩
theorem who_no : WhoP [[⟨tT, 0⟩, ⟨tT, 2⟩], [⟨tT, 1⟩]] ⟨⟨#[117]⟩, 0⟩ (-1) := .inr ⟨rfl, by decide⟩
theorem keep4 {W w1 w2 : World} {a1 a2 a3 a4 : Addr} {v1 v2 v3 v4 : Value} (h : ((w1.cell? a1 = some v1 ∧ w1.cell? a2 = some v2) ∧ w1.cell? a3 = some v3 ∧ w1.cell? a4 = some v4) ∧ Below W.heap.size W w1) (hb : Below w1.heap.size w1 w2) : ((w2.cell? a1 = some v1 ∧ w2.cell? a2 = some v2) ∧ w2.cell? a3 = some v3 ∧ w2.cell? a4 = some v4) ∧ Below W.heap.size W w2 := by
  obtain ⟨⟨⟨h1, h2⟩, h3, h4⟩, h5⟩ := h
  exact ⟨⟨⟨(hb.cell (World.block_lt_of_cell? _ _ h1)).trans h1, (hb.cell (World.block_lt_of_cell? _ _ h2)).trans h2⟩, (hb.cell (World.block_lt_of_cell? _ _ h3)).trans h3, (hb.cell (World.block_lt_of_cell? _ _ h4)).trans h4⟩, h5.trans (hb.mono h5.size)⟩
theorem keep8 {W w1 w2 : World} {a1 a2 a3 a4 a5 a6 a7 a8 : Addr} {v1 v2 v3 v4 v5 v6 v7 v8 : Value} (h : (w1.cell? a1 = some v1 ∧ w1.cell? a2 = some v2 ∧ w1.cell? a3 = some v3 ∧ w1.cell? a4 = some v4 ∧ w1.cell? a5 = some v5 ∧ w1.cell? a6 = some v6 ∧ w1.cell? a7 = some v7 ∧ w1.cell? a8 = some v8) ∧ Below W.heap.size W w1) (hb : Below w1.heap.size w1 w2) : (w2.cell? a1 = some v1 ∧ w2.cell? a2 = some v2 ∧ w2.cell? a3 = some v3 ∧ w2.cell? a4 = some v4 ∧ w2.cell? a5 = some v5 ∧ w2.cell? a6 = some v6 ∧ w2.cell? a7 = some v7 ∧ w2.cell? a8 = some v8) ∧ Below W.heap.size W w2 := by
  obtain ⟨⟨h1, h2, h3, h4, h5, h6, h7, h8⟩, h9⟩ := h
  have k : ∀ {a : Addr} {v : Value}, w1.cell? a = some v → w2.cell? a = some v := fun q => (hb.cell (World.block_lt_of_cell? _ _ q)).trans q
  exact ⟨⟨k h1, k h2, k h3, k h4, k h5, k h6, k h7, k h8⟩, h9.trans (hb.mono h9.size)⟩
set_option maxRecDepth 100000 in
set_option maxHeartbeats 16000000 in
theorem fixed10_any (w : World) : Calls Try.prog 16 #[] w fun e w' => e = .returned (.bool true) ∧ Below w.heap.size w w' := by
  have C0 := Lib.hid chk_two
  have C1 := Lib.hid chk_rev
  have C2 := Lib.hid chk_bad
  have C9 := Lib.hid chk_nine
  have R1 := Lib.hid range_two
  have R2 := Lib.hid robin_two
  go_enter Try.func16, Try.ntmps16
  go_upto_region 4 with (first
    | (go_at_call 7; have _q := HB2; refine (robin_ok w2 _ _ 1 1 2 2 l3 ms2 _ HL2 HM2 C0 R2).mono ?_; rintro e w3 ⟨A3, c3, rfl, hl3', hb3⟩; have HB3 := Lib.hid (HB2.out.trans (hb3.mono HB2.out.size)); have HL3 := Lib.hid (HL2.out.up (Nat.le_refl _) hb3); have HM3 := Lib.hid (HM2.out.up (Nat.le_refl _) hb3); have HA3 := Lib.hid ((HA2.out.below hb3).mono hb3.size); have HR3 := Lib.hid hl3'; clear hl3' hb3)
    | (go_at_call 5; refine (range_ok w1 _ _ 1 1 2 2 l3 ms2 _ HL1 HM1 C0 R1).mono ?_; rintro e w2 ⟨A2, c2, rfl, hl2, hb2⟩; have HB2 := Lib.hid (HB1.out.trans (hb2.mono HB1.out.size)); have HL2 := Lib.hid (HL1.out.up (Nat.le_refl _) hb2); have HM2 := Lib.hid (HM1.out.up (Nat.le_refl _) hb2); have HA2 := Lib.hid hl2; clear hl2 hb2)
    | (go_at_call 27; refine (two_is w).mono ?_; rintro e w1 ⟨gl, gm, rfl, hl1, hm1, hb1⟩; have HL1 := Lib.hid hl1; have HM1 := Lib.hid hm1; have HB1 := Lib.hid hb1; clear hl1 hm1 hb1))
  obtain ⟨g0, e0, hg0, hc0⟩ := HM3.out.rd (by decide)
  injection e0 with e0; injection e0 with e0; subst e0
  obtain ⟨m0, Aa, ca, m1, hta⟩ := hc0 0 _ rfl
  obtain ⟨m2, Ab, cb, m3, htb⟩ := hc0 1 _ rfl
  obtain ⟨ga, rfl, hga, hta⟩ := hta (by decide)
  obtain ⟨gb, rfl, hgb, htb⟩ := htb (by decide)
  have ta := hta 0 _ rfl
  have tb := htb 0 _ rfl
  have HDA : Hid (∀ o, Below w3.heap.size w3 (w3.drew.alloc o)) := Lib.hid (fun o => (Below.refl _ w3).drew.alloc (Nat.le_refl _) o)
  have HMR : Hid (IsM (w3.drew.alloc (.cells #[.string nN, .slice (some ⟨gb, 0, none⟩) 1 cb, .string mM, .slice (some ⟨ga, 0, none⟩) 1 ca] 40)) (w3.drew.alloc (.cells #[.string nN, .slice (some ⟨gb, 0, none⟩) 1 cb, .string mM, .slice (some ⟨ga, 0, none⟩) 1 ca] 40)).heap.size (some ⟨w3.heap.size, 0, none⟩) 2 2 msR) :=
    Lib.hid (isM_two (s := tT) (t := tT) (heap_alloc_new w3.drew _) (((HDA.out _).cell (p := ⟨gb, 0, none⟩) hgb).trans tb) (((HDA.out _).cell (p := ⟨ga, 0, none⟩) hga).trans ta) rfl (by decide))
  have HTA : Hid (w3.cell? ⟨ga, 0, none⟩ = some (.string tT)) := Lib.hid ta
  have hl0 : (([tT] : List ByteArray).length) = 1 := rfl
  simp only [Nat.zero_mul, Nat.one_mul, List.length_cons, List.length_nil] at m0 m1 m2 m3
  have hs0 : gm < w3.heap.size := hg0
  clear hc0 hta htb ta tb hg0 hl0
  have hS : ((w3.cell? ⟨gm, 0, none⟩ = some (.string mM) ∧ w3.cell? ⟨gm, 1, none⟩ = some (.slice (some ⟨ga, 0, none⟩) 1 ca)) ∧ w3.cell? ⟨gm, 2, none⟩ = some (.string nN) ∧ w3.cell? ⟨gm, 3, none⟩ = some (.slice (some ⟨gb, 0, none⟩) 1 cb)) := ⟨⟨m0, m1⟩, m2, m3⟩
  have HS3 := Lib.hid hS
  clear hS
  go_region_held3 (fun w' => (((w'.cell? ⟨gm, 0, none⟩ = some (.string mM) ∧ w'.cell? ⟨gm, 1, none⟩ = some (.slice (some ⟨ga, 0, none⟩) 1 ca)) ∧ w'.cell? ⟨gm, 2, none⟩ = some (.string nN) ∧ w'.cell? ⟨gm, 3, none⟩ = some (.slice (some ⟨gb, 0, none⟩) 1 cb)) ∧ Below w3.heap.size w3 w'))
    (first | with_reducible assumption | exact keep4 ⟨HS3.out, Below.refl _ _⟩ HB4.out | exact keep4 ⟨HS3.out, Below.refl _ _⟩ (HDA.out _) | exact ⟨HS3.out, (Below.refl _ _).drew⟩)
    (first
      | (go_at_call 5; refine (range_no _ _ _ 1 1 2 2 l3 msR 100 (by decide) (Lib.hid (HL3.out.up (Nat.le_refl _) (HDA.out _))) HMR C1).mono ?_; rintro e w4 ⟨rfl, hb4⟩; have HB4 := Lib.hid ((HDA.out _).trans (hb4.mono (HDA.out _).size)); clear hb4))
  rename_i hHeld
  have HS4 := Lib.hid hHeld.1
  clear hHeld
  go_upto_region 7 with (first
    | (go_at_call 7; refine (robin_no _ _ _ 1 1 2 2 [⟨tT, 0⟩] ms2 1 (by decide) (Lib.hid (isL_new w4 tT 0 _ (by decide))) (Lib.hid (HM3.out.up (Nat.le_refl _) (HB4.out.trans ((one_box' _).mono HB4.out.size)))) C2).mono ?_; rintro e w5 ⟨rfl, hb5⟩; have HB5 := Lib.hid ((one_box' (w := w4) (.cells #[.string tT, .int .i64 0] 44)).trans (hb5.mono (by simp))); clear hb5))
  obtain ⟨bx, hbx⟩ : ∃ b, w5.heap.size = b := ⟨_, rfl⟩
  have hr6 := heap_alloc_new w5 (.cells #[.string tT, .int .i64 0, .string tT, .int .i64 1, .string tT, .int .i64 2] 27)
  have hb6 := one_box' (w := w5) (.cells #[.string tT, .int .i64 0, .string tT, .int .i64 1, .string tT, .int .i64 2] 27)
  obtain ⟨w6, hw6⟩ : ∃ w6, w5.alloc (.cells #[.string tT, .int .i64 0, .string tT, .int .i64 1, .string tT, .int .i64 2] 27) = w6 := ⟨_, rfl⟩
  rw [hw6] at hr6 hb6
  rw [hbx] at hr6
  have hw6' : w5.alloc (.cells #[.string ⟨#[116]⟩, .int .i64 0, .string ⟨#[116]⟩, .int .i64 1, .string ⟨#[116]⟩, .int .i64 2] 27) = w6 := hw6
  rw [hw6', hbx]
  have HB36 : Hid (Below w3.heap.size w3 w6) := Lib.hid ((HB4.out.trans (HB5.out.mono HB4.out.size)).trans (hb6.mono (HB4.out.trans (HB5.out.mono HB4.out.size)).size))
  have HB06 : Hid (Below w.heap.size w w6) := Lib.hid (HB3.out.trans (HB36.out.mono HB3.out.size))
  have HL6 := Lib.hid (HL3.out.up (Nat.le_refl _) HB36.out)
  have HA6 := Lib.hid ((HA3.out.below HB36.out).mono HB36.out.size)
  have HR6 := Lib.hid ((HR3.out.below HB36.out).mono HB36.out.size)
  have HT6 : Hid (ReadsT w6 w6.heap.size (some ⟨ga, 0, none⟩) [tT]) := Lib.hid (fun _ => ⟨ga, rfl, Nat.lt_of_lt_of_le (World.block_lt_of_cell? _ _ HTA.out) HB36.out.size, fun i s hs => by
    match i, hs with
    | 0, hs => simp at hs; subst hs; exact (HB36.out.cell (World.block_lt_of_cell? _ _ HTA.out)).trans HTA.out
    | i + 1, hs => simp at hs⟩)
  have hS6 : (w6.cell? ⟨bx, 0, none⟩ = some (.string tT) ∧ w6.cell? ⟨bx, 1, none⟩ = some (.int .i64 0) ∧ w6.cell? ⟨bx, 2, none⟩ = some (.string tT) ∧ w6.cell? ⟨bx, 3, none⟩ = some (.int .i64 1) ∧ w6.cell? ⟨bx, 4, none⟩ = some (.string tT) ∧ w6.cell? ⟨bx, 5, none⟩ = some (.int .i64 2) ∧ w6.cell? ⟨gm, 0, none⟩ = some (.string mM) ∧ w6.cell? ⟨gm, 1, none⟩ = some (.slice (some ⟨ga, 0, none⟩) 1 ca)) ∧ Below w6.heap.size w6 w6 := by
    obtain ⟨⟨a, b⟩, _⟩ := HS3.out
    exact ⟨⟨(cell_of_row _ _ 0 _ _ _ hr6).trans rfl, (cell_of_row _ _ 1 _ _ _ hr6).trans rfl, (cell_of_row _ _ 2 _ _ _ hr6).trans rfl, (cell_of_row _ _ 3 _ _ _ hr6).trans rfl, (cell_of_row _ _ 4 _ _ _ hr6).trans rfl, (cell_of_row _ _ 5 _ _ _ hr6).trans rfl, (HB36.out.cell (World.block_lt_of_cell? _ _ a)).trans a, (HB36.out.cell (World.block_lt_of_cell? _ _ b)).trans b⟩, Below.refl _ _⟩
  have HS6 := Lib.hid hS6
  have mk9 := make_nine
  clear hS6 hr6 hb6 hw6 hw6' hbx hs0 m0 m1 m2 m3
  simp only [List.append_eq, List.cons_append, List.nil_append]
  refine wp_region_held_drew (S := fun w' => (w'.cell? ⟨bx, 0, none⟩ = some (.string tT) ∧ w'.cell? ⟨bx, 1, none⟩ = some (.int .i64 0) ∧ w'.cell? ⟨bx, 2, none⟩ = some (.string tT) ∧ w'.cell? ⟨bx, 3, none⟩ = some (.int .i64 1) ∧ w'.cell? ⟨bx, 4, none⟩ = some (.string tT) ∧ w'.cell? ⟨bx, 5, none⟩ = some (.int .i64 2) ∧ w'.cell? ⟨gm, 0, none⟩ = some (.string mM) ∧ w'.cell? ⟨gm, 1, none⟩ = some (.slice (some ⟨ga, 0, none⟩) 1 ca)) ∧ Below w6.heap.size w6 w') (by as_aux_lemma => kernel_rfl) (keep8 HS6.out (Below.refl _ _).drew) (fun hHeld => ?_)
  refine wpAnyH_take (i := 0) (oi := ?o1) (v := ?v1) ?a1 (by as_aux_lemma => kernel_rfl) (by as_aux_lemma => kernel_rfl) (by as_aux_lemma => kernel_rfl) ?q1 (Or.inl ⟨?g1, ?y1⟩) (by assumption) ?r1; (case' a1 => (simp only [List.getElem?_toArray, List.getElem?_cons_zero]; rfl)); (case' q1 => (exact fun _ _ _ h => h)); (case' g1 => rfl); (case' y1 => (intro w hSw; (try dsimp only at hSw); go_simp; try with_reducible rfl)); (case' r1 => (try simp only [Act.put, List.setIfInBounds_toArray, List.set_cons_zero, List.set_cons_succ]))
  refine wpAnyH_take (i := 1) (oi := ?o2) (v := ?v2) ?a2 (by as_aux_lemma => kernel_rfl) (by as_aux_lemma => kernel_rfl) (by as_aux_lemma => kernel_rfl) ?q2 (Or.inl ⟨?g2, ?y2⟩) (by assumption) ?r2; (case' a2 => (simp only [List.getElem?_toArray, List.getElem?_cons_zero, List.getElem?_cons_succ]; rfl)); (case' q2 => (exact fun _ _ _ h => h)); (case' g2 => rfl); (case' y2 => (intro w hSw; (try dsimp only at hSw); go_simp; try with_reducible rfl)); (case' r2 => (try simp only [Act.put, List.setIfInBounds_toArray, List.set_cons_zero, List.set_cons_succ]))
  refine wpAnyH_take (i := 2) (oi := ?o3) (v := ?v3) ?a3 (by as_aux_lemma => kernel_rfl) (by as_aux_lemma => kernel_rfl) (by as_aux_lemma => kernel_rfl) ?q3 (Or.inl ⟨?g3, ?y3⟩) (by assumption) ?r3; (case' a3 => (simp only [List.getElem?_toArray, List.getElem?_cons_zero, List.getElem?_cons_succ]; rfl)); (case' q3 => (exact fun _ _ _ h => h)); (case' g3 => rfl); (case' y3 => (intro w hSw; (try dsimp only at hSw); go_simp; try with_reducible rfl)); (case' r3 => (try simp only [Act.put, List.setIfInBounds_toArray, List.set_cons_zero, List.set_cons_succ]))
  refine wpAnyH_take (i := 3) (oi := ?o4) (v := ?v4) ?a4 (by as_aux_lemma => kernel_rfl) (by as_aux_lemma => kernel_rfl) (by as_aux_lemma => kernel_rfl) ?q4 (Or.inl ⟨?g4, ?y4⟩) (by assumption) ?r4; (case' a4 => (simp only [List.getElem?_toArray, List.getElem?_cons_zero, List.getElem?_cons_succ]; rfl)); (case' q4 => (exact fun _ _ _ h => h)); (case' g4 => rfl); (case' y4 => (intro w hSw; (try dsimp only at hSw); go_simp; try with_reducible rfl)); (case' r4 => (try simp only [Act.put, List.setIfInBounds_toArray, List.set_cons_zero, List.set_cons_succ]))
  refine wpAnyH_take (i := 4) (oi := ?o5) (v := ?v5) ?a5 (by as_aux_lemma => kernel_rfl) (by as_aux_lemma => kernel_rfl) (by as_aux_lemma => kernel_rfl) ?q5 (Or.inl ⟨?g5, ?y5⟩) (by assumption) ?r5; (case' a5 => (simp only [List.getElem?_toArray, List.getElem?_cons_zero, List.getElem?_cons_succ]; rfl)); (case' q5 => (exact fun _ _ _ h => h)); (case' g5 => rfl); (case' y5 => (intro w hSw; (try dsimp only at hSw); go_simp; try with_reducible rfl)); (case' r5 => (try simp only [Act.put, List.setIfInBounds_toArray, List.set_cons_zero, List.set_cons_succ]))
  refine wpAnyH_take (i := 5) (oi := ?o6) (v := ?v6) ?a6 (by as_aux_lemma => kernel_rfl) (by as_aux_lemma => kernel_rfl) (by as_aux_lemma => kernel_rfl) ?q6 (Or.inl ⟨?g6, ?y6⟩) (by assumption) ?r6; (case' a6 => (simp only [List.getElem?_toArray, List.getElem?_cons_zero, List.getElem?_cons_succ]; rfl)); (case' q6 => (exact fun _ _ _ h => h)); (case' g6 => rfl); (case' y6 => (intro w hSw; (try dsimp only at hSw); go_simp; try with_reducible rfl)); (case' r6 => (try simp only [Act.put, List.setIfInBounds_toArray, List.set_cons_zero, List.set_cons_succ]))
  refine wpAnyH_take (i := 6) (oi := ?o7) (v := ?v7) ?a7 (by as_aux_lemma => kernel_rfl) (by as_aux_lemma => kernel_rfl) (by as_aux_lemma => kernel_rfl) ?q7 (Or.inl ⟨?g7, ?y7⟩) (by assumption) ?r7; (case' a7 => (simp only [List.getElem?_toArray, List.getElem?_cons_zero, List.getElem?_cons_succ]; rfl)); (case' q7 => (exact fun _ _ _ h => h)); (case' g7 => rfl); (case' y7 => (intro w hSw; (try dsimp only at hSw); go_simp; try with_reducible rfl)); (case' r7 => (try simp only [Act.put, List.setIfInBounds_toArray, List.set_cons_zero, List.set_cons_succ]))
  refine wpAnyH_take (i := 7) (oi := ?o8) (v := ?v8) ?a8 (by as_aux_lemma => kernel_rfl) (by as_aux_lemma => kernel_rfl) (by as_aux_lemma => kernel_rfl) ?q8 (Or.inl ⟨?g8, ?y8⟩) (by assumption) ?r8; (case' a8 => (simp only [List.getElem?_toArray, List.getElem?_cons_zero, List.getElem?_cons_succ]; rfl)); (case' q8 => (exact fun _ _ _ h => h)); (case' g8 => rfl); (case' y8 => (intro w hSw; (try dsimp only at hSw); go_simp; try with_reducible rfl)); (case' r8 => (try simp only [Act.put, List.setIfInBounds_toArray, List.set_cons_zero, List.set_cons_succ]))
  refine wpAnyH_take (i := 8) (oi := ?o9) (v := ?v9) ?a9 (by as_aux_lemma => kernel_rfl) (by as_aux_lemma => kernel_rfl) (by as_aux_lemma => kernel_rfl) ?q9 (Or.inl ⟨?g9, ?y9⟩) (by assumption) ?r9; (case' a9 => (simp only [List.getElem?_toArray, List.getElem?_cons_zero, List.getElem?_cons_succ]; rfl)); (case' q9 => (exact fun _ _ _ h => h)); (case' g9 => rfl); (case' y9 => (intro w hSw; (try dsimp only at hSw); go_simp; try with_reducible rfl)); (case' r9 => (try simp only [Act.put, List.setIfInBounds_toArray, List.set_cons_zero, List.set_cons_succ]))
  refine wpAnyH_take (i := 9) (oi := ?o10) (v := ?v10) ?a10 (by as_aux_lemma => kernel_rfl) (by as_aux_lemma => kernel_rfl) (by as_aux_lemma => kernel_rfl) ?q10 (Or.inl ⟨?g10, ?y10⟩) (by assumption) ?r10; (case' a10 => (simp only [List.getElem?_toArray, List.getElem?_cons_zero, List.getElem?_cons_succ]; rfl)); (case' q10 => (exact fun _ _ _ h => h)); (case' g10 => rfl); (case' y10 => (intro w hSw; (try dsimp only at hSw); go_simp; try with_reducible rfl)); (case' r10 => (try simp only [Act.put, List.setIfInBounds_toArray, List.set_cons_zero, List.set_cons_succ]))
  refine wpAnyH_take (i := 11) (oi := ?o11) (v := ?v11) ?a11 (by as_aux_lemma => kernel_rfl) (by as_aux_lemma => kernel_rfl) (by as_aux_lemma => kernel_rfl) ?q11 (Or.inl ⟨?g11, ?y11⟩) (by assumption) ?r11; (case' a11 => (simp only [List.getElem?_toArray, List.getElem?_cons_zero, List.getElem?_cons_succ]; rfl)); (case' q11 => (exact fun _ _ _ h => h)); (case' g11 => rfl); (case' y11 => (intro w hSw; (try dsimp only at hSw); go_simp; try with_reducible rfl)); (case' r11 => (try simp only [Act.put, List.setIfInBounds_toArray, List.set_cons_zero, List.set_cons_succ]))
  refine wpAnyH_take (i := 12) (oi := ?o12) (v := ?v12) ?a12 (by as_aux_lemma => kernel_rfl) (by as_aux_lemma => kernel_rfl) (by as_aux_lemma => kernel_rfl) ?q12 (Or.inl ⟨?g12, ?y12⟩) (by assumption) ?r12; (case' a12 => (simp only [List.getElem?_toArray, List.getElem?_cons_zero, List.getElem?_cons_succ]; rfl)); (case' q12 => (exact fun _ _ _ h => h)); (case' g12 => rfl); (case' y12 => (intro w hSw; (try dsimp only at hSw); go_simp; try with_reducible rfl)); (case' r12 => (try simp only [Act.put, List.setIfInBounds_toArray, List.set_cons_zero, List.set_cons_succ]))
  refine wpAnyH_take (i := 13) (oi := ?o13) (v := ?v13) ?a13 (by as_aux_lemma => kernel_rfl) (by as_aux_lemma => kernel_rfl) (by as_aux_lemma => kernel_rfl) ?q13 (Or.inl ⟨?g13, ?y13⟩) (by assumption) ?r13; (case' a13 => (simp only [List.getElem?_toArray, List.getElem?_cons_zero, List.getElem?_cons_succ]; rfl)); (case' q13 => (exact fun _ _ _ h => h)); (case' g13 => rfl); (case' y13 => (intro w hSw; (try dsimp only at hSw); go_simp; try with_reducible rfl)); (case' r13 => (try simp only [Act.put, List.setIfInBounds_toArray, List.set_cons_zero, List.set_cons_succ]))
  refine wpAnyH_ready (rs := [10, 14]) (by as_aux_lemma => kernel_rfl) (by simp) ?_
  refine AllReadyH.cons (o := ?o14) ?a14 (fun K hK => ?s14) ?m14; (case' a14 => (simp only [List.getElem?_toArray, List.getElem?_cons_zero, List.getElem?_cons_succ]; rfl))
  case s14 =>
    go_simp
    refine hK.out _ _ (keep8 hHeld (one_box' _)) (fun hHeld => ?_)
    clear hK K
    (try simp only [Act.put, List.setIfInBounds_toArray, List.set_cons_zero, List.set_cons_succ])
    refine wpAnyH_ready (rs := [14]) (by as_aux_lemma => kernel_rfl) (by simp) ?_
    refine AllReadyH.cons (o := ?o15) ?a15 (fun K hK => ?s15) ?m15; (case' a15 => (simp only [List.getElem?_toArray, List.getElem?_cons_zero, List.getElem?_cons_succ]; rfl))
    case s15 =>
      go_simp
      refine hK.out _ _ (keep8 hHeld (one_box' _)) (fun hHeld => ?_)
      clear hK K
      (try simp only [Act.put, List.setIfInBounds_toArray, List.set_cons_zero, List.set_cons_succ])
      refine wpAnyH_ready (rs := [15]) (by as_aux_lemma => kernel_rfl) (by simp) ?_
      refine AllReadyH.cons (o := ?o16) ?a16 (fun K hK => ?s16) ?m16; (case' a16 => (simp only [List.getElem?_toArray, List.getElem?_cons_zero, List.getElem?_cons_succ]; rfl))
      case s16 =>
        go_simp
        refine hK.out _ _ (keep8 hHeld (one_box' _)) (fun hHeld => ?_)
        clear hK K
        (try simp only [Act.put, List.setIfInBounds_toArray, List.set_cons_zero, List.set_cons_succ])
        refine wpAnyH_ready (rs := [16]) (by as_aux_lemma => kernel_rfl) (by simp) ?_
        refine AllReadyH.cons (o := ?o17) ?a17 (fun K hK => ?s17) ?m17; (case' a17 => (simp only [List.getElem?_toArray, List.getElem?_cons_zero, List.getElem?_cons_succ]; rfl))
        case s17 =>
          go_simp
          go_at_call 11
          refine (rsame_is _ w1.heap.size 0 A2 _ 2 2 c2 2 _ _ true (Lib.hid ((HA6.out.below hHeld.2).mono hHeld.2.size)) (Lib.hid (readsL_two (three_a w6.drew _ _ _).2.2.1 (three_a w6.drew _ _ _).1 (three_a w6.drew _ _ _).2.1 (la := [⟨tT, 0⟩, ⟨tT, 1⟩]) (lb := [⟨tT, 2⟩]) rfl rfl (by simp; try omega) (by simp; try omega) rfl rfl)) (Lib.hid rfl) (Lib.hid rfl) (by decide) (Lib.hid (by decide)) (Lib.hid (by simp))).mono ?_
          rintro e wa ⟨rfl, hbn⟩
          go_wp2_with fail
          refine hK.out _ _ (keep8 hHeld hbn) (fun hHeld => ?_)
          clear hK K
          (try simp only [Act.put, List.setIfInBounds_toArray, List.set_cons_zero, List.set_cons_succ])
          refine wpAnyH_take (i := 17) (oi := ?o18) (v := ?v18) ?a18 (by as_aux_lemma => kernel_rfl) (by as_aux_lemma => kernel_rfl) (by as_aux_lemma => kernel_rfl) ?q18 (Or.inl ⟨?g18, ?y18⟩) (by assumption) ?r18; (case' a18 => (simp only [List.getElem?_toArray, List.getElem?_cons_zero, List.getElem?_cons_succ]; rfl)); (case' q18 => (exact fun _ _ _ h => h)); (case' g18 => rfl); (case' y18 => (intro w hSw; (try dsimp only at hSw); go_simp; try with_reducible rfl)); (case' r18 => (try simp only [Act.put, List.setIfInBounds_toArray, List.set_cons_zero, List.set_cons_succ]))
          refine wpAnyH_take (i := 18) (oi := ?o19) (v := ?v19) ?a19 (by as_aux_lemma => kernel_rfl) (by as_aux_lemma => kernel_rfl) (by as_aux_lemma => kernel_rfl) ?q19 (Or.inl ⟨?g19, ?y19⟩) (by assumption) ?r19; (case' a19 => (simp only [List.getElem?_toArray, List.getElem?_cons_zero, List.getElem?_cons_succ]; rfl)); (case' q19 => (exact fun _ _ _ h => h)); (case' g19 => rfl); (case' y19 => (intro w hSw; (try dsimp only at hSw); go_simp; try with_reducible rfl)); (case' r19 => (try simp only [Act.put, List.setIfInBounds_toArray, List.set_cons_zero, List.set_cons_succ]))
          refine wpAnyH_take (i := 19) (oi := ?o20) (v := ?v20) ?a20 (by as_aux_lemma => kernel_rfl) (by as_aux_lemma => kernel_rfl) (by as_aux_lemma => kernel_rfl) ?q20 (Or.inl ⟨?g20, ?y20⟩) (by assumption) ?r20; (case' a20 => (simp only [List.getElem?_toArray, List.getElem?_cons_zero, List.getElem?_cons_succ]; rfl)); (case' q20 => (exact fun _ _ _ h => h)); (case' g20 => rfl); (case' y20 => (intro w hSw; (try dsimp only at hSw); go_simp; try with_reducible rfl)); (case' r20 => (try simp only [Act.put, List.setIfInBounds_toArray, List.set_cons_zero, List.set_cons_succ]))
          refine wpAnyH_take (i := 20) (oi := ?o21) (v := ?v21) ?a21 (by as_aux_lemma => kernel_rfl) (by as_aux_lemma => kernel_rfl) (by as_aux_lemma => kernel_rfl) ?q21 (Or.inl ⟨?g21, ?y21⟩) (by assumption) ?r21; (case' a21 => (simp only [List.getElem?_toArray, List.getElem?_cons_zero, List.getElem?_cons_succ]; rfl)); (case' q21 => (exact fun _ _ _ h => h)); (case' g21 => rfl); (case' y21 => (intro w hSw; (try dsimp only at hSw); go_simp; try with_reducible rfl)); (case' r21 => (try simp only [Act.put, List.setIfInBounds_toArray, List.set_cons_zero, List.set_cons_succ]))
          refine wpAnyH_take (i := 21) (oi := ?o22) (v := ?v22) ?a22 (by as_aux_lemma => kernel_rfl) (by as_aux_lemma => kernel_rfl) (by as_aux_lemma => kernel_rfl) ?q22 (Or.inl ⟨?g22, ?y22⟩) (by assumption) ?r22; (case' a22 => (simp only [List.getElem?_toArray, List.getElem?_cons_zero, List.getElem?_cons_succ]; rfl)); (case' q22 => (exact fun _ _ _ h => h)); (case' g22 => rfl); (case' y22 => (intro w hSw; (try dsimp only at hSw); go_simp; try with_reducible rfl)); (case' r22 => (try simp only [Act.put, List.setIfInBounds_toArray, List.set_cons_zero, List.set_cons_succ]))
          refine wpAnyH_take (i := 22) (oi := ?o23) (v := ?v23) ?a23 (by as_aux_lemma => kernel_rfl) (by as_aux_lemma => kernel_rfl) (by as_aux_lemma => kernel_rfl) ?q23 (Or.inl ⟨?g23, ?y23⟩) (by assumption) ?r23; (case' a23 => (simp only [List.getElem?_toArray, List.getElem?_cons_zero, List.getElem?_cons_succ]; rfl)); (case' q23 => (exact fun _ _ _ h => h)); (case' g23 => rfl); (case' y23 => (intro w hSw; (try dsimp only at hSw); go_simp; try with_reducible rfl)); (case' r23 => (try simp only [Act.put, List.setIfInBounds_toArray, List.set_cons_zero, List.set_cons_succ]))
          refine wpAnyH_take (i := 23) (oi := ?o24) (v := ?v24) ?a24 (by as_aux_lemma => kernel_rfl) (by as_aux_lemma => kernel_rfl) (by as_aux_lemma => kernel_rfl) ?q24 (Or.inl ⟨?g24, ?y24⟩) (by assumption) ?r24; (case' a24 => (simp only [List.getElem?_toArray, List.getElem?_cons_zero, List.getElem?_cons_succ]; rfl)); (case' q24 => (exact fun _ _ _ h => h)); (case' g24 => rfl); (case' y24 => (intro w hSw; (try dsimp only at hSw); go_simp; try with_reducible rfl)); (case' r24 => (try simp only [Act.put, List.setIfInBounds_toArray, List.set_cons_zero, List.set_cons_succ]))
          refine wpAnyH_take (i := 24) (oi := ?o25) (v := ?v25) ?a25 (by as_aux_lemma => kernel_rfl) (by as_aux_lemma => kernel_rfl) (by as_aux_lemma => kernel_rfl) ?q25 (Or.inl ⟨?g25, ?y25⟩) (by assumption) ?r25; (case' a25 => (simp only [List.getElem?_toArray, List.getElem?_cons_zero, List.getElem?_cons_succ]; rfl)); (case' q25 => (exact fun _ _ _ h => h)); (case' g25 => rfl); (case' y25 => (intro w hSw; (try dsimp only at hSw); go_simp; try with_reducible rfl)); (case' r25 => (try simp only [Act.put, List.setIfInBounds_toArray, List.set_cons_zero, List.set_cons_succ]))
          refine wpAnyH_take (i := 25) (oi := ?o26) (v := ?v26) ?a26 (by as_aux_lemma => kernel_rfl) (by as_aux_lemma => kernel_rfl) (by as_aux_lemma => kernel_rfl) ?q26 (Or.inl ⟨?g26, ?y26⟩) (by assumption) ?r26; (case' a26 => (simp only [List.getElem?_toArray, List.getElem?_cons_zero, List.getElem?_cons_succ]; rfl)); (case' q26 => (exact fun _ _ _ h => h)); (case' g26 => rfl); (case' y26 => (intro w hSw; (try dsimp only at hSw); go_simp; try with_reducible rfl)); (case' r26 => (try simp only [Act.put, List.setIfInBounds_toArray, List.set_cons_zero, List.set_cons_succ]))
          refine wpAnyH_take (i := 26) (oi := ?o27) (v := ?v27) ?a27 (by as_aux_lemma => kernel_rfl) (by as_aux_lemma => kernel_rfl) (by as_aux_lemma => kernel_rfl) ?q27 (Or.inl ⟨?g27, ?y27⟩) (by assumption) ?r27; (case' a27 => (simp only [List.getElem?_toArray, List.getElem?_cons_zero, List.getElem?_cons_succ]; rfl)); (case' q27 => (exact fun _ _ _ h => h)); (case' g27 => rfl); (case' y27 => (intro w hSw; (try dsimp only at hSw); go_simp; try with_reducible rfl)); (case' r27 => (try simp only [Act.put, List.setIfInBounds_toArray, List.set_cons_zero, List.set_cons_succ]))
          refine wpAnyH_take (i := 27) (oi := ?o28) (v := ?v28) ?a28 (by as_aux_lemma => kernel_rfl) (by as_aux_lemma => kernel_rfl) (by as_aux_lemma => kernel_rfl) ?q28 (Or.inl ⟨?g28, ?y28⟩) (by assumption) ?r28; (case' a28 => (simp only [List.getElem?_toArray, List.getElem?_cons_zero, List.getElem?_cons_succ]; rfl)); (case' q28 => (exact fun _ _ _ h => h)); (case' g28 => rfl); (case' y28 => (intro w hSw; (try dsimp only at hSw); go_simp; try with_reducible rfl)); (case' r28 => (try simp only [Act.put, List.setIfInBounds_toArray, List.set_cons_zero, List.set_cons_succ]))
          refine wpAnyH_take (i := 28) (oi := ?o29) (v := ?v29) ?a29 (by as_aux_lemma => kernel_rfl) (by as_aux_lemma => kernel_rfl) (by as_aux_lemma => kernel_rfl) ?q29 (Or.inl ⟨?g29, ?y29⟩) (by assumption) ?r29; (case' a29 => (simp only [List.getElem?_toArray, List.getElem?_cons_zero, List.getElem?_cons_succ]; rfl)); (case' q29 => (exact fun _ _ _ h => h)); (case' g29 => rfl); (case' y29 => (intro w hSw; (try dsimp only at hSw); go_simp; try with_reducible rfl)); (case' r29 => (try simp only [Act.put, List.setIfInBounds_toArray, List.set_cons_zero, List.set_cons_succ]))
          refine wpAnyH_take (i := 29) (oi := ?o30) (v := ?v30) ?a30 (by as_aux_lemma => kernel_rfl) (by as_aux_lemma => kernel_rfl) (by as_aux_lemma => kernel_rfl) ?q30 (Or.inl ⟨?g30, ?y30⟩) (by assumption) ?r30; (case' a30 => (simp only [List.getElem?_toArray, List.getElem?_cons_zero, List.getElem?_cons_succ]; rfl)); (case' q30 => (exact fun _ _ _ h => h)); (case' g30 => rfl); (case' y30 => (intro w hSw; (try dsimp only at hSw); go_simp; try with_reducible rfl)); (case' r30 => (try simp only [Act.put, List.setIfInBounds_toArray, List.set_cons_zero, List.set_cons_succ]))
          refine wpAnyH_take (i := 31) (oi := ?o31) (v := ?v31) ?a31 (by as_aux_lemma => kernel_rfl) (by as_aux_lemma => kernel_rfl) (by as_aux_lemma => kernel_rfl) ?q31 (Or.inl ⟨?g31, ?y31⟩) (by assumption) ?r31; (case' a31 => (simp only [List.getElem?_toArray, List.getElem?_cons_zero, List.getElem?_cons_succ]; rfl)); (case' q31 => (exact fun _ _ _ h => h)); (case' g31 => rfl); (case' y31 => (intro w hSw; (try dsimp only at hSw); go_simp; try with_reducible rfl)); (case' r31 => (try simp only [Act.put, List.setIfInBounds_toArray, List.set_cons_zero, List.set_cons_succ]))
          refine wpAnyH_take (i := 32) (oi := ?o32) (v := ?v32) ?a32 (by as_aux_lemma => kernel_rfl) (by as_aux_lemma => kernel_rfl) (by as_aux_lemma => kernel_rfl) ?q32 (Or.inl ⟨?g32, ?y32⟩) (by assumption) ?r32; (case' a32 => (simp only [List.getElem?_toArray, List.getElem?_cons_zero, List.getElem?_cons_succ]; rfl)); (case' q32 => (exact fun _ _ _ h => h)); (case' g32 => rfl); (case' y32 => (intro w hSw; (try dsimp only at hSw); go_simp; try with_reducible rfl)); (case' r32 => (try simp only [Act.put, List.setIfInBounds_toArray, List.set_cons_zero, List.set_cons_succ]))
          refine wpAnyH_take (i := 33) (oi := ?o33) (v := ?v33) ?a33 (by as_aux_lemma => kernel_rfl) (by as_aux_lemma => kernel_rfl) (by as_aux_lemma => kernel_rfl) ?q33 (Or.inl ⟨?g33, ?y33⟩) (by assumption) ?r33; (case' a33 => (simp only [List.getElem?_toArray, List.getElem?_cons_zero, List.getElem?_cons_succ]; rfl)); (case' q33 => (exact fun _ _ _ h => h)); (case' g33 => rfl); (case' y33 => (intro w hSw; (try dsimp only at hSw); go_simp; try with_reducible rfl)); (case' r33 => (try simp only [Act.put, List.setIfInBounds_toArray, List.set_cons_zero, List.set_cons_succ]))
          refine wpAnyH_ready (rs := [30, 34]) (by as_aux_lemma => kernel_rfl) (by simp) ?_
          refine AllReadyH.cons (o := ?o34) ?a34 (fun K hK => ?s34) ?m34; (case' a34 => (simp only [List.getElem?_toArray, List.getElem?_cons_zero, List.getElem?_cons_succ]; rfl))
          case s34 =>
            go_simp
            refine hK.out _ _ (keep8 hHeld (one_box' _)) (fun hHeld => ?_)
            clear hK K
            (try simp only [Act.put, List.setIfInBounds_toArray, List.set_cons_zero, List.set_cons_succ])
            refine wpAnyH_ready (rs := [34]) (by as_aux_lemma => kernel_rfl) (by simp) ?_
            refine AllReadyH.cons (o := ?o35) ?a35 (fun K hK => ?s35) ?m35; (case' a35 => (simp only [List.getElem?_toArray, List.getElem?_cons_zero, List.getElem?_cons_succ]; rfl))
            case s35 =>
              go_simp
              refine hK.out _ _ (keep8 hHeld (one_box' _)) (fun hHeld => ?_)
              clear hK K
              (try simp only [Act.put, List.setIfInBounds_toArray, List.set_cons_zero, List.set_cons_succ])
              refine wpAnyH_ready (rs := [35]) (by as_aux_lemma => kernel_rfl) (by simp) ?_
              refine AllReadyH.cons (o := ?o36) ?a36 (fun K hK => ?s36) ?m36; (case' a36 => (simp only [List.getElem?_toArray, List.getElem?_cons_zero, List.getElem?_cons_succ]; rfl))
              case s36 =>
                go_simp
                refine hK.out _ _ (keep8 hHeld (one_box' _)) (fun hHeld => ?_)
                clear hK K
                (try simp only [Act.put, List.setIfInBounds_toArray, List.set_cons_zero, List.set_cons_succ])
                refine wpAnyH_ready (rs := [36]) (by as_aux_lemma => kernel_rfl) (by simp) ?_
                refine AllReadyH.cons (o := ?o37) ?a37 (fun K hK => ?s37) ?m37; (case' a37 => (simp only [List.getElem?_toArray, List.getElem?_cons_zero, List.getElem?_cons_succ]; rfl))
                case s37 =>
                  go_simp
                  go_at_call 11
                  refine (rsame_is _ w2.heap.size 0 A3 _ 2 2 c3 2 _ _ true (Lib.hid ((HR6.out.below hHeld.2).mono hHeld.2.size)) (Lib.hid (readsL_two (three_a wa _ _ _).2.2.1 (three_a wa _ _ _).1 (three_a wa _ _ _).2.1 (la := [⟨tT, 0⟩, ⟨tT, 2⟩]) (lb := [⟨tT, 1⟩]) rfl rfl (by simp; try omega) (by simp; try omega) rfl rfl)) (Lib.hid rfl) (Lib.hid rfl) (by decide) (Lib.hid (by decide)) (Lib.hid (by simp))).mono ?_
                  rintro e wb ⟨rfl, hbn⟩
                  go_wp2_with fail
                  refine hK.out _ _ (keep8 hHeld hbn) (fun hHeld => ?_)
                  clear hK K
                  (try simp only [Act.put, List.setIfInBounds_toArray, List.set_cons_zero, List.set_cons_succ])
                  refine wpAnyH_take (i := 37) (oi := ?o38) (v := ?v38) ?a38 (by as_aux_lemma => kernel_rfl) (by as_aux_lemma => kernel_rfl) (by as_aux_lemma => kernel_rfl) ?q38 (Or.inl ⟨?g38, ?y38⟩) (by assumption) ?r38; (case' a38 => (simp only [List.getElem?_toArray, List.getElem?_cons_zero, List.getElem?_cons_succ]; rfl)); (case' q38 => (exact fun _ _ _ h => h)); (case' g38 => rfl); (case' y38 => (intro w hSw; (try dsimp only at hSw); go_simp; try with_reducible rfl)); (case' r38 => (try simp only [Act.put, List.setIfInBounds_toArray, List.set_cons_zero, List.set_cons_succ]))
                  refine wpAnyH_take (i := 38) (oi := ?o39) (v := ?v39) ?a39 (by as_aux_lemma => kernel_rfl) (by as_aux_lemma => kernel_rfl) (by as_aux_lemma => kernel_rfl) ?q39 (Or.inl ⟨?g39, ?y39⟩) (by assumption) ?r39; (case' a39 => (simp only [List.getElem?_toArray, List.getElem?_cons_zero, List.getElem?_cons_succ]; rfl)); (case' q39 => (exact fun _ _ _ h => h)); (case' g39 => rfl); (case' y39 => (intro w hSw; (try dsimp only at hSw); go_simp; try with_reducible rfl)); (case' r39 => (try simp only [Act.put, List.setIfInBounds_toArray, List.set_cons_zero, List.set_cons_succ]))
                  refine wpAnyH_take (i := 39) (oi := ?o40) (v := ?v40) ?a40 (by as_aux_lemma => kernel_rfl) (by as_aux_lemma => kernel_rfl) (by as_aux_lemma => kernel_rfl) ?q40 (Or.inl ⟨?g40, ?y40⟩) (by assumption) ?r40; (case' a40 => (simp only [List.getElem?_toArray, List.getElem?_cons_zero, List.getElem?_cons_succ]; rfl)); (case' q40 => (exact fun _ _ _ h => h)); (case' g40 => rfl); (case' y40 => (intro w hSw; (try dsimp only at hSw); go_simp; try with_reducible rfl)); (case' r40 => (try simp only [Act.put, List.setIfInBounds_toArray, List.set_cons_zero, List.set_cons_succ]))
                  refine wpAnyH_take (i := 40) (oi := ?o41) (v := ?v41) ?a41 (by as_aux_lemma => kernel_rfl) (by as_aux_lemma => kernel_rfl) (by as_aux_lemma => kernel_rfl) ?q41 (Or.inl ⟨?g41, ?y41⟩) (by assumption) ?r41; (case' a41 => (simp only [List.getElem?_toArray, List.getElem?_cons_zero, List.getElem?_cons_succ]; rfl)); (case' q41 => (exact fun _ _ _ h => h)); (case' g41 => rfl); (case' y41 => (intro w hSw; (try dsimp only at hSw); go_simp; try with_reducible rfl)); (case' r41 => (try simp only [Act.put, List.setIfInBounds_toArray, List.set_cons_zero, List.set_cons_succ]))
                  refine wpAnyH_take (i := 41) (oi := ?o42) (v := ?v42) ?a42 (by as_aux_lemma => kernel_rfl) (by as_aux_lemma => kernel_rfl) (by as_aux_lemma => kernel_rfl) ?q42 (Or.inl ⟨?g42, ?y42⟩) (by assumption) ?r42; (case' a42 => (simp only [List.getElem?_toArray, List.getElem?_cons_zero, List.getElem?_cons_succ]; rfl)); (case' q42 => (exact fun _ _ _ h => h)); (case' g42 => rfl); (case' y42 => (intro w hSw; (try dsimp only at hSw); go_simp; try with_reducible rfl)); (case' r42 => (try simp only [Act.put, List.setIfInBounds_toArray, List.set_cons_zero, List.set_cons_succ]))
                  refine wpAnyH_take (i := 42) (oi := ?o43) (v := ?v43) ?a43 (by as_aux_lemma => kernel_rfl) (by as_aux_lemma => kernel_rfl) (by as_aux_lemma => kernel_rfl) ?q43 (Or.inl ⟨?g43, ?y43⟩) (by assumption) ?r43; (case' a43 => (simp only [List.getElem?_toArray, List.getElem?_cons_zero, List.getElem?_cons_succ]; rfl)); (case' q43 => (exact fun _ _ _ h => h)); (case' g43 => rfl); (case' y43 => (intro w hSw; (try dsimp only at hSw); go_simp; try with_reducible rfl)); (case' r43 => (try simp only [Act.put, List.setIfInBounds_toArray, List.set_cons_zero, List.set_cons_succ]))
                  refine wpAnyH_take (i := 43) (oi := ?o44) (v := ?v44) ?a44 (by as_aux_lemma => kernel_rfl) (by as_aux_lemma => kernel_rfl) (by as_aux_lemma => kernel_rfl) ?q44 (Or.inl ⟨?g44, ?y44⟩) (by assumption) ?r44; (case' a44 => (simp only [List.getElem?_toArray, List.getElem?_cons_zero, List.getElem?_cons_succ]; rfl)); (case' q44 => (exact fun _ _ _ h => h)); (case' g44 => rfl); (case' y44 => (intro w hSw; (try dsimp only at hSw); go_simp; try with_reducible rfl)); (case' r44 => (try simp only [Act.put, List.setIfInBounds_toArray, List.set_cons_zero, List.set_cons_succ]))
                  refine wpAnyH_take (i := 44) (oi := ?o45) (v := ?v45) ?a45 (by as_aux_lemma => kernel_rfl) (by as_aux_lemma => kernel_rfl) (by as_aux_lemma => kernel_rfl) ?q45 (Or.inl ⟨?g45, ?y45⟩) (by assumption) ?r45; (case' a45 => (simp only [List.getElem?_toArray, List.getElem?_cons_zero, List.getElem?_cons_succ]; rfl)); (case' q45 => (exact fun _ _ _ h => h)); (case' g45 => rfl); (case' y45 => (intro w hSw; (try dsimp only at hSw); go_simp; try with_reducible rfl)); (case' r45 => (try simp only [Act.put, List.setIfInBounds_toArray, List.set_cons_zero, List.set_cons_succ]))
                  refine wpAnyH_take (i := 45) (oi := ?o46) (v := ?v46) ?a46 (by as_aux_lemma => kernel_rfl) (by as_aux_lemma => kernel_rfl) (by as_aux_lemma => kernel_rfl) ?q46 (Or.inl ⟨?g46, ?y46⟩) (by assumption) ?r46; (case' a46 => (simp only [List.getElem?_toArray, List.getElem?_cons_zero, List.getElem?_cons_succ]; rfl)); (case' q46 => (exact fun _ _ _ h => h)); (case' g46 => rfl); (case' y46 => (intro w hSw; (try dsimp only at hSw); go_simp; try with_reducible rfl)); (case' r46 => (try simp only [Act.put, List.setIfInBounds_toArray, List.set_cons_zero, List.set_cons_succ]))
                  refine wpAnyH_take (i := 46) (oi := ?o47) (v := ?v47) ?a47 (by as_aux_lemma => kernel_rfl) (by as_aux_lemma => kernel_rfl) (by as_aux_lemma => kernel_rfl) ?q47 (Or.inl ⟨?g47, ?y47⟩) (by assumption) ?r47; (case' a47 => (simp only [List.getElem?_toArray, List.getElem?_cons_zero, List.getElem?_cons_succ]; rfl)); (case' q47 => (exact fun _ _ _ h => h)); (case' g47 => rfl); (case' y47 => (intro w hSw; (try dsimp only at hSw); go_simp; try with_reducible rfl)); (case' r47 => (try simp only [Act.put, List.setIfInBounds_toArray, List.set_cons_zero, List.set_cons_succ]))
                  refine wpAnyH_take (i := 47) (oi := ?o48) (v := ?v48) ?a48 (by as_aux_lemma => kernel_rfl) (by as_aux_lemma => kernel_rfl) (by as_aux_lemma => kernel_rfl) ?q48 (Or.inl ⟨?g48, ?y48⟩) (by assumption) ?r48; (case' a48 => (simp only [List.getElem?_toArray, List.getElem?_cons_zero, List.getElem?_cons_succ]; rfl)); (case' q48 => (exact fun _ _ _ h => h)); (case' g48 => rfl); (case' y48 => (intro w hSw; (try dsimp only at hSw); go_simp; try with_reducible rfl)); (case' r48 => (try simp only [Act.put, List.setIfInBounds_toArray, List.set_cons_zero, List.set_cons_succ]))
                  refine wpAnyH_take (i := 48) (oi := ?o49) (v := ?v49) ?a49 (by as_aux_lemma => kernel_rfl) (by as_aux_lemma => kernel_rfl) (by as_aux_lemma => kernel_rfl) ?q49 (Or.inl ⟨?g49, ?y49⟩) (by assumption) ?r49; (case' a49 => (simp only [List.getElem?_toArray, List.getElem?_cons_zero, List.getElem?_cons_succ]; rfl)); (case' q49 => (exact fun _ _ _ h => h)); (case' g49 => rfl); (case' y49 => (intro w hSw; (try dsimp only at hSw); go_simp; try with_reducible rfl)); (case' r49 => (try simp only [Act.put, List.setIfInBounds_toArray, List.set_cons_zero, List.set_cons_succ]))
                  refine wpAnyH_take (i := 49) (oi := ?o50) (v := ?v50) ?a50 (by as_aux_lemma => kernel_rfl) (by as_aux_lemma => kernel_rfl) (by as_aux_lemma => kernel_rfl) ?q50 (Or.inl ⟨?g50, ?y50⟩) (by assumption) ?r50; (case' a50 => (simp only [List.getElem?_toArray, List.getElem?_cons_zero, List.getElem?_cons_succ]; rfl)); (case' q50 => (exact fun _ _ _ h => h)); (case' g50 => rfl); (case' y50 => (intro w hSw; (try dsimp only at hSw); go_simp; try with_reducible rfl)); (case' r50 => (try simp only [Act.put, List.setIfInBounds_toArray, List.set_cons_zero, List.set_cons_succ]))
                  refine wpAnyH_take (i := 50) (oi := ?o51) (v := ?v51) ?a51 (by as_aux_lemma => kernel_rfl) (by as_aux_lemma => kernel_rfl) (by as_aux_lemma => kernel_rfl) ?q51 (Or.inl ⟨?g51, ?y51⟩) (by assumption) ?r51; (case' a51 => (simp only [List.getElem?_toArray, List.getElem?_cons_zero, List.getElem?_cons_succ]; rfl)); (case' q51 => (exact fun _ _ _ h => h)); (case' g51 => rfl); (case' y51 => (intro w hSw; (try dsimp only at hSw); go_simp; try with_reducible rfl)); (case' r51 => (try simp only [Act.put, List.setIfInBounds_toArray, List.set_cons_zero, List.set_cons_succ]))
                  refine wpAnyH_ready (rs := [51]) (by as_aux_lemma => kernel_rfl) (by simp) ?_
                  refine AllReadyH.cons (o := ?o52) ?a52 (fun K hK => ?s52) ?m52; (case' a52 => (simp only [List.getElem?_toArray, List.getElem?_cons_zero, List.getElem?_cons_succ]; rfl))
                  case s52 =>
                    go_simp
                    go_at_call 12
                    refine (whose_is _ w2.heap.size A3 2 c3 _ tT 1 1 (Lib.hid ((HR6.out.below hHeld.2).mono hHeld.2.size)) (Lib.hid rfl) (by decide) (Lib.hid (by decide)) (Lib.hid who_yes)).mono ?_
                    rintro e wu ⟨rfl, hbn⟩
                    go_wp2_with fail
                    refine hK.out _ _ (keep8 hHeld hbn) (fun hHeld => ?_)
                    clear hK K
                    (try simp only [Act.put, List.setIfInBounds_toArray, List.set_cons_zero, List.set_cons_succ])
                    refine wpAnyH_take (i := 52) (oi := ?o53) (v := ?v53) ?a53 (by as_aux_lemma => kernel_rfl) (by as_aux_lemma => kernel_rfl) (by as_aux_lemma => kernel_rfl) ?q53 (Or.inl ⟨?g53, ?y53⟩) (by assumption) ?r53; (case' a53 => (simp only [List.getElem?_toArray, List.getElem?_cons_zero, List.getElem?_cons_succ]; rfl)); (case' q53 => (exact fun _ _ _ h => h)); (case' g53 => rfl); (case' y53 => (intro w hSw; (try dsimp only at hSw); go_simp; try with_reducible rfl)); (case' r53 => (try simp only [Act.put, List.setIfInBounds_toArray, List.set_cons_zero, List.set_cons_succ]))
                    refine wpAnyH_take (i := 53) (oi := ?o54) (v := ?v54) ?a54 (by as_aux_lemma => kernel_rfl) (by as_aux_lemma => kernel_rfl) (by as_aux_lemma => kernel_rfl) ?q54 (Or.inl ⟨?g54, ?y54⟩) (by assumption) ?r54; (case' a54 => (simp only [List.getElem?_toArray, List.getElem?_cons_zero, List.getElem?_cons_succ]; rfl)); (case' q54 => (exact fun _ _ _ h => h)); (case' g54 => rfl); (case' y54 => (intro w hSw; (try dsimp only at hSw); go_simp; try with_reducible rfl)); (case' r54 => (try simp only [Act.put, List.setIfInBounds_toArray, List.set_cons_zero, List.set_cons_succ]))
                    refine wpAnyH_take (i := 54) (oi := ?o55) (v := ?v55) ?a55 (by as_aux_lemma => kernel_rfl) (by as_aux_lemma => kernel_rfl) (by as_aux_lemma => kernel_rfl) ?q55 (Or.inl ⟨?g55, ?y55⟩) (by assumption) ?r55; (case' a55 => (simp only [List.getElem?_toArray, List.getElem?_cons_zero, List.getElem?_cons_succ]; rfl)); (case' q55 => (exact fun _ _ _ h => h)); (case' g55 => rfl); (case' y55 => (intro w hSw; (try dsimp only at hSw); go_simp; try with_reducible rfl)); (case' r55 => (try simp only [Act.put, List.setIfInBounds_toArray, List.set_cons_zero, List.set_cons_succ]))
                    refine wpAnyH_take (i := 55) (oi := ?o56) (v := ?v56) ?a56 (by as_aux_lemma => kernel_rfl) (by as_aux_lemma => kernel_rfl) (by as_aux_lemma => kernel_rfl) ?q56 (Or.inl ⟨?g56, ?y56⟩) (by assumption) ?r56; (case' a56 => (simp only [List.getElem?_toArray, List.getElem?_cons_zero, List.getElem?_cons_succ]; rfl)); (case' q56 => (exact fun _ _ _ h => h)); (case' g56 => rfl); (case' y56 => (intro w hSw; (try dsimp only at hSw); go_simp; try with_reducible rfl)); (case' r56 => (try simp only [Act.put, List.setIfInBounds_toArray, List.set_cons_zero, List.set_cons_succ]))
                    refine wpAnyH_take (i := 56) (oi := ?o57) (v := ?v57) ?a57 (by as_aux_lemma => kernel_rfl) (by as_aux_lemma => kernel_rfl) (by as_aux_lemma => kernel_rfl) ?q57 (Or.inl ⟨?g57, ?y57⟩) (by assumption) ?r57; (case' a57 => (simp only [List.getElem?_toArray, List.getElem?_cons_zero, List.getElem?_cons_succ]; rfl)); (case' q57 => (exact fun _ _ _ h => h)); (case' g57 => rfl); (case' y57 => (intro w hSw; (try dsimp only at hSw); go_simp; try with_reducible rfl)); (case' r57 => (try simp only [Act.put, List.setIfInBounds_toArray, List.set_cons_zero, List.set_cons_succ]))
                    refine wpAnyH_ready (rs := [57]) (by as_aux_lemma => kernel_rfl) (by simp) ?_
                    refine AllReadyH.cons (o := ?o58) ?a58 (fun K hK => ?s58) ?m58; (case' a58 => (simp only [List.getElem?_toArray, List.getElem?_cons_zero, List.getElem?_cons_succ]; rfl))
                    case s58 =>
                      go_simp
                      go_at_call 12
                      refine (whose_is _ w2.heap.size A3 2 c3 _ ⟨#[117]⟩ 0 (-1) (Lib.hid ((HR6.out.below hHeld.2).mono hHeld.2.size)) (Lib.hid rfl) (by decide) (Lib.hid (by decide)) (Lib.hid who_no)).mono ?_
                      rintro e wv ⟨rfl, hbn⟩
                      go_wp2_with fail
                      refine hK.out _ _ (keep8 hHeld hbn) (fun hHeld => ?_)
                      clear hK K
                      (try simp only [Act.put, List.setIfInBounds_toArray, List.set_cons_zero, List.set_cons_succ])
                      refine wpAnyH_take (i := 58) (oi := ?o59) (v := ?v59) ?a59 (by as_aux_lemma => kernel_rfl) (by as_aux_lemma => kernel_rfl) (by as_aux_lemma => kernel_rfl) ?q59 (Or.inl ⟨?g59, ?y59⟩) (by assumption) ?r59; (case' a59 => (simp only [List.getElem?_toArray, List.getElem?_cons_zero, List.getElem?_cons_succ]; rfl)); (case' q59 => (exact fun _ _ _ h => h)); (case' g59 => rfl); (case' y59 => (intro w hSw; (try dsimp only at hSw); go_simp; try with_reducible rfl)); (case' r59 => (try simp only [Act.put, List.setIfInBounds_toArray, List.set_cons_zero, List.set_cons_succ]))
                      refine wpAnyH_take (i := 59) (oi := ?o60) (v := ?v60) ?a60 (by as_aux_lemma => kernel_rfl) (by as_aux_lemma => kernel_rfl) (by as_aux_lemma => kernel_rfl) ?q60 (Or.inl ⟨?g60, ?y60⟩) (by assumption) ?r60; (case' a60 => (simp only [List.getElem?_toArray, List.getElem?_cons_zero, List.getElem?_cons_succ]; rfl)); (case' q60 => (exact fun _ _ _ h => h)); (case' g60 => rfl); (case' y60 => (intro w hSw; (try dsimp only at hSw); go_simp; try with_reducible rfl)); (case' r60 => (try simp only [Act.put, List.setIfInBounds_toArray, List.set_cons_zero, List.set_cons_succ]))
                      refine wpAnyH_take (i := 60) (oi := ?o61) (v := ?v61) ?a61 (by as_aux_lemma => kernel_rfl) (by as_aux_lemma => kernel_rfl) (by as_aux_lemma => kernel_rfl) ?q61 (Or.inl ⟨?g61, ?y61⟩) (by assumption) ?r61; (case' a61 => (simp only [List.getElem?_toArray, List.getElem?_cons_zero, List.getElem?_cons_succ]; rfl)); (case' q61 => (exact fun _ _ _ h => h)); (case' g61 => rfl); (case' y61 => (intro w hSw; (try dsimp only at hSw); go_simp; try with_reducible rfl)); (case' r61 => (try simp only [Act.put, List.setIfInBounds_toArray, List.set_cons_zero, List.set_cons_succ]))
                      refine wpAnyH_take (i := 61) (oi := ?o62) (v := ?v62) ?a62 (by as_aux_lemma => kernel_rfl) (by as_aux_lemma => kernel_rfl) (by as_aux_lemma => kernel_rfl) ?q62 (Or.inl ⟨?g62, ?y62⟩) (by assumption) ?r62; (case' a62 => (simp only [List.getElem?_toArray, List.getElem?_cons_zero, List.getElem?_cons_succ]; rfl)); (case' q62 => (exact fun _ _ _ h => h)); (case' g62 => rfl); (case' y62 => (intro w hSw; (try dsimp only at hSw); go_simp; try with_reducible rfl)); (case' r62 => (try simp only [Act.put, List.setIfInBounds_toArray, List.set_cons_zero, List.set_cons_succ]))
                      refine wpAnyH_take (i := 62) (oi := ?o63) (v := ?v63) ?a63 (by as_aux_lemma => kernel_rfl) (by as_aux_lemma => kernel_rfl) (by as_aux_lemma => kernel_rfl) ?q63 (Or.inl ⟨?g63, ?y63⟩) (by assumption) ?r63; (case' a63 => (simp only [List.getElem?_toArray, List.getElem?_cons_zero, List.getElem?_cons_succ]; rfl)); (case' q63 => (exact fun _ _ _ h => h)); (case' g63 => rfl); (case' y63 => (intro w hSw; (try dsimp only at hSw); go_simp; try with_reducible rfl)); (case' r63 => (try simp only [Act.put, List.setIfInBounds_toArray, List.set_cons_zero, List.set_cons_succ]))
                      refine wpAnyH_take (i := 63) (oi := ?o64) (v := ?v64) ?a64 (by as_aux_lemma => kernel_rfl) (by as_aux_lemma => kernel_rfl) (by as_aux_lemma => kernel_rfl) ?q64 (Or.inl ⟨?g64, ?y64⟩) (by assumption) ?r64; (case' a64 => (simp only [List.getElem?_toArray, List.getElem?_cons_zero, List.getElem?_cons_succ]; rfl)); (case' q64 => (exact fun _ _ _ h => h)); (case' g64 => rfl); (case' y64 => (intro w hSw; (try dsimp only at hSw); go_simp; try with_reducible rfl)); (case' r64 => (try simp only [Act.put, List.setIfInBounds_toArray, List.set_cons_zero, List.set_cons_succ]))
                      refine wpAnyH_ready (rs := [64]) (by as_aux_lemma => kernel_rfl) (by simp) ?_
                      refine AllReadyH.cons (o := ?o65) ?a65 (fun K hK => ?s65) ?m65; (case' a65 => (simp only [List.getElem?_toArray, List.getElem?_cons_zero, List.getElem?_cons_succ]; rfl))
                      case s65 =>
                        go_simp
                        go_at_call 14
                        refine (wants_is mM tT [tT] (some ⟨ga, 0, none⟩) ca 1 w6.heap.size true _ (Lib.hid (HT6.out.below hHeld.2)) hHeld.2.size (Lib.hid rfl) (by decide) (Lib.hid (by decide))).mono ?_
                        rintro e wx ⟨rfl, hbn⟩
                        go_wp2_with fail
                        refine hK.out _ _ (keep8 hHeld hbn) (fun hHeld => ?_)
                        clear hK K
                        (try simp only [Act.put, List.setIfInBounds_toArray, List.set_cons_zero, List.set_cons_succ])
                        refine wpAnyH_take (i := 65) (oi := ?o66) (v := ?v66) ?a66 (by as_aux_lemma => kernel_rfl) (by as_aux_lemma => kernel_rfl) (by as_aux_lemma => kernel_rfl) ?q66 (Or.inl ⟨?g66, ?y66⟩) (by assumption) ?r66; (case' a66 => (simp only [List.getElem?_toArray, List.getElem?_cons_zero, List.getElem?_cons_succ]; rfl)); (case' q66 => (exact fun _ _ _ h => h)); (case' g66 => rfl); (case' y66 => (intro w hSw; (try dsimp only at hSw); go_simp; try with_reducible rfl)); (case' r66 => (try simp only [Act.put, List.setIfInBounds_toArray, List.set_cons_zero, List.set_cons_succ]))
                        refine wpAnyH_take (i := 66) (oi := ?o67) (v := ?v67) ?a67 (by as_aux_lemma => kernel_rfl) (by as_aux_lemma => kernel_rfl) (by as_aux_lemma => kernel_rfl) ?q67 (Or.inl ⟨?g67, ?y67⟩) (by assumption) ?r67; (case' a67 => (simp only [List.getElem?_toArray, List.getElem?_cons_zero, List.getElem?_cons_succ]; rfl)); (case' q67 => (exact fun _ _ _ h => h)); (case' g67 => rfl); (case' y67 => (intro w hSw; (try dsimp only at hSw); go_simp; try with_reducible rfl)); (case' r67 => (try simp only [Act.put, List.setIfInBounds_toArray, List.set_cons_zero, List.set_cons_succ]))
                        refine wpAnyH_take (i := 67) (oi := ?o68) (v := ?v68) ?a68 (by as_aux_lemma => kernel_rfl) (by as_aux_lemma => kernel_rfl) (by as_aux_lemma => kernel_rfl) ?q68 (Or.inl ⟨?g68, ?y68⟩) (by assumption) ?r68; (case' a68 => (simp only [List.getElem?_toArray, List.getElem?_cons_zero, List.getElem?_cons_succ]; rfl)); (case' q68 => (exact fun _ _ _ h => h)); (case' g68 => rfl); (case' y68 => (intro w hSw; (try dsimp only at hSw); go_simp; try with_reducible rfl)); (case' r68 => (try simp only [Act.put, List.setIfInBounds_toArray, List.set_cons_zero, List.set_cons_succ]))
                        refine wpAnyH_take (i := 68) (oi := ?o69) (v := ?v69) ?a69 (by as_aux_lemma => kernel_rfl) (by as_aux_lemma => kernel_rfl) (by as_aux_lemma => kernel_rfl) ?q69 (Or.inl ⟨?g69, ?y69⟩) (by assumption) ?r69; (case' a69 => (simp only [List.getElem?_toArray, List.getElem?_cons_zero, List.getElem?_cons_succ]; rfl)); (case' q69 => (exact fun _ _ _ h => h)); (case' g69 => rfl); (case' y69 => (intro w hSw; (try dsimp only at hSw); go_simp; try with_reducible rfl)); (case' r69 => (try simp only [Act.put, List.setIfInBounds_toArray, List.set_cons_zero, List.set_cons_succ]))
                        refine wpAnyH_take (i := 69) (oi := ?o70) (v := ?v70) ?a70 (by as_aux_lemma => kernel_rfl) (by as_aux_lemma => kernel_rfl) (by as_aux_lemma => kernel_rfl) ?q70 (Or.inl ⟨?g70, ?y70⟩) (by assumption) ?r70; (case' a70 => (simp only [List.getElem?_toArray, List.getElem?_cons_zero, List.getElem?_cons_succ]; rfl)); (case' q70 => (exact fun _ _ _ h => h)); (case' g70 => rfl); (case' y70 => (intro w hSw; (try dsimp only at hSw); go_simp; try with_reducible rfl)); (case' r70 => (try simp only [Act.put, List.setIfInBounds_toArray, List.set_cons_zero, List.set_cons_succ]))
                        refine wpAnyH_ready (rs := [70]) (by as_aux_lemma => kernel_rfl) (by simp) ?_
                        refine AllReadyH.cons (o := ?o71) ?a71 (fun K hK => ?s71) ?m71; (case' a71 => (simp only [List.getElem?_toArray, List.getElem?_cons_zero, List.getElem?_cons_succ]; rfl))
                        case s71 =>
                          go_simp
                          go_at_call 14
                          refine (wants_is mM ⟨#[117]⟩ [tT] (some ⟨ga, 0, none⟩) ca 1 w6.heap.size false _ (Lib.hid (HT6.out.below hHeld.2)) hHeld.2.size (Lib.hid rfl) (by decide) (Lib.hid (by decide))).mono ?_
                          rintro e wy ⟨rfl, hbn⟩
                          go_wp2_with fail
                          refine hK.out _ _ (keep8 hHeld hbn) (fun hHeld => ?_)
                          clear hK K
                          (try simp only [Act.put, List.setIfInBounds_toArray, List.set_cons_zero, List.set_cons_succ])
                          refine wpAnyH_take (i := 71) (oi := ?o72) (v := ?v72) ?a72 (by as_aux_lemma => kernel_rfl) (by as_aux_lemma => kernel_rfl) (by as_aux_lemma => kernel_rfl) ?q72 (Or.inl ⟨?g72, ?y72⟩) (by assumption) ?r72; (case' a72 => (simp only [List.getElem?_toArray, List.getElem?_cons_zero, List.getElem?_cons_succ]; rfl)); (case' q72 => (exact fun _ _ _ h => h)); (case' g72 => rfl); (case' y72 => (intro w hSw; (try dsimp only at hSw); go_simp; try with_reducible rfl)); (case' r72 => (try simp only [Act.put, List.setIfInBounds_toArray, List.set_cons_zero, List.set_cons_succ]))
                          refine wpAnyH_take (i := 72) (oi := ?o73) (v := ?v73) ?a73 (by as_aux_lemma => kernel_rfl) (by as_aux_lemma => kernel_rfl) (by as_aux_lemma => kernel_rfl) ?q73 (Or.inl ⟨?g73, ?y73⟩) (by assumption) ?r73; (case' a73 => (simp only [List.getElem?_toArray, List.getElem?_cons_zero, List.getElem?_cons_succ]; rfl)); (case' q73 => (exact fun _ _ _ h => h)); (case' g73 => rfl); (case' y73 => (intro w hSw; (try dsimp only at hSw); go_simp; try with_reducible rfl)); (case' r73 => (try simp only [Act.put, List.setIfInBounds_toArray, List.set_cons_zero, List.set_cons_succ]))
                          refine wpAnyH_take (i := 73) (oi := ?o74) (v := ?v74) ?a74 (by as_aux_lemma => kernel_rfl) (by as_aux_lemma => kernel_rfl) (by as_aux_lemma => kernel_rfl) ?q74 (Or.inl ⟨?g74, ?y74⟩) (by assumption) ?r74; (case' a74 => (simp only [List.getElem?_toArray, List.getElem?_cons_zero, List.getElem?_cons_succ]; rfl)); (case' q74 => (exact fun _ _ _ h => h)); (case' g74 => rfl); (case' y74 => (intro w hSw; (try dsimp only at hSw); go_simp; try with_reducible rfl)); (case' r74 => (try simp only [Act.put, List.setIfInBounds_toArray, List.set_cons_zero, List.set_cons_succ]))
                          refine wpAnyH_take (i := 74) (oi := ?o75) (v := ?v75) ?a75 (by as_aux_lemma => kernel_rfl) (by as_aux_lemma => kernel_rfl) (by as_aux_lemma => kernel_rfl) ?q75 (Or.inl ⟨?g75, ?y75⟩) (by assumption) ?r75; (case' a75 => (simp only [List.getElem?_toArray, List.getElem?_cons_zero, List.getElem?_cons_succ]; rfl)); (case' q75 => (exact fun _ _ _ h => h)); (case' g75 => rfl); (case' y75 => (intro w hSw; (try dsimp only at hSw); go_simp; try with_reducible rfl)); (case' r75 => (try simp only [Act.put, List.setIfInBounds_toArray, List.set_cons_zero, List.set_cons_succ]))
                          refine wpAnyH_ready (rs := [75]) (by as_aux_lemma => kernel_rfl) (by simp) ?_
                          refine AllReadyH.cons (o := ?o76) ?a76 (fun K hK => ?s76) ?m76; (case' a76 => (simp only [List.getElem?_toArray, List.getElem?_cons_zero, List.getElem?_cons_succ]; rfl))
                          case s76 =>
                            go_simp
                            refine hK.out _ _ (keep8 hHeld (one_box' _)) (fun hHeld => ?_)
                            clear hK K
                            (try simp only [Act.put, List.setIfInBounds_toArray, List.set_cons_zero, List.set_cons_succ])
                            refine wpAnyH_ready (rs := [76]) (by as_aux_lemma => kernel_rfl) (by simp) ?_
                            refine AllReadyH.cons (o := ?o77) ?a77 (fun K hK => ?s77) ?m77; (case' a77 => (simp only [List.getElem?_toArray, List.getElem?_cons_zero, List.getElem?_cons_succ]; rfl))
                            case s77 =>
                              go_simp
                              go_at_call 10
                              refine (check_is _ _ _ 1 1 9 9 l3 m9 2 (Lib.hid (HL6.out.up (Nat.le_refl _) hHeld.2)) (Lib.hid (isM_nine (heap_alloc_new _ _))) C9).mono ?_
                              rintro e wz ⟨rfl, hbn⟩
                              go_wp2_with fail
                              refine hK.out _ _ (keep8 hHeld hbn) (fun hHeld => ?_)
                              clear hK K
                              (try simp only [Act.put, List.setIfInBounds_toArray, List.set_cons_zero, List.set_cons_succ])
                              refine wpAnyH_take (i := 77) (oi := ?o78) (v := ?v78) ?a78 (by as_aux_lemma => kernel_rfl) (by as_aux_lemma => kernel_rfl) (by as_aux_lemma => kernel_rfl) ?q78 (Or.inl ⟨?g78, ?y78⟩) (by assumption) ?r78; (case' a78 => (simp only [List.getElem?_toArray, List.getElem?_cons_zero, List.getElem?_cons_succ]; rfl)); (case' q78 => (exact fun _ _ _ h => h)); (case' g78 => rfl); (case' y78 => (intro w hSw; (try dsimp only at hSw); go_simp; try with_reducible rfl)); (case' r78 => (try simp only [Act.put, List.setIfInBounds_toArray, List.set_cons_zero, List.set_cons_succ]))
                              refine wpAnyH_take (i := 78) (oi := ?o79) (v := ?v79) ?a79 (by as_aux_lemma => kernel_rfl) (by as_aux_lemma => kernel_rfl) (by as_aux_lemma => kernel_rfl) ?q79 (Or.inl ⟨?g79, ?y79⟩) (by assumption) ?r79; (case' a79 => (simp only [List.getElem?_toArray, List.getElem?_cons_zero, List.getElem?_cons_succ]; rfl)); (case' q79 => (exact fun _ _ _ h => h)); (case' g79 => rfl); (case' y79 => (intro w hSw; (try dsimp only at hSw); go_simp; try with_reducible rfl)); (case' r79 => (try simp only [Act.put, List.setIfInBounds_toArray, List.set_cons_zero, List.set_cons_succ]))
                              refine wpAnyH_take (i := 79) (oi := ?o80) (v := ?v80) ?a80 (by as_aux_lemma => kernel_rfl) (by as_aux_lemma => kernel_rfl) (by as_aux_lemma => kernel_rfl) ?q80 (Or.inl ⟨?g80, ?y80⟩) (by assumption) ?r80; (case' a80 => (simp only [List.getElem?_toArray, List.getElem?_cons_zero, List.getElem?_cons_succ]; rfl)); (case' q80 => (exact fun _ _ _ h => h)); (case' g80 => rfl); (case' y80 => (intro w hSw; (try dsimp only at hSw); go_simp; try with_reducible rfl)); (case' r80 => (try simp only [Act.put, List.setIfInBounds_toArray, List.set_cons_zero]))
                              refine wpAnyH_done (by as_aux_lemma => kernel_rfl) ?_ _
                              have HF := Lib.hid hHeld.2
                              clear hHeld
                              go_wp2_with fail
                              go_ret
                              exact ⟨rfl, HB06.out.trans (HF.out.mono HB06.out.size)⟩
                            exact AllReadyH.nil
                          exact AllReadyH.nil
                        exact AllReadyH.nil
                      exact AllReadyH.nil
                    exact AllReadyH.nil
                  exact AllReadyH.nil
                exact AllReadyH.nil
              exact AllReadyH.nil
            exact AllReadyH.nil
          refine AllReadyH.cons (o := ?o81) ?a81 (fun K hK => ?s81) ?m81; (case' a81 => (simp only [List.getElem?_toArray, List.getElem?_cons_zero, List.getElem?_cons_succ]; rfl))
          case s81 =>
            go_simp
            refine hK.out _ _ (keep8 hHeld (one_box' _)) (fun hHeld => ?_)
            clear hK K
            (try simp only [Act.put, List.setIfInBounds_toArray, List.set_cons_zero, List.set_cons_succ])
            refine wpAnyH_ready (rs := [30]) (by as_aux_lemma => kernel_rfl) (by simp) ?_
            refine AllReadyH.cons (o := ?o82) ?a82 (fun K hK => ?s82) ?m82; (case' a82 => (simp only [List.getElem?_toArray, List.getElem?_cons_zero, List.getElem?_cons_succ]; rfl))
            case s82 =>
              go_simp
              refine hK.out _ _ (keep8 hHeld (one_box' _)) (fun hHeld => ?_)
              clear hK K
              (try simp only [Act.put, List.setIfInBounds_toArray, List.set_cons_zero, List.set_cons_succ])
              refine wpAnyH_ready (rs := [35]) (by as_aux_lemma => kernel_rfl) (by simp) ?_
              refine AllReadyH.cons (o := ?o83) ?a83 (fun K hK => ?s83) ?m83; (case' a83 => (simp only [List.getElem?_toArray, List.getElem?_cons_zero, List.getElem?_cons_succ]; rfl))
              case s83 =>
                go_simp
                refine hK.out _ _ (keep8 hHeld (one_box' _)) (fun hHeld => ?_)
                clear hK K
                (try simp only [Act.put, List.setIfInBounds_toArray, List.set_cons_zero, List.set_cons_succ])
                refine wpAnyH_ready (rs := [36]) (by as_aux_lemma => kernel_rfl) (by simp) ?_
                refine AllReadyH.cons (o := ?o84) ?a84 (fun K hK => ?s84) ?m84; (case' a84 => (simp only [List.getElem?_toArray, List.getElem?_cons_zero, List.getElem?_cons_succ]; rfl))
                case s84 =>
                  go_simp
                  go_at_call 11
                  refine (rsame_is _ w2.heap.size 0 A3 _ 2 2 c3 2 _ _ true (Lib.hid ((HR6.out.below hHeld.2).mono hHeld.2.size)) (Lib.hid (readsL_two (three_a wa _ _ _).2.2.1 (three_a wa _ _ _).2.1 (three_a wa _ _ _).1 (la := [⟨tT, 0⟩, ⟨tT, 2⟩]) (lb := [⟨tT, 1⟩]) rfl rfl (by simp; try omega) (by simp; try omega) rfl rfl)) (Lib.hid rfl) (Lib.hid rfl) (by decide) (Lib.hid (by decide)) (Lib.hid (by simp))).mono ?_
                  rintro e wb ⟨rfl, hbn⟩
                  go_wp2_with fail
                  refine hK.out _ _ (keep8 hHeld hbn) (fun hHeld => ?_)
                  clear hK K
                  (try simp only [Act.put, List.setIfInBounds_toArray, List.set_cons_zero, List.set_cons_succ])
                  refine wpAnyH_take (i := 37) (oi := ?o85) (v := ?v85) ?a85 (by as_aux_lemma => kernel_rfl) (by as_aux_lemma => kernel_rfl) (by as_aux_lemma => kernel_rfl) ?q85 (Or.inl ⟨?g85, ?y85⟩) (by assumption) ?r85; (case' a85 => (simp only [List.getElem?_toArray, List.getElem?_cons_zero, List.getElem?_cons_succ]; rfl)); (case' q85 => (exact fun _ _ _ h => h)); (case' g85 => rfl); (case' y85 => (intro w hSw; (try dsimp only at hSw); go_simp; try with_reducible rfl)); (case' r85 => (try simp only [Act.put, List.setIfInBounds_toArray, List.set_cons_zero, List.set_cons_succ]))
                  refine wpAnyH_take (i := 38) (oi := ?o86) (v := ?v86) ?a86 (by as_aux_lemma => kernel_rfl) (by as_aux_lemma => kernel_rfl) (by as_aux_lemma => kernel_rfl) ?q86 (Or.inl ⟨?g86, ?y86⟩) (by assumption) ?r86; (case' a86 => (simp only [List.getElem?_toArray, List.getElem?_cons_zero, List.getElem?_cons_succ]; rfl)); (case' q86 => (exact fun _ _ _ h => h)); (case' g86 => rfl); (case' y86 => (intro w hSw; (try dsimp only at hSw); go_simp; try with_reducible rfl)); (case' r86 => (try simp only [Act.put, List.setIfInBounds_toArray, List.set_cons_zero, List.set_cons_succ]))
                  refine wpAnyH_take (i := 39) (oi := ?o87) (v := ?v87) ?a87 (by as_aux_lemma => kernel_rfl) (by as_aux_lemma => kernel_rfl) (by as_aux_lemma => kernel_rfl) ?q87 (Or.inl ⟨?g87, ?y87⟩) (by assumption) ?r87; (case' a87 => (simp only [List.getElem?_toArray, List.getElem?_cons_zero, List.getElem?_cons_succ]; rfl)); (case' q87 => (exact fun _ _ _ h => h)); (case' g87 => rfl); (case' y87 => (intro w hSw; (try dsimp only at hSw); go_simp; try with_reducible rfl)); (case' r87 => (try simp only [Act.put, List.setIfInBounds_toArray, List.set_cons_zero, List.set_cons_succ]))
                  refine wpAnyH_take (i := 40) (oi := ?o88) (v := ?v88) ?a88 (by as_aux_lemma => kernel_rfl) (by as_aux_lemma => kernel_rfl) (by as_aux_lemma => kernel_rfl) ?q88 (Or.inl ⟨?g88, ?y88⟩) (by assumption) ?r88; (case' a88 => (simp only [List.getElem?_toArray, List.getElem?_cons_zero, List.getElem?_cons_succ]; rfl)); (case' q88 => (exact fun _ _ _ h => h)); (case' g88 => rfl); (case' y88 => (intro w hSw; (try dsimp only at hSw); go_simp; try with_reducible rfl)); (case' r88 => (try simp only [Act.put, List.setIfInBounds_toArray, List.set_cons_zero, List.set_cons_succ]))
                  refine wpAnyH_take (i := 41) (oi := ?o89) (v := ?v89) ?a89 (by as_aux_lemma => kernel_rfl) (by as_aux_lemma => kernel_rfl) (by as_aux_lemma => kernel_rfl) ?q89 (Or.inl ⟨?g89, ?y89⟩) (by assumption) ?r89; (case' a89 => (simp only [List.getElem?_toArray, List.getElem?_cons_zero, List.getElem?_cons_succ]; rfl)); (case' q89 => (exact fun _ _ _ h => h)); (case' g89 => rfl); (case' y89 => (intro w hSw; (try dsimp only at hSw); go_simp; try with_reducible rfl)); (case' r89 => (try simp only [Act.put, List.setIfInBounds_toArray, List.set_cons_zero, List.set_cons_succ]))
                  refine wpAnyH_take (i := 42) (oi := ?o90) (v := ?v90) ?a90 (by as_aux_lemma => kernel_rfl) (by as_aux_lemma => kernel_rfl) (by as_aux_lemma => kernel_rfl) ?q90 (Or.inl ⟨?g90, ?y90⟩) (by assumption) ?r90; (case' a90 => (simp only [List.getElem?_toArray, List.getElem?_cons_zero, List.getElem?_cons_succ]; rfl)); (case' q90 => (exact fun _ _ _ h => h)); (case' g90 => rfl); (case' y90 => (intro w hSw; (try dsimp only at hSw); go_simp; try with_reducible rfl)); (case' r90 => (try simp only [Act.put, List.setIfInBounds_toArray, List.set_cons_zero, List.set_cons_succ]))
                  refine wpAnyH_take (i := 43) (oi := ?o91) (v := ?v91) ?a91 (by as_aux_lemma => kernel_rfl) (by as_aux_lemma => kernel_rfl) (by as_aux_lemma => kernel_rfl) ?q91 (Or.inl ⟨?g91, ?y91⟩) (by assumption) ?r91; (case' a91 => (simp only [List.getElem?_toArray, List.getElem?_cons_zero, List.getElem?_cons_succ]; rfl)); (case' q91 => (exact fun _ _ _ h => h)); (case' g91 => rfl); (case' y91 => (intro w hSw; (try dsimp only at hSw); go_simp; try with_reducible rfl)); (case' r91 => (try simp only [Act.put, List.setIfInBounds_toArray, List.set_cons_zero, List.set_cons_succ]))
                  refine wpAnyH_take (i := 44) (oi := ?o92) (v := ?v92) ?a92 (by as_aux_lemma => kernel_rfl) (by as_aux_lemma => kernel_rfl) (by as_aux_lemma => kernel_rfl) ?q92 (Or.inl ⟨?g92, ?y92⟩) (by assumption) ?r92; (case' a92 => (simp only [List.getElem?_toArray, List.getElem?_cons_zero, List.getElem?_cons_succ]; rfl)); (case' q92 => (exact fun _ _ _ h => h)); (case' g92 => rfl); (case' y92 => (intro w hSw; (try dsimp only at hSw); go_simp; try with_reducible rfl)); (case' r92 => (try simp only [Act.put, List.setIfInBounds_toArray, List.set_cons_zero, List.set_cons_succ]))
                  refine wpAnyH_take (i := 45) (oi := ?o93) (v := ?v93) ?a93 (by as_aux_lemma => kernel_rfl) (by as_aux_lemma => kernel_rfl) (by as_aux_lemma => kernel_rfl) ?q93 (Or.inl ⟨?g93, ?y93⟩) (by assumption) ?r93; (case' a93 => (simp only [List.getElem?_toArray, List.getElem?_cons_zero, List.getElem?_cons_succ]; rfl)); (case' q93 => (exact fun _ _ _ h => h)); (case' g93 => rfl); (case' y93 => (intro w hSw; (try dsimp only at hSw); go_simp; try with_reducible rfl)); (case' r93 => (try simp only [Act.put, List.setIfInBounds_toArray, List.set_cons_zero, List.set_cons_succ]))
                  refine wpAnyH_take (i := 46) (oi := ?o94) (v := ?v94) ?a94 (by as_aux_lemma => kernel_rfl) (by as_aux_lemma => kernel_rfl) (by as_aux_lemma => kernel_rfl) ?q94 (Or.inl ⟨?g94, ?y94⟩) (by assumption) ?r94; (case' a94 => (simp only [List.getElem?_toArray, List.getElem?_cons_zero, List.getElem?_cons_succ]; rfl)); (case' q94 => (exact fun _ _ _ h => h)); (case' g94 => rfl); (case' y94 => (intro w hSw; (try dsimp only at hSw); go_simp; try with_reducible rfl)); (case' r94 => (try simp only [Act.put, List.setIfInBounds_toArray, List.set_cons_zero, List.set_cons_succ]))
                  refine wpAnyH_take (i := 47) (oi := ?o95) (v := ?v95) ?a95 (by as_aux_lemma => kernel_rfl) (by as_aux_lemma => kernel_rfl) (by as_aux_lemma => kernel_rfl) ?q95 (Or.inl ⟨?g95, ?y95⟩) (by assumption) ?r95; (case' a95 => (simp only [List.getElem?_toArray, List.getElem?_cons_zero, List.getElem?_cons_succ]; rfl)); (case' q95 => (exact fun _ _ _ h => h)); (case' g95 => rfl); (case' y95 => (intro w hSw; (try dsimp only at hSw); go_simp; try with_reducible rfl)); (case' r95 => (try simp only [Act.put, List.setIfInBounds_toArray, List.set_cons_zero, List.set_cons_succ]))
                  refine wpAnyH_take (i := 48) (oi := ?o96) (v := ?v96) ?a96 (by as_aux_lemma => kernel_rfl) (by as_aux_lemma => kernel_rfl) (by as_aux_lemma => kernel_rfl) ?q96 (Or.inl ⟨?g96, ?y96⟩) (by assumption) ?r96; (case' a96 => (simp only [List.getElem?_toArray, List.getElem?_cons_zero, List.getElem?_cons_succ]; rfl)); (case' q96 => (exact fun _ _ _ h => h)); (case' g96 => rfl); (case' y96 => (intro w hSw; (try dsimp only at hSw); go_simp; try with_reducible rfl)); (case' r96 => (try simp only [Act.put, List.setIfInBounds_toArray, List.set_cons_zero, List.set_cons_succ]))
                  refine wpAnyH_take (i := 49) (oi := ?o97) (v := ?v97) ?a97 (by as_aux_lemma => kernel_rfl) (by as_aux_lemma => kernel_rfl) (by as_aux_lemma => kernel_rfl) ?q97 (Or.inl ⟨?g97, ?y97⟩) (by assumption) ?r97; (case' a97 => (simp only [List.getElem?_toArray, List.getElem?_cons_zero, List.getElem?_cons_succ]; rfl)); (case' q97 => (exact fun _ _ _ h => h)); (case' g97 => rfl); (case' y97 => (intro w hSw; (try dsimp only at hSw); go_simp; try with_reducible rfl)); (case' r97 => (try simp only [Act.put, List.setIfInBounds_toArray, List.set_cons_zero, List.set_cons_succ]))
                  refine wpAnyH_take (i := 50) (oi := ?o98) (v := ?v98) ?a98 (by as_aux_lemma => kernel_rfl) (by as_aux_lemma => kernel_rfl) (by as_aux_lemma => kernel_rfl) ?q98 (Or.inl ⟨?g98, ?y98⟩) (by assumption) ?r98; (case' a98 => (simp only [List.getElem?_toArray, List.getElem?_cons_zero, List.getElem?_cons_succ]; rfl)); (case' q98 => (exact fun _ _ _ h => h)); (case' g98 => rfl); (case' y98 => (intro w hSw; (try dsimp only at hSw); go_simp; try with_reducible rfl)); (case' r98 => (try simp only [Act.put, List.setIfInBounds_toArray, List.set_cons_zero, List.set_cons_succ]))
                  refine wpAnyH_ready (rs := [51]) (by as_aux_lemma => kernel_rfl) (by simp) ?_
                  refine AllReadyH.cons (o := ?o99) ?a99 (fun K hK => ?s99) ?m99; (case' a99 => (simp only [List.getElem?_toArray, List.getElem?_cons_zero, List.getElem?_cons_succ]; rfl))
                  case s99 =>
                    go_simp
                    go_at_call 12
                    refine (whose_is _ w2.heap.size A3 2 c3 _ tT 1 1 (Lib.hid ((HR6.out.below hHeld.2).mono hHeld.2.size)) (Lib.hid rfl) (by decide) (Lib.hid (by decide)) (Lib.hid who_yes)).mono ?_
                    rintro e wu ⟨rfl, hbn⟩
                    go_wp2_with fail
                    refine hK.out _ _ (keep8 hHeld hbn) (fun hHeld => ?_)
                    clear hK K
                    (try simp only [Act.put, List.setIfInBounds_toArray, List.set_cons_zero, List.set_cons_succ])
                    refine wpAnyH_take (i := 52) (oi := ?o100) (v := ?v100) ?a100 (by as_aux_lemma => kernel_rfl) (by as_aux_lemma => kernel_rfl) (by as_aux_lemma => kernel_rfl) ?q100 (Or.inl ⟨?g100, ?y100⟩) (by assumption) ?r100; (case' a100 => (simp only [List.getElem?_toArray, List.getElem?_cons_zero, List.getElem?_cons_succ]; rfl)); (case' q100 => (exact fun _ _ _ h => h)); (case' g100 => rfl); (case' y100 => (intro w hSw; (try dsimp only at hSw); go_simp; try with_reducible rfl)); (case' r100 => (try simp only [Act.put, List.setIfInBounds_toArray, List.set_cons_zero, List.set_cons_succ]))
                    refine wpAnyH_take (i := 53) (oi := ?o101) (v := ?v101) ?a101 (by as_aux_lemma => kernel_rfl) (by as_aux_lemma => kernel_rfl) (by as_aux_lemma => kernel_rfl) ?q101 (Or.inl ⟨?g101, ?y101⟩) (by assumption) ?r101; (case' a101 => (simp only [List.getElem?_toArray, List.getElem?_cons_zero, List.getElem?_cons_succ]; rfl)); (case' q101 => (exact fun _ _ _ h => h)); (case' g101 => rfl); (case' y101 => (intro w hSw; (try dsimp only at hSw); go_simp; try with_reducible rfl)); (case' r101 => (try simp only [Act.put, List.setIfInBounds_toArray, List.set_cons_zero, List.set_cons_succ]))
                    refine wpAnyH_take (i := 54) (oi := ?o102) (v := ?v102) ?a102 (by as_aux_lemma => kernel_rfl) (by as_aux_lemma => kernel_rfl) (by as_aux_lemma => kernel_rfl) ?q102 (Or.inl ⟨?g102, ?y102⟩) (by assumption) ?r102; (case' a102 => (simp only [List.getElem?_toArray, List.getElem?_cons_zero, List.getElem?_cons_succ]; rfl)); (case' q102 => (exact fun _ _ _ h => h)); (case' g102 => rfl); (case' y102 => (intro w hSw; (try dsimp only at hSw); go_simp; try with_reducible rfl)); (case' r102 => (try simp only [Act.put, List.setIfInBounds_toArray, List.set_cons_zero, List.set_cons_succ]))
                    refine wpAnyH_take (i := 55) (oi := ?o103) (v := ?v103) ?a103 (by as_aux_lemma => kernel_rfl) (by as_aux_lemma => kernel_rfl) (by as_aux_lemma => kernel_rfl) ?q103 (Or.inl ⟨?g103, ?y103⟩) (by assumption) ?r103; (case' a103 => (simp only [List.getElem?_toArray, List.getElem?_cons_zero, List.getElem?_cons_succ]; rfl)); (case' q103 => (exact fun _ _ _ h => h)); (case' g103 => rfl); (case' y103 => (intro w hSw; (try dsimp only at hSw); go_simp; try with_reducible rfl)); (case' r103 => (try simp only [Act.put, List.setIfInBounds_toArray, List.set_cons_zero, List.set_cons_succ]))
                    refine wpAnyH_take (i := 56) (oi := ?o104) (v := ?v104) ?a104 (by as_aux_lemma => kernel_rfl) (by as_aux_lemma => kernel_rfl) (by as_aux_lemma => kernel_rfl) ?q104 (Or.inl ⟨?g104, ?y104⟩) (by assumption) ?r104; (case' a104 => (simp only [List.getElem?_toArray, List.getElem?_cons_zero, List.getElem?_cons_succ]; rfl)); (case' q104 => (exact fun _ _ _ h => h)); (case' g104 => rfl); (case' y104 => (intro w hSw; (try dsimp only at hSw); go_simp; try with_reducible rfl)); (case' r104 => (try simp only [Act.put, List.setIfInBounds_toArray, List.set_cons_zero, List.set_cons_succ]))
                    refine wpAnyH_ready (rs := [57]) (by as_aux_lemma => kernel_rfl) (by simp) ?_
                    refine AllReadyH.cons (o := ?o105) ?a105 (fun K hK => ?s105) ?m105; (case' a105 => (simp only [List.getElem?_toArray, List.getElem?_cons_zero, List.getElem?_cons_succ]; rfl))
                    case s105 =>
                      go_simp
                      go_at_call 12
                      refine (whose_is _ w2.heap.size A3 2 c3 _ ⟨#[117]⟩ 0 (-1) (Lib.hid ((HR6.out.below hHeld.2).mono hHeld.2.size)) (Lib.hid rfl) (by decide) (Lib.hid (by decide)) (Lib.hid who_no)).mono ?_
                      rintro e wv ⟨rfl, hbn⟩
                      go_wp2_with fail
                      refine hK.out _ _ (keep8 hHeld hbn) (fun hHeld => ?_)
                      clear hK K
                      (try simp only [Act.put, List.setIfInBounds_toArray, List.set_cons_zero, List.set_cons_succ])
                      refine wpAnyH_take (i := 58) (oi := ?o106) (v := ?v106) ?a106 (by as_aux_lemma => kernel_rfl) (by as_aux_lemma => kernel_rfl) (by as_aux_lemma => kernel_rfl) ?q106 (Or.inl ⟨?g106, ?y106⟩) (by assumption) ?r106; (case' a106 => (simp only [List.getElem?_toArray, List.getElem?_cons_zero, List.getElem?_cons_succ]; rfl)); (case' q106 => (exact fun _ _ _ h => h)); (case' g106 => rfl); (case' y106 => (intro w hSw; (try dsimp only at hSw); go_simp; try with_reducible rfl)); (case' r106 => (try simp only [Act.put, List.setIfInBounds_toArray, List.set_cons_zero, List.set_cons_succ]))
                      refine wpAnyH_take (i := 59) (oi := ?o107) (v := ?v107) ?a107 (by as_aux_lemma => kernel_rfl) (by as_aux_lemma => kernel_rfl) (by as_aux_lemma => kernel_rfl) ?q107 (Or.inl ⟨?g107, ?y107⟩) (by assumption) ?r107; (case' a107 => (simp only [List.getElem?_toArray, List.getElem?_cons_zero, List.getElem?_cons_succ]; rfl)); (case' q107 => (exact fun _ _ _ h => h)); (case' g107 => rfl); (case' y107 => (intro w hSw; (try dsimp only at hSw); go_simp; try with_reducible rfl)); (case' r107 => (try simp only [Act.put, List.setIfInBounds_toArray, List.set_cons_zero, List.set_cons_succ]))
                      refine wpAnyH_take (i := 60) (oi := ?o108) (v := ?v108) ?a108 (by as_aux_lemma => kernel_rfl) (by as_aux_lemma => kernel_rfl) (by as_aux_lemma => kernel_rfl) ?q108 (Or.inl ⟨?g108, ?y108⟩) (by assumption) ?r108; (case' a108 => (simp only [List.getElem?_toArray, List.getElem?_cons_zero, List.getElem?_cons_succ]; rfl)); (case' q108 => (exact fun _ _ _ h => h)); (case' g108 => rfl); (case' y108 => (intro w hSw; (try dsimp only at hSw); go_simp; try with_reducible rfl)); (case' r108 => (try simp only [Act.put, List.setIfInBounds_toArray, List.set_cons_zero, List.set_cons_succ]))
                      refine wpAnyH_take (i := 61) (oi := ?o109) (v := ?v109) ?a109 (by as_aux_lemma => kernel_rfl) (by as_aux_lemma => kernel_rfl) (by as_aux_lemma => kernel_rfl) ?q109 (Or.inl ⟨?g109, ?y109⟩) (by assumption) ?r109; (case' a109 => (simp only [List.getElem?_toArray, List.getElem?_cons_zero, List.getElem?_cons_succ]; rfl)); (case' q109 => (exact fun _ _ _ h => h)); (case' g109 => rfl); (case' y109 => (intro w hSw; (try dsimp only at hSw); go_simp; try with_reducible rfl)); (case' r109 => (try simp only [Act.put, List.setIfInBounds_toArray, List.set_cons_zero, List.set_cons_succ]))
                      refine wpAnyH_take (i := 62) (oi := ?o110) (v := ?v110) ?a110 (by as_aux_lemma => kernel_rfl) (by as_aux_lemma => kernel_rfl) (by as_aux_lemma => kernel_rfl) ?q110 (Or.inl ⟨?g110, ?y110⟩) (by assumption) ?r110; (case' a110 => (simp only [List.getElem?_toArray, List.getElem?_cons_zero, List.getElem?_cons_succ]; rfl)); (case' q110 => (exact fun _ _ _ h => h)); (case' g110 => rfl); (case' y110 => (intro w hSw; (try dsimp only at hSw); go_simp; try with_reducible rfl)); (case' r110 => (try simp only [Act.put, List.setIfInBounds_toArray, List.set_cons_zero, List.set_cons_succ]))
                      refine wpAnyH_take (i := 63) (oi := ?o111) (v := ?v111) ?a111 (by as_aux_lemma => kernel_rfl) (by as_aux_lemma => kernel_rfl) (by as_aux_lemma => kernel_rfl) ?q111 (Or.inl ⟨?g111, ?y111⟩) (by assumption) ?r111; (case' a111 => (simp only [List.getElem?_toArray, List.getElem?_cons_zero, List.getElem?_cons_succ]; rfl)); (case' q111 => (exact fun _ _ _ h => h)); (case' g111 => rfl); (case' y111 => (intro w hSw; (try dsimp only at hSw); go_simp; try with_reducible rfl)); (case' r111 => (try simp only [Act.put, List.setIfInBounds_toArray, List.set_cons_zero, List.set_cons_succ]))
                      refine wpAnyH_ready (rs := [64]) (by as_aux_lemma => kernel_rfl) (by simp) ?_
                      refine AllReadyH.cons (o := ?o112) ?a112 (fun K hK => ?s112) ?m112; (case' a112 => (simp only [List.getElem?_toArray, List.getElem?_cons_zero, List.getElem?_cons_succ]; rfl))
                      case s112 =>
                        go_simp
                        go_at_call 14
                        refine (wants_is mM tT [tT] (some ⟨ga, 0, none⟩) ca 1 w6.heap.size true _ (Lib.hid (HT6.out.below hHeld.2)) hHeld.2.size (Lib.hid rfl) (by decide) (Lib.hid (by decide))).mono ?_
                        rintro e wx ⟨rfl, hbn⟩
                        go_wp2_with fail
                        refine hK.out _ _ (keep8 hHeld hbn) (fun hHeld => ?_)
                        clear hK K
                        (try simp only [Act.put, List.setIfInBounds_toArray, List.set_cons_zero, List.set_cons_succ])
                        refine wpAnyH_take (i := 65) (oi := ?o113) (v := ?v113) ?a113 (by as_aux_lemma => kernel_rfl) (by as_aux_lemma => kernel_rfl) (by as_aux_lemma => kernel_rfl) ?q113 (Or.inl ⟨?g113, ?y113⟩) (by assumption) ?r113; (case' a113 => (simp only [List.getElem?_toArray, List.getElem?_cons_zero, List.getElem?_cons_succ]; rfl)); (case' q113 => (exact fun _ _ _ h => h)); (case' g113 => rfl); (case' y113 => (intro w hSw; (try dsimp only at hSw); go_simp; try with_reducible rfl)); (case' r113 => (try simp only [Act.put, List.setIfInBounds_toArray, List.set_cons_zero, List.set_cons_succ]))
                        refine wpAnyH_take (i := 66) (oi := ?o114) (v := ?v114) ?a114 (by as_aux_lemma => kernel_rfl) (by as_aux_lemma => kernel_rfl) (by as_aux_lemma => kernel_rfl) ?q114 (Or.inl ⟨?g114, ?y114⟩) (by assumption) ?r114; (case' a114 => (simp only [List.getElem?_toArray, List.getElem?_cons_zero, List.getElem?_cons_succ]; rfl)); (case' q114 => (exact fun _ _ _ h => h)); (case' g114 => rfl); (case' y114 => (intro w hSw; (try dsimp only at hSw); go_simp; try with_reducible rfl)); (case' r114 => (try simp only [Act.put, List.setIfInBounds_toArray, List.set_cons_zero, List.set_cons_succ]))
                        refine wpAnyH_take (i := 67) (oi := ?o115) (v := ?v115) ?a115 (by as_aux_lemma => kernel_rfl) (by as_aux_lemma => kernel_rfl) (by as_aux_lemma => kernel_rfl) ?q115 (Or.inl ⟨?g115, ?y115⟩) (by assumption) ?r115; (case' a115 => (simp only [List.getElem?_toArray, List.getElem?_cons_zero, List.getElem?_cons_succ]; rfl)); (case' q115 => (exact fun _ _ _ h => h)); (case' g115 => rfl); (case' y115 => (intro w hSw; (try dsimp only at hSw); go_simp; try with_reducible rfl)); (case' r115 => (try simp only [Act.put, List.setIfInBounds_toArray, List.set_cons_zero, List.set_cons_succ]))
                        refine wpAnyH_take (i := 68) (oi := ?o116) (v := ?v116) ?a116 (by as_aux_lemma => kernel_rfl) (by as_aux_lemma => kernel_rfl) (by as_aux_lemma => kernel_rfl) ?q116 (Or.inl ⟨?g116, ?y116⟩) (by assumption) ?r116; (case' a116 => (simp only [List.getElem?_toArray, List.getElem?_cons_zero, List.getElem?_cons_succ]; rfl)); (case' q116 => (exact fun _ _ _ h => h)); (case' g116 => rfl); (case' y116 => (intro w hSw; (try dsimp only at hSw); go_simp; try with_reducible rfl)); (case' r116 => (try simp only [Act.put, List.setIfInBounds_toArray, List.set_cons_zero, List.set_cons_succ]))
                        refine wpAnyH_take (i := 69) (oi := ?o117) (v := ?v117) ?a117 (by as_aux_lemma => kernel_rfl) (by as_aux_lemma => kernel_rfl) (by as_aux_lemma => kernel_rfl) ?q117 (Or.inl ⟨?g117, ?y117⟩) (by assumption) ?r117; (case' a117 => (simp only [List.getElem?_toArray, List.getElem?_cons_zero, List.getElem?_cons_succ]; rfl)); (case' q117 => (exact fun _ _ _ h => h)); (case' g117 => rfl); (case' y117 => (intro w hSw; (try dsimp only at hSw); go_simp; try with_reducible rfl)); (case' r117 => (try simp only [Act.put, List.setIfInBounds_toArray, List.set_cons_zero, List.set_cons_succ]))
                        refine wpAnyH_ready (rs := [70]) (by as_aux_lemma => kernel_rfl) (by simp) ?_
                        refine AllReadyH.cons (o := ?o118) ?a118 (fun K hK => ?s118) ?m118; (case' a118 => (simp only [List.getElem?_toArray, List.getElem?_cons_zero, List.getElem?_cons_succ]; rfl))
                        case s118 =>
                          go_simp
                          go_at_call 14
                          refine (wants_is mM ⟨#[117]⟩ [tT] (some ⟨ga, 0, none⟩) ca 1 w6.heap.size false _ (Lib.hid (HT6.out.below hHeld.2)) hHeld.2.size (Lib.hid rfl) (by decide) (Lib.hid (by decide))).mono ?_
                          rintro e wy ⟨rfl, hbn⟩
                          go_wp2_with fail
                          refine hK.out _ _ (keep8 hHeld hbn) (fun hHeld => ?_)
                          clear hK K
                          (try simp only [Act.put, List.setIfInBounds_toArray, List.set_cons_zero, List.set_cons_succ])
                          refine wpAnyH_take (i := 71) (oi := ?o119) (v := ?v119) ?a119 (by as_aux_lemma => kernel_rfl) (by as_aux_lemma => kernel_rfl) (by as_aux_lemma => kernel_rfl) ?q119 (Or.inl ⟨?g119, ?y119⟩) (by assumption) ?r119; (case' a119 => (simp only [List.getElem?_toArray, List.getElem?_cons_zero, List.getElem?_cons_succ]; rfl)); (case' q119 => (exact fun _ _ _ h => h)); (case' g119 => rfl); (case' y119 => (intro w hSw; (try dsimp only at hSw); go_simp; try with_reducible rfl)); (case' r119 => (try simp only [Act.put, List.setIfInBounds_toArray, List.set_cons_zero, List.set_cons_succ]))
                          refine wpAnyH_take (i := 72) (oi := ?o120) (v := ?v120) ?a120 (by as_aux_lemma => kernel_rfl) (by as_aux_lemma => kernel_rfl) (by as_aux_lemma => kernel_rfl) ?q120 (Or.inl ⟨?g120, ?y120⟩) (by assumption) ?r120; (case' a120 => (simp only [List.getElem?_toArray, List.getElem?_cons_zero, List.getElem?_cons_succ]; rfl)); (case' q120 => (exact fun _ _ _ h => h)); (case' g120 => rfl); (case' y120 => (intro w hSw; (try dsimp only at hSw); go_simp; try with_reducible rfl)); (case' r120 => (try simp only [Act.put, List.setIfInBounds_toArray, List.set_cons_zero, List.set_cons_succ]))
                          refine wpAnyH_take (i := 73) (oi := ?o121) (v := ?v121) ?a121 (by as_aux_lemma => kernel_rfl) (by as_aux_lemma => kernel_rfl) (by as_aux_lemma => kernel_rfl) ?q121 (Or.inl ⟨?g121, ?y121⟩) (by assumption) ?r121; (case' a121 => (simp only [List.getElem?_toArray, List.getElem?_cons_zero, List.getElem?_cons_succ]; rfl)); (case' q121 => (exact fun _ _ _ h => h)); (case' g121 => rfl); (case' y121 => (intro w hSw; (try dsimp only at hSw); go_simp; try with_reducible rfl)); (case' r121 => (try simp only [Act.put, List.setIfInBounds_toArray, List.set_cons_zero, List.set_cons_succ]))
                          refine wpAnyH_take (i := 74) (oi := ?o122) (v := ?v122) ?a122 (by as_aux_lemma => kernel_rfl) (by as_aux_lemma => kernel_rfl) (by as_aux_lemma => kernel_rfl) ?q122 (Or.inl ⟨?g122, ?y122⟩) (by assumption) ?r122; (case' a122 => (simp only [List.getElem?_toArray, List.getElem?_cons_zero, List.getElem?_cons_succ]; rfl)); (case' q122 => (exact fun _ _ _ h => h)); (case' g122 => rfl); (case' y122 => (intro w hSw; (try dsimp only at hSw); go_simp; try with_reducible rfl)); (case' r122 => (try simp only [Act.put, List.setIfInBounds_toArray, List.set_cons_zero, List.set_cons_succ]))
                          refine wpAnyH_ready (rs := [75]) (by as_aux_lemma => kernel_rfl) (by simp) ?_
                          refine AllReadyH.cons (o := ?o123) ?a123 (fun K hK => ?s123) ?m123; (case' a123 => (simp only [List.getElem?_toArray, List.getElem?_cons_zero, List.getElem?_cons_succ]; rfl))
                          case s123 =>
                            go_simp
                            refine hK.out _ _ (keep8 hHeld (one_box' _)) (fun hHeld => ?_)
                            clear hK K
                            (try simp only [Act.put, List.setIfInBounds_toArray, List.set_cons_zero, List.set_cons_succ])
                            refine wpAnyH_ready (rs := [76]) (by as_aux_lemma => kernel_rfl) (by simp) ?_
                            refine AllReadyH.cons (o := ?o124) ?a124 (fun K hK => ?s124) ?m124; (case' a124 => (simp only [List.getElem?_toArray, List.getElem?_cons_zero, List.getElem?_cons_succ]; rfl))
                            case s124 =>
                              go_simp
                              go_at_call 10
                              refine (check_is _ _ _ 1 1 9 9 l3 m9 2 (Lib.hid (HL6.out.up (Nat.le_refl _) hHeld.2)) (Lib.hid (isM_nine (heap_alloc_new _ _))) C9).mono ?_
                              rintro e wz ⟨rfl, hbn⟩
                              go_wp2_with fail
                              refine hK.out _ _ (keep8 hHeld hbn) (fun hHeld => ?_)
                              clear hK K
                              (try simp only [Act.put, List.setIfInBounds_toArray, List.set_cons_zero, List.set_cons_succ])
                              refine wpAnyH_take (i := 77) (oi := ?o125) (v := ?v125) ?a125 (by as_aux_lemma => kernel_rfl) (by as_aux_lemma => kernel_rfl) (by as_aux_lemma => kernel_rfl) ?q125 (Or.inl ⟨?g125, ?y125⟩) (by assumption) ?r125; (case' a125 => (simp only [List.getElem?_toArray, List.getElem?_cons_zero, List.getElem?_cons_succ]; rfl)); (case' q125 => (exact fun _ _ _ h => h)); (case' g125 => rfl); (case' y125 => (intro w hSw; (try dsimp only at hSw); go_simp; try with_reducible rfl)); (case' r125 => (try simp only [Act.put, List.setIfInBounds_toArray, List.set_cons_zero, List.set_cons_succ]))
                              refine wpAnyH_take (i := 78) (oi := ?o126) (v := ?v126) ?a126 (by as_aux_lemma => kernel_rfl) (by as_aux_lemma => kernel_rfl) (by as_aux_lemma => kernel_rfl) ?q126 (Or.inl ⟨?g126, ?y126⟩) (by assumption) ?r126; (case' a126 => (simp only [List.getElem?_toArray, List.getElem?_cons_zero, List.getElem?_cons_succ]; rfl)); (case' q126 => (exact fun _ _ _ h => h)); (case' g126 => rfl); (case' y126 => (intro w hSw; (try dsimp only at hSw); go_simp; try with_reducible rfl)); (case' r126 => (try simp only [Act.put, List.setIfInBounds_toArray, List.set_cons_zero, List.set_cons_succ]))
                              refine wpAnyH_take (i := 79) (oi := ?o127) (v := ?v127) ?a127 (by as_aux_lemma => kernel_rfl) (by as_aux_lemma => kernel_rfl) (by as_aux_lemma => kernel_rfl) ?q127 (Or.inl ⟨?g127, ?y127⟩) (by assumption) ?r127; (case' a127 => (simp only [List.getElem?_toArray, List.getElem?_cons_zero, List.getElem?_cons_succ]; rfl)); (case' q127 => (exact fun _ _ _ h => h)); (case' g127 => rfl); (case' y127 => (intro w hSw; (try dsimp only at hSw); go_simp; try with_reducible rfl)); (case' r127 => (try simp only [Act.put, List.setIfInBounds_toArray, List.set_cons_zero]))
                              refine wpAnyH_done (by as_aux_lemma => kernel_rfl) ?_ _
                              have HF := Lib.hid hHeld.2
                              clear hHeld
                              go_wp2_with fail
                              go_ret
                              exact ⟨rfl, HB06.out.trans (HF.out.mono HB06.out.size)⟩
                            exact AllReadyH.nil
                          exact AllReadyH.nil
                        exact AllReadyH.nil
                      exact AllReadyH.nil
                    exact AllReadyH.nil
                  exact AllReadyH.nil
                exact AllReadyH.nil
              exact AllReadyH.nil
            exact AllReadyH.nil
          exact AllReadyH.nil
        exact AllReadyH.nil
      exact AllReadyH.nil
    exact AllReadyH.nil
  refine AllReadyH.cons (o := ?o128) ?a128 (fun K hK => ?s128) ?m128; (case' a128 => (simp only [List.getElem?_toArray, List.getElem?_cons_zero, List.getElem?_cons_succ]; rfl))
  case s128 =>
    go_simp
    refine hK.out _ _ (keep8 hHeld (one_box' _)) (fun hHeld => ?_)
    clear hK K
    (try simp only [Act.put, List.setIfInBounds_toArray, List.set_cons_zero, List.set_cons_succ])
    refine wpAnyH_ready (rs := [10]) (by as_aux_lemma => kernel_rfl) (by simp) ?_
    refine AllReadyH.cons (o := ?o129) ?a129 (fun K hK => ?s129) ?m129; (case' a129 => (simp only [List.getElem?_toArray, List.getElem?_cons_zero, List.getElem?_cons_succ]; rfl))
    case s129 =>
      go_simp
      refine hK.out _ _ (keep8 hHeld (one_box' _)) (fun hHeld => ?_)
      clear hK K
      (try simp only [Act.put, List.setIfInBounds_toArray, List.set_cons_zero, List.set_cons_succ])
      refine wpAnyH_ready (rs := [15]) (by as_aux_lemma => kernel_rfl) (by simp) ?_
      refine AllReadyH.cons (o := ?o130) ?a130 (fun K hK => ?s130) ?m130; (case' a130 => (simp only [List.getElem?_toArray, List.getElem?_cons_zero, List.getElem?_cons_succ]; rfl))
      case s130 =>
        go_simp
        refine hK.out _ _ (keep8 hHeld (one_box' _)) (fun hHeld => ?_)
        clear hK K
        (try simp only [Act.put, List.setIfInBounds_toArray, List.set_cons_zero, List.set_cons_succ])
        refine wpAnyH_ready (rs := [16]) (by as_aux_lemma => kernel_rfl) (by simp) ?_
        refine AllReadyH.cons (o := ?o131) ?a131 (fun K hK => ?s131) ?m131; (case' a131 => (simp only [List.getElem?_toArray, List.getElem?_cons_zero, List.getElem?_cons_succ]; rfl))
        case s131 =>
          go_simp
          go_at_call 11
          refine (rsame_is _ w1.heap.size 0 A2 _ 2 2 c2 2 _ _ true (Lib.hid ((HA6.out.below hHeld.2).mono hHeld.2.size)) (Lib.hid (readsL_two (three_a w6.drew _ _ _).2.2.1 (three_a w6.drew _ _ _).2.1 (three_a w6.drew _ _ _).1 (la := [⟨tT, 0⟩, ⟨tT, 1⟩]) (lb := [⟨tT, 2⟩]) rfl rfl (by simp; try omega) (by simp; try omega) rfl rfl)) (Lib.hid rfl) (Lib.hid rfl) (by decide) (Lib.hid (by decide)) (Lib.hid (by simp))).mono ?_
          rintro e wa ⟨rfl, hbn⟩
          go_wp2_with fail
          refine hK.out _ _ (keep8 hHeld hbn) (fun hHeld => ?_)
          clear hK K
          (try simp only [Act.put, List.setIfInBounds_toArray, List.set_cons_zero, List.set_cons_succ])
          refine wpAnyH_take (i := 17) (oi := ?o132) (v := ?v132) ?a132 (by as_aux_lemma => kernel_rfl) (by as_aux_lemma => kernel_rfl) (by as_aux_lemma => kernel_rfl) ?q132 (Or.inl ⟨?g132, ?y132⟩) (by assumption) ?r132; (case' a132 => (simp only [List.getElem?_toArray, List.getElem?_cons_zero, List.getElem?_cons_succ]; rfl)); (case' q132 => (exact fun _ _ _ h => h)); (case' g132 => rfl); (case' y132 => (intro w hSw; (try dsimp only at hSw); go_simp; try with_reducible rfl)); (case' r132 => (try simp only [Act.put, List.setIfInBounds_toArray, List.set_cons_zero, List.set_cons_succ]))
          refine wpAnyH_take (i := 18) (oi := ?o133) (v := ?v133) ?a133 (by as_aux_lemma => kernel_rfl) (by as_aux_lemma => kernel_rfl) (by as_aux_lemma => kernel_rfl) ?q133 (Or.inl ⟨?g133, ?y133⟩) (by assumption) ?r133; (case' a133 => (simp only [List.getElem?_toArray, List.getElem?_cons_zero, List.getElem?_cons_succ]; rfl)); (case' q133 => (exact fun _ _ _ h => h)); (case' g133 => rfl); (case' y133 => (intro w hSw; (try dsimp only at hSw); go_simp; try with_reducible rfl)); (case' r133 => (try simp only [Act.put, List.setIfInBounds_toArray, List.set_cons_zero, List.set_cons_succ]))
          refine wpAnyH_take (i := 19) (oi := ?o134) (v := ?v134) ?a134 (by as_aux_lemma => kernel_rfl) (by as_aux_lemma => kernel_rfl) (by as_aux_lemma => kernel_rfl) ?q134 (Or.inl ⟨?g134, ?y134⟩) (by assumption) ?r134; (case' a134 => (simp only [List.getElem?_toArray, List.getElem?_cons_zero, List.getElem?_cons_succ]; rfl)); (case' q134 => (exact fun _ _ _ h => h)); (case' g134 => rfl); (case' y134 => (intro w hSw; (try dsimp only at hSw); go_simp; try with_reducible rfl)); (case' r134 => (try simp only [Act.put, List.setIfInBounds_toArray, List.set_cons_zero, List.set_cons_succ]))
          refine wpAnyH_take (i := 20) (oi := ?o135) (v := ?v135) ?a135 (by as_aux_lemma => kernel_rfl) (by as_aux_lemma => kernel_rfl) (by as_aux_lemma => kernel_rfl) ?q135 (Or.inl ⟨?g135, ?y135⟩) (by assumption) ?r135; (case' a135 => (simp only [List.getElem?_toArray, List.getElem?_cons_zero, List.getElem?_cons_succ]; rfl)); (case' q135 => (exact fun _ _ _ h => h)); (case' g135 => rfl); (case' y135 => (intro w hSw; (try dsimp only at hSw); go_simp; try with_reducible rfl)); (case' r135 => (try simp only [Act.put, List.setIfInBounds_toArray, List.set_cons_zero, List.set_cons_succ]))
          refine wpAnyH_take (i := 21) (oi := ?o136) (v := ?v136) ?a136 (by as_aux_lemma => kernel_rfl) (by as_aux_lemma => kernel_rfl) (by as_aux_lemma => kernel_rfl) ?q136 (Or.inl ⟨?g136, ?y136⟩) (by assumption) ?r136; (case' a136 => (simp only [List.getElem?_toArray, List.getElem?_cons_zero, List.getElem?_cons_succ]; rfl)); (case' q136 => (exact fun _ _ _ h => h)); (case' g136 => rfl); (case' y136 => (intro w hSw; (try dsimp only at hSw); go_simp; try with_reducible rfl)); (case' r136 => (try simp only [Act.put, List.setIfInBounds_toArray, List.set_cons_zero, List.set_cons_succ]))
          refine wpAnyH_take (i := 22) (oi := ?o137) (v := ?v137) ?a137 (by as_aux_lemma => kernel_rfl) (by as_aux_lemma => kernel_rfl) (by as_aux_lemma => kernel_rfl) ?q137 (Or.inl ⟨?g137, ?y137⟩) (by assumption) ?r137; (case' a137 => (simp only [List.getElem?_toArray, List.getElem?_cons_zero, List.getElem?_cons_succ]; rfl)); (case' q137 => (exact fun _ _ _ h => h)); (case' g137 => rfl); (case' y137 => (intro w hSw; (try dsimp only at hSw); go_simp; try with_reducible rfl)); (case' r137 => (try simp only [Act.put, List.setIfInBounds_toArray, List.set_cons_zero, List.set_cons_succ]))
          refine wpAnyH_take (i := 23) (oi := ?o138) (v := ?v138) ?a138 (by as_aux_lemma => kernel_rfl) (by as_aux_lemma => kernel_rfl) (by as_aux_lemma => kernel_rfl) ?q138 (Or.inl ⟨?g138, ?y138⟩) (by assumption) ?r138; (case' a138 => (simp only [List.getElem?_toArray, List.getElem?_cons_zero, List.getElem?_cons_succ]; rfl)); (case' q138 => (exact fun _ _ _ h => h)); (case' g138 => rfl); (case' y138 => (intro w hSw; (try dsimp only at hSw); go_simp; try with_reducible rfl)); (case' r138 => (try simp only [Act.put, List.setIfInBounds_toArray, List.set_cons_zero, List.set_cons_succ]))
          refine wpAnyH_take (i := 24) (oi := ?o139) (v := ?v139) ?a139 (by as_aux_lemma => kernel_rfl) (by as_aux_lemma => kernel_rfl) (by as_aux_lemma => kernel_rfl) ?q139 (Or.inl ⟨?g139, ?y139⟩) (by assumption) ?r139; (case' a139 => (simp only [List.getElem?_toArray, List.getElem?_cons_zero, List.getElem?_cons_succ]; rfl)); (case' q139 => (exact fun _ _ _ h => h)); (case' g139 => rfl); (case' y139 => (intro w hSw; (try dsimp only at hSw); go_simp; try with_reducible rfl)); (case' r139 => (try simp only [Act.put, List.setIfInBounds_toArray, List.set_cons_zero, List.set_cons_succ]))
          refine wpAnyH_take (i := 25) (oi := ?o140) (v := ?v140) ?a140 (by as_aux_lemma => kernel_rfl) (by as_aux_lemma => kernel_rfl) (by as_aux_lemma => kernel_rfl) ?q140 (Or.inl ⟨?g140, ?y140⟩) (by assumption) ?r140; (case' a140 => (simp only [List.getElem?_toArray, List.getElem?_cons_zero, List.getElem?_cons_succ]; rfl)); (case' q140 => (exact fun _ _ _ h => h)); (case' g140 => rfl); (case' y140 => (intro w hSw; (try dsimp only at hSw); go_simp; try with_reducible rfl)); (case' r140 => (try simp only [Act.put, List.setIfInBounds_toArray, List.set_cons_zero, List.set_cons_succ]))
          refine wpAnyH_take (i := 26) (oi := ?o141) (v := ?v141) ?a141 (by as_aux_lemma => kernel_rfl) (by as_aux_lemma => kernel_rfl) (by as_aux_lemma => kernel_rfl) ?q141 (Or.inl ⟨?g141, ?y141⟩) (by assumption) ?r141; (case' a141 => (simp only [List.getElem?_toArray, List.getElem?_cons_zero, List.getElem?_cons_succ]; rfl)); (case' q141 => (exact fun _ _ _ h => h)); (case' g141 => rfl); (case' y141 => (intro w hSw; (try dsimp only at hSw); go_simp; try with_reducible rfl)); (case' r141 => (try simp only [Act.put, List.setIfInBounds_toArray, List.set_cons_zero, List.set_cons_succ]))
          refine wpAnyH_take (i := 27) (oi := ?o142) (v := ?v142) ?a142 (by as_aux_lemma => kernel_rfl) (by as_aux_lemma => kernel_rfl) (by as_aux_lemma => kernel_rfl) ?q142 (Or.inl ⟨?g142, ?y142⟩) (by assumption) ?r142; (case' a142 => (simp only [List.getElem?_toArray, List.getElem?_cons_zero, List.getElem?_cons_succ]; rfl)); (case' q142 => (exact fun _ _ _ h => h)); (case' g142 => rfl); (case' y142 => (intro w hSw; (try dsimp only at hSw); go_simp; try with_reducible rfl)); (case' r142 => (try simp only [Act.put, List.setIfInBounds_toArray, List.set_cons_zero, List.set_cons_succ]))
          refine wpAnyH_take (i := 28) (oi := ?o143) (v := ?v143) ?a143 (by as_aux_lemma => kernel_rfl) (by as_aux_lemma => kernel_rfl) (by as_aux_lemma => kernel_rfl) ?q143 (Or.inl ⟨?g143, ?y143⟩) (by assumption) ?r143; (case' a143 => (simp only [List.getElem?_toArray, List.getElem?_cons_zero, List.getElem?_cons_succ]; rfl)); (case' q143 => (exact fun _ _ _ h => h)); (case' g143 => rfl); (case' y143 => (intro w hSw; (try dsimp only at hSw); go_simp; try with_reducible rfl)); (case' r143 => (try simp only [Act.put, List.setIfInBounds_toArray, List.set_cons_zero, List.set_cons_succ]))
          refine wpAnyH_take (i := 29) (oi := ?o144) (v := ?v144) ?a144 (by as_aux_lemma => kernel_rfl) (by as_aux_lemma => kernel_rfl) (by as_aux_lemma => kernel_rfl) ?q144 (Or.inl ⟨?g144, ?y144⟩) (by assumption) ?r144; (case' a144 => (simp only [List.getElem?_toArray, List.getElem?_cons_zero, List.getElem?_cons_succ]; rfl)); (case' q144 => (exact fun _ _ _ h => h)); (case' g144 => rfl); (case' y144 => (intro w hSw; (try dsimp only at hSw); go_simp; try with_reducible rfl)); (case' r144 => (try simp only [Act.put, List.setIfInBounds_toArray, List.set_cons_zero, List.set_cons_succ]))
          refine wpAnyH_take (i := 31) (oi := ?o145) (v := ?v145) ?a145 (by as_aux_lemma => kernel_rfl) (by as_aux_lemma => kernel_rfl) (by as_aux_lemma => kernel_rfl) ?q145 (Or.inl ⟨?g145, ?y145⟩) (by assumption) ?r145; (case' a145 => (simp only [List.getElem?_toArray, List.getElem?_cons_zero, List.getElem?_cons_succ]; rfl)); (case' q145 => (exact fun _ _ _ h => h)); (case' g145 => rfl); (case' y145 => (intro w hSw; (try dsimp only at hSw); go_simp; try with_reducible rfl)); (case' r145 => (try simp only [Act.put, List.setIfInBounds_toArray, List.set_cons_zero, List.set_cons_succ]))
          refine wpAnyH_take (i := 32) (oi := ?o146) (v := ?v146) ?a146 (by as_aux_lemma => kernel_rfl) (by as_aux_lemma => kernel_rfl) (by as_aux_lemma => kernel_rfl) ?q146 (Or.inl ⟨?g146, ?y146⟩) (by assumption) ?r146; (case' a146 => (simp only [List.getElem?_toArray, List.getElem?_cons_zero, List.getElem?_cons_succ]; rfl)); (case' q146 => (exact fun _ _ _ h => h)); (case' g146 => rfl); (case' y146 => (intro w hSw; (try dsimp only at hSw); go_simp; try with_reducible rfl)); (case' r146 => (try simp only [Act.put, List.setIfInBounds_toArray, List.set_cons_zero, List.set_cons_succ]))
          refine wpAnyH_take (i := 33) (oi := ?o147) (v := ?v147) ?a147 (by as_aux_lemma => kernel_rfl) (by as_aux_lemma => kernel_rfl) (by as_aux_lemma => kernel_rfl) ?q147 (Or.inl ⟨?g147, ?y147⟩) (by assumption) ?r147; (case' a147 => (simp only [List.getElem?_toArray, List.getElem?_cons_zero, List.getElem?_cons_succ]; rfl)); (case' q147 => (exact fun _ _ _ h => h)); (case' g147 => rfl); (case' y147 => (intro w hSw; (try dsimp only at hSw); go_simp; try with_reducible rfl)); (case' r147 => (try simp only [Act.put, List.setIfInBounds_toArray, List.set_cons_zero, List.set_cons_succ]))
          refine wpAnyH_ready (rs := [30, 34]) (by as_aux_lemma => kernel_rfl) (by simp) ?_
          refine AllReadyH.cons (o := ?o148) ?a148 (fun K hK => ?s148) ?m148; (case' a148 => (simp only [List.getElem?_toArray, List.getElem?_cons_zero, List.getElem?_cons_succ]; rfl))
          case s148 =>
            go_simp
            refine hK.out _ _ (keep8 hHeld (one_box' _)) (fun hHeld => ?_)
            clear hK K
            (try simp only [Act.put, List.setIfInBounds_toArray, List.set_cons_zero, List.set_cons_succ])
            refine wpAnyH_ready (rs := [34]) (by as_aux_lemma => kernel_rfl) (by simp) ?_
            refine AllReadyH.cons (o := ?o149) ?a149 (fun K hK => ?s149) ?m149; (case' a149 => (simp only [List.getElem?_toArray, List.getElem?_cons_zero, List.getElem?_cons_succ]; rfl))
            case s149 =>
              go_simp
              refine hK.out _ _ (keep8 hHeld (one_box' _)) (fun hHeld => ?_)
              clear hK K
              (try simp only [Act.put, List.setIfInBounds_toArray, List.set_cons_zero, List.set_cons_succ])
              refine wpAnyH_ready (rs := [35]) (by as_aux_lemma => kernel_rfl) (by simp) ?_
              refine AllReadyH.cons (o := ?o150) ?a150 (fun K hK => ?s150) ?m150; (case' a150 => (simp only [List.getElem?_toArray, List.getElem?_cons_zero, List.getElem?_cons_succ]; rfl))
              case s150 =>
                go_simp
                refine hK.out _ _ (keep8 hHeld (one_box' _)) (fun hHeld => ?_)
                clear hK K
                (try simp only [Act.put, List.setIfInBounds_toArray, List.set_cons_zero, List.set_cons_succ])
                refine wpAnyH_ready (rs := [36]) (by as_aux_lemma => kernel_rfl) (by simp) ?_
                refine AllReadyH.cons (o := ?o151) ?a151 (fun K hK => ?s151) ?m151; (case' a151 => (simp only [List.getElem?_toArray, List.getElem?_cons_zero, List.getElem?_cons_succ]; rfl))
                case s151 =>
                  go_simp
                  go_at_call 11
                  refine (rsame_is _ w2.heap.size 0 A3 _ 2 2 c3 2 _ _ true (Lib.hid ((HR6.out.below hHeld.2).mono hHeld.2.size)) (Lib.hid (readsL_two (three_a wa _ _ _).2.2.1 (three_a wa _ _ _).1 (three_a wa _ _ _).2.1 (la := [⟨tT, 0⟩, ⟨tT, 2⟩]) (lb := [⟨tT, 1⟩]) rfl rfl (by simp; try omega) (by simp; try omega) rfl rfl)) (Lib.hid rfl) (Lib.hid rfl) (by decide) (Lib.hid (by decide)) (Lib.hid (by simp))).mono ?_
                  rintro e wb ⟨rfl, hbn⟩
                  go_wp2_with fail
                  refine hK.out _ _ (keep8 hHeld hbn) (fun hHeld => ?_)
                  clear hK K
                  (try simp only [Act.put, List.setIfInBounds_toArray, List.set_cons_zero, List.set_cons_succ])
                  refine wpAnyH_take (i := 37) (oi := ?o152) (v := ?v152) ?a152 (by as_aux_lemma => kernel_rfl) (by as_aux_lemma => kernel_rfl) (by as_aux_lemma => kernel_rfl) ?q152 (Or.inl ⟨?g152, ?y152⟩) (by assumption) ?r152; (case' a152 => (simp only [List.getElem?_toArray, List.getElem?_cons_zero, List.getElem?_cons_succ]; rfl)); (case' q152 => (exact fun _ _ _ h => h)); (case' g152 => rfl); (case' y152 => (intro w hSw; (try dsimp only at hSw); go_simp; try with_reducible rfl)); (case' r152 => (try simp only [Act.put, List.setIfInBounds_toArray, List.set_cons_zero, List.set_cons_succ]))
                  refine wpAnyH_take (i := 38) (oi := ?o153) (v := ?v153) ?a153 (by as_aux_lemma => kernel_rfl) (by as_aux_lemma => kernel_rfl) (by as_aux_lemma => kernel_rfl) ?q153 (Or.inl ⟨?g153, ?y153⟩) (by assumption) ?r153; (case' a153 => (simp only [List.getElem?_toArray, List.getElem?_cons_zero, List.getElem?_cons_succ]; rfl)); (case' q153 => (exact fun _ _ _ h => h)); (case' g153 => rfl); (case' y153 => (intro w hSw; (try dsimp only at hSw); go_simp; try with_reducible rfl)); (case' r153 => (try simp only [Act.put, List.setIfInBounds_toArray, List.set_cons_zero, List.set_cons_succ]))
                  refine wpAnyH_take (i := 39) (oi := ?o154) (v := ?v154) ?a154 (by as_aux_lemma => kernel_rfl) (by as_aux_lemma => kernel_rfl) (by as_aux_lemma => kernel_rfl) ?q154 (Or.inl ⟨?g154, ?y154⟩) (by assumption) ?r154; (case' a154 => (simp only [List.getElem?_toArray, List.getElem?_cons_zero, List.getElem?_cons_succ]; rfl)); (case' q154 => (exact fun _ _ _ h => h)); (case' g154 => rfl); (case' y154 => (intro w hSw; (try dsimp only at hSw); go_simp; try with_reducible rfl)); (case' r154 => (try simp only [Act.put, List.setIfInBounds_toArray, List.set_cons_zero, List.set_cons_succ]))
                  refine wpAnyH_take (i := 40) (oi := ?o155) (v := ?v155) ?a155 (by as_aux_lemma => kernel_rfl) (by as_aux_lemma => kernel_rfl) (by as_aux_lemma => kernel_rfl) ?q155 (Or.inl ⟨?g155, ?y155⟩) (by assumption) ?r155; (case' a155 => (simp only [List.getElem?_toArray, List.getElem?_cons_zero, List.getElem?_cons_succ]; rfl)); (case' q155 => (exact fun _ _ _ h => h)); (case' g155 => rfl); (case' y155 => (intro w hSw; (try dsimp only at hSw); go_simp; try with_reducible rfl)); (case' r155 => (try simp only [Act.put, List.setIfInBounds_toArray, List.set_cons_zero, List.set_cons_succ]))
                  refine wpAnyH_take (i := 41) (oi := ?o156) (v := ?v156) ?a156 (by as_aux_lemma => kernel_rfl) (by as_aux_lemma => kernel_rfl) (by as_aux_lemma => kernel_rfl) ?q156 (Or.inl ⟨?g156, ?y156⟩) (by assumption) ?r156; (case' a156 => (simp only [List.getElem?_toArray, List.getElem?_cons_zero, List.getElem?_cons_succ]; rfl)); (case' q156 => (exact fun _ _ _ h => h)); (case' g156 => rfl); (case' y156 => (intro w hSw; (try dsimp only at hSw); go_simp; try with_reducible rfl)); (case' r156 => (try simp only [Act.put, List.setIfInBounds_toArray, List.set_cons_zero, List.set_cons_succ]))
                  refine wpAnyH_take (i := 42) (oi := ?o157) (v := ?v157) ?a157 (by as_aux_lemma => kernel_rfl) (by as_aux_lemma => kernel_rfl) (by as_aux_lemma => kernel_rfl) ?q157 (Or.inl ⟨?g157, ?y157⟩) (by assumption) ?r157; (case' a157 => (simp only [List.getElem?_toArray, List.getElem?_cons_zero, List.getElem?_cons_succ]; rfl)); (case' q157 => (exact fun _ _ _ h => h)); (case' g157 => rfl); (case' y157 => (intro w hSw; (try dsimp only at hSw); go_simp; try with_reducible rfl)); (case' r157 => (try simp only [Act.put, List.setIfInBounds_toArray, List.set_cons_zero, List.set_cons_succ]))
                  refine wpAnyH_take (i := 43) (oi := ?o158) (v := ?v158) ?a158 (by as_aux_lemma => kernel_rfl) (by as_aux_lemma => kernel_rfl) (by as_aux_lemma => kernel_rfl) ?q158 (Or.inl ⟨?g158, ?y158⟩) (by assumption) ?r158; (case' a158 => (simp only [List.getElem?_toArray, List.getElem?_cons_zero, List.getElem?_cons_succ]; rfl)); (case' q158 => (exact fun _ _ _ h => h)); (case' g158 => rfl); (case' y158 => (intro w hSw; (try dsimp only at hSw); go_simp; try with_reducible rfl)); (case' r158 => (try simp only [Act.put, List.setIfInBounds_toArray, List.set_cons_zero, List.set_cons_succ]))
                  refine wpAnyH_take (i := 44) (oi := ?o159) (v := ?v159) ?a159 (by as_aux_lemma => kernel_rfl) (by as_aux_lemma => kernel_rfl) (by as_aux_lemma => kernel_rfl) ?q159 (Or.inl ⟨?g159, ?y159⟩) (by assumption) ?r159; (case' a159 => (simp only [List.getElem?_toArray, List.getElem?_cons_zero, List.getElem?_cons_succ]; rfl)); (case' q159 => (exact fun _ _ _ h => h)); (case' g159 => rfl); (case' y159 => (intro w hSw; (try dsimp only at hSw); go_simp; try with_reducible rfl)); (case' r159 => (try simp only [Act.put, List.setIfInBounds_toArray, List.set_cons_zero, List.set_cons_succ]))
                  refine wpAnyH_take (i := 45) (oi := ?o160) (v := ?v160) ?a160 (by as_aux_lemma => kernel_rfl) (by as_aux_lemma => kernel_rfl) (by as_aux_lemma => kernel_rfl) ?q160 (Or.inl ⟨?g160, ?y160⟩) (by assumption) ?r160; (case' a160 => (simp only [List.getElem?_toArray, List.getElem?_cons_zero, List.getElem?_cons_succ]; rfl)); (case' q160 => (exact fun _ _ _ h => h)); (case' g160 => rfl); (case' y160 => (intro w hSw; (try dsimp only at hSw); go_simp; try with_reducible rfl)); (case' r160 => (try simp only [Act.put, List.setIfInBounds_toArray, List.set_cons_zero, List.set_cons_succ]))
                  refine wpAnyH_take (i := 46) (oi := ?o161) (v := ?v161) ?a161 (by as_aux_lemma => kernel_rfl) (by as_aux_lemma => kernel_rfl) (by as_aux_lemma => kernel_rfl) ?q161 (Or.inl ⟨?g161, ?y161⟩) (by assumption) ?r161; (case' a161 => (simp only [List.getElem?_toArray, List.getElem?_cons_zero, List.getElem?_cons_succ]; rfl)); (case' q161 => (exact fun _ _ _ h => h)); (case' g161 => rfl); (case' y161 => (intro w hSw; (try dsimp only at hSw); go_simp; try with_reducible rfl)); (case' r161 => (try simp only [Act.put, List.setIfInBounds_toArray, List.set_cons_zero, List.set_cons_succ]))
                  refine wpAnyH_take (i := 47) (oi := ?o162) (v := ?v162) ?a162 (by as_aux_lemma => kernel_rfl) (by as_aux_lemma => kernel_rfl) (by as_aux_lemma => kernel_rfl) ?q162 (Or.inl ⟨?g162, ?y162⟩) (by assumption) ?r162; (case' a162 => (simp only [List.getElem?_toArray, List.getElem?_cons_zero, List.getElem?_cons_succ]; rfl)); (case' q162 => (exact fun _ _ _ h => h)); (case' g162 => rfl); (case' y162 => (intro w hSw; (try dsimp only at hSw); go_simp; try with_reducible rfl)); (case' r162 => (try simp only [Act.put, List.setIfInBounds_toArray, List.set_cons_zero, List.set_cons_succ]))
                  refine wpAnyH_take (i := 48) (oi := ?o163) (v := ?v163) ?a163 (by as_aux_lemma => kernel_rfl) (by as_aux_lemma => kernel_rfl) (by as_aux_lemma => kernel_rfl) ?q163 (Or.inl ⟨?g163, ?y163⟩) (by assumption) ?r163; (case' a163 => (simp only [List.getElem?_toArray, List.getElem?_cons_zero, List.getElem?_cons_succ]; rfl)); (case' q163 => (exact fun _ _ _ h => h)); (case' g163 => rfl); (case' y163 => (intro w hSw; (try dsimp only at hSw); go_simp; try with_reducible rfl)); (case' r163 => (try simp only [Act.put, List.setIfInBounds_toArray, List.set_cons_zero, List.set_cons_succ]))
                  refine wpAnyH_take (i := 49) (oi := ?o164) (v := ?v164) ?a164 (by as_aux_lemma => kernel_rfl) (by as_aux_lemma => kernel_rfl) (by as_aux_lemma => kernel_rfl) ?q164 (Or.inl ⟨?g164, ?y164⟩) (by assumption) ?r164; (case' a164 => (simp only [List.getElem?_toArray, List.getElem?_cons_zero, List.getElem?_cons_succ]; rfl)); (case' q164 => (exact fun _ _ _ h => h)); (case' g164 => rfl); (case' y164 => (intro w hSw; (try dsimp only at hSw); go_simp; try with_reducible rfl)); (case' r164 => (try simp only [Act.put, List.setIfInBounds_toArray, List.set_cons_zero, List.set_cons_succ]))
                  refine wpAnyH_take (i := 50) (oi := ?o165) (v := ?v165) ?a165 (by as_aux_lemma => kernel_rfl) (by as_aux_lemma => kernel_rfl) (by as_aux_lemma => kernel_rfl) ?q165 (Or.inl ⟨?g165, ?y165⟩) (by assumption) ?r165; (case' a165 => (simp only [List.getElem?_toArray, List.getElem?_cons_zero, List.getElem?_cons_succ]; rfl)); (case' q165 => (exact fun _ _ _ h => h)); (case' g165 => rfl); (case' y165 => (intro w hSw; (try dsimp only at hSw); go_simp; try with_reducible rfl)); (case' r165 => (try simp only [Act.put, List.setIfInBounds_toArray, List.set_cons_zero, List.set_cons_succ]))
                  refine wpAnyH_ready (rs := [51]) (by as_aux_lemma => kernel_rfl) (by simp) ?_
                  refine AllReadyH.cons (o := ?o166) ?a166 (fun K hK => ?s166) ?m166; (case' a166 => (simp only [List.getElem?_toArray, List.getElem?_cons_zero, List.getElem?_cons_succ]; rfl))
                  case s166 =>
                    go_simp
                    go_at_call 12
                    refine (whose_is _ w2.heap.size A3 2 c3 _ tT 1 1 (Lib.hid ((HR6.out.below hHeld.2).mono hHeld.2.size)) (Lib.hid rfl) (by decide) (Lib.hid (by decide)) (Lib.hid who_yes)).mono ?_
                    rintro e wu ⟨rfl, hbn⟩
                    go_wp2_with fail
                    refine hK.out _ _ (keep8 hHeld hbn) (fun hHeld => ?_)
                    clear hK K
                    (try simp only [Act.put, List.setIfInBounds_toArray, List.set_cons_zero, List.set_cons_succ])
                    refine wpAnyH_take (i := 52) (oi := ?o167) (v := ?v167) ?a167 (by as_aux_lemma => kernel_rfl) (by as_aux_lemma => kernel_rfl) (by as_aux_lemma => kernel_rfl) ?q167 (Or.inl ⟨?g167, ?y167⟩) (by assumption) ?r167; (case' a167 => (simp only [List.getElem?_toArray, List.getElem?_cons_zero, List.getElem?_cons_succ]; rfl)); (case' q167 => (exact fun _ _ _ h => h)); (case' g167 => rfl); (case' y167 => (intro w hSw; (try dsimp only at hSw); go_simp; try with_reducible rfl)); (case' r167 => (try simp only [Act.put, List.setIfInBounds_toArray, List.set_cons_zero, List.set_cons_succ]))
                    refine wpAnyH_take (i := 53) (oi := ?o168) (v := ?v168) ?a168 (by as_aux_lemma => kernel_rfl) (by as_aux_lemma => kernel_rfl) (by as_aux_lemma => kernel_rfl) ?q168 (Or.inl ⟨?g168, ?y168⟩) (by assumption) ?r168; (case' a168 => (simp only [List.getElem?_toArray, List.getElem?_cons_zero, List.getElem?_cons_succ]; rfl)); (case' q168 => (exact fun _ _ _ h => h)); (case' g168 => rfl); (case' y168 => (intro w hSw; (try dsimp only at hSw); go_simp; try with_reducible rfl)); (case' r168 => (try simp only [Act.put, List.setIfInBounds_toArray, List.set_cons_zero, List.set_cons_succ]))
                    refine wpAnyH_take (i := 54) (oi := ?o169) (v := ?v169) ?a169 (by as_aux_lemma => kernel_rfl) (by as_aux_lemma => kernel_rfl) (by as_aux_lemma => kernel_rfl) ?q169 (Or.inl ⟨?g169, ?y169⟩) (by assumption) ?r169; (case' a169 => (simp only [List.getElem?_toArray, List.getElem?_cons_zero, List.getElem?_cons_succ]; rfl)); (case' q169 => (exact fun _ _ _ h => h)); (case' g169 => rfl); (case' y169 => (intro w hSw; (try dsimp only at hSw); go_simp; try with_reducible rfl)); (case' r169 => (try simp only [Act.put, List.setIfInBounds_toArray, List.set_cons_zero, List.set_cons_succ]))
                    refine wpAnyH_take (i := 55) (oi := ?o170) (v := ?v170) ?a170 (by as_aux_lemma => kernel_rfl) (by as_aux_lemma => kernel_rfl) (by as_aux_lemma => kernel_rfl) ?q170 (Or.inl ⟨?g170, ?y170⟩) (by assumption) ?r170; (case' a170 => (simp only [List.getElem?_toArray, List.getElem?_cons_zero, List.getElem?_cons_succ]; rfl)); (case' q170 => (exact fun _ _ _ h => h)); (case' g170 => rfl); (case' y170 => (intro w hSw; (try dsimp only at hSw); go_simp; try with_reducible rfl)); (case' r170 => (try simp only [Act.put, List.setIfInBounds_toArray, List.set_cons_zero, List.set_cons_succ]))
                    refine wpAnyH_take (i := 56) (oi := ?o171) (v := ?v171) ?a171 (by as_aux_lemma => kernel_rfl) (by as_aux_lemma => kernel_rfl) (by as_aux_lemma => kernel_rfl) ?q171 (Or.inl ⟨?g171, ?y171⟩) (by assumption) ?r171; (case' a171 => (simp only [List.getElem?_toArray, List.getElem?_cons_zero, List.getElem?_cons_succ]; rfl)); (case' q171 => (exact fun _ _ _ h => h)); (case' g171 => rfl); (case' y171 => (intro w hSw; (try dsimp only at hSw); go_simp; try with_reducible rfl)); (case' r171 => (try simp only [Act.put, List.setIfInBounds_toArray, List.set_cons_zero, List.set_cons_succ]))
                    refine wpAnyH_ready (rs := [57]) (by as_aux_lemma => kernel_rfl) (by simp) ?_
                    refine AllReadyH.cons (o := ?o172) ?a172 (fun K hK => ?s172) ?m172; (case' a172 => (simp only [List.getElem?_toArray, List.getElem?_cons_zero, List.getElem?_cons_succ]; rfl))
                    case s172 =>
                      go_simp
                      go_at_call 12
                      refine (whose_is _ w2.heap.size A3 2 c3 _ ⟨#[117]⟩ 0 (-1) (Lib.hid ((HR6.out.below hHeld.2).mono hHeld.2.size)) (Lib.hid rfl) (by decide) (Lib.hid (by decide)) (Lib.hid who_no)).mono ?_
                      rintro e wv ⟨rfl, hbn⟩
                      go_wp2_with fail
                      refine hK.out _ _ (keep8 hHeld hbn) (fun hHeld => ?_)
                      clear hK K
                      (try simp only [Act.put, List.setIfInBounds_toArray, List.set_cons_zero, List.set_cons_succ])
                      refine wpAnyH_take (i := 58) (oi := ?o173) (v := ?v173) ?a173 (by as_aux_lemma => kernel_rfl) (by as_aux_lemma => kernel_rfl) (by as_aux_lemma => kernel_rfl) ?q173 (Or.inl ⟨?g173, ?y173⟩) (by assumption) ?r173; (case' a173 => (simp only [List.getElem?_toArray, List.getElem?_cons_zero, List.getElem?_cons_succ]; rfl)); (case' q173 => (exact fun _ _ _ h => h)); (case' g173 => rfl); (case' y173 => (intro w hSw; (try dsimp only at hSw); go_simp; try with_reducible rfl)); (case' r173 => (try simp only [Act.put, List.setIfInBounds_toArray, List.set_cons_zero, List.set_cons_succ]))
                      refine wpAnyH_take (i := 59) (oi := ?o174) (v := ?v174) ?a174 (by as_aux_lemma => kernel_rfl) (by as_aux_lemma => kernel_rfl) (by as_aux_lemma => kernel_rfl) ?q174 (Or.inl ⟨?g174, ?y174⟩) (by assumption) ?r174; (case' a174 => (simp only [List.getElem?_toArray, List.getElem?_cons_zero, List.getElem?_cons_succ]; rfl)); (case' q174 => (exact fun _ _ _ h => h)); (case' g174 => rfl); (case' y174 => (intro w hSw; (try dsimp only at hSw); go_simp; try with_reducible rfl)); (case' r174 => (try simp only [Act.put, List.setIfInBounds_toArray, List.set_cons_zero, List.set_cons_succ]))
                      refine wpAnyH_take (i := 60) (oi := ?o175) (v := ?v175) ?a175 (by as_aux_lemma => kernel_rfl) (by as_aux_lemma => kernel_rfl) (by as_aux_lemma => kernel_rfl) ?q175 (Or.inl ⟨?g175, ?y175⟩) (by assumption) ?r175; (case' a175 => (simp only [List.getElem?_toArray, List.getElem?_cons_zero, List.getElem?_cons_succ]; rfl)); (case' q175 => (exact fun _ _ _ h => h)); (case' g175 => rfl); (case' y175 => (intro w hSw; (try dsimp only at hSw); go_simp; try with_reducible rfl)); (case' r175 => (try simp only [Act.put, List.setIfInBounds_toArray, List.set_cons_zero, List.set_cons_succ]))
                      refine wpAnyH_take (i := 61) (oi := ?o176) (v := ?v176) ?a176 (by as_aux_lemma => kernel_rfl) (by as_aux_lemma => kernel_rfl) (by as_aux_lemma => kernel_rfl) ?q176 (Or.inl ⟨?g176, ?y176⟩) (by assumption) ?r176; (case' a176 => (simp only [List.getElem?_toArray, List.getElem?_cons_zero, List.getElem?_cons_succ]; rfl)); (case' q176 => (exact fun _ _ _ h => h)); (case' g176 => rfl); (case' y176 => (intro w hSw; (try dsimp only at hSw); go_simp; try with_reducible rfl)); (case' r176 => (try simp only [Act.put, List.setIfInBounds_toArray, List.set_cons_zero, List.set_cons_succ]))
                      refine wpAnyH_take (i := 62) (oi := ?o177) (v := ?v177) ?a177 (by as_aux_lemma => kernel_rfl) (by as_aux_lemma => kernel_rfl) (by as_aux_lemma => kernel_rfl) ?q177 (Or.inl ⟨?g177, ?y177⟩) (by assumption) ?r177; (case' a177 => (simp only [List.getElem?_toArray, List.getElem?_cons_zero, List.getElem?_cons_succ]; rfl)); (case' q177 => (exact fun _ _ _ h => h)); (case' g177 => rfl); (case' y177 => (intro w hSw; (try dsimp only at hSw); go_simp; try with_reducible rfl)); (case' r177 => (try simp only [Act.put, List.setIfInBounds_toArray, List.set_cons_zero, List.set_cons_succ]))
                      refine wpAnyH_take (i := 63) (oi := ?o178) (v := ?v178) ?a178 (by as_aux_lemma => kernel_rfl) (by as_aux_lemma => kernel_rfl) (by as_aux_lemma => kernel_rfl) ?q178 (Or.inl ⟨?g178, ?y178⟩) (by assumption) ?r178; (case' a178 => (simp only [List.getElem?_toArray, List.getElem?_cons_zero, List.getElem?_cons_succ]; rfl)); (case' q178 => (exact fun _ _ _ h => h)); (case' g178 => rfl); (case' y178 => (intro w hSw; (try dsimp only at hSw); go_simp; try with_reducible rfl)); (case' r178 => (try simp only [Act.put, List.setIfInBounds_toArray, List.set_cons_zero, List.set_cons_succ]))
                      refine wpAnyH_ready (rs := [64]) (by as_aux_lemma => kernel_rfl) (by simp) ?_
                      refine AllReadyH.cons (o := ?o179) ?a179 (fun K hK => ?s179) ?m179; (case' a179 => (simp only [List.getElem?_toArray, List.getElem?_cons_zero, List.getElem?_cons_succ]; rfl))
                      case s179 =>
                        go_simp
                        go_at_call 14
                        refine (wants_is mM tT [tT] (some ⟨ga, 0, none⟩) ca 1 w6.heap.size true _ (Lib.hid (HT6.out.below hHeld.2)) hHeld.2.size (Lib.hid rfl) (by decide) (Lib.hid (by decide))).mono ?_
                        rintro e wx ⟨rfl, hbn⟩
                        go_wp2_with fail
                        refine hK.out _ _ (keep8 hHeld hbn) (fun hHeld => ?_)
                        clear hK K
                        (try simp only [Act.put, List.setIfInBounds_toArray, List.set_cons_zero, List.set_cons_succ])
                        refine wpAnyH_take (i := 65) (oi := ?o180) (v := ?v180) ?a180 (by as_aux_lemma => kernel_rfl) (by as_aux_lemma => kernel_rfl) (by as_aux_lemma => kernel_rfl) ?q180 (Or.inl ⟨?g180, ?y180⟩) (by assumption) ?r180; (case' a180 => (simp only [List.getElem?_toArray, List.getElem?_cons_zero, List.getElem?_cons_succ]; rfl)); (case' q180 => (exact fun _ _ _ h => h)); (case' g180 => rfl); (case' y180 => (intro w hSw; (try dsimp only at hSw); go_simp; try with_reducible rfl)); (case' r180 => (try simp only [Act.put, List.setIfInBounds_toArray, List.set_cons_zero, List.set_cons_succ]))
                        refine wpAnyH_take (i := 66) (oi := ?o181) (v := ?v181) ?a181 (by as_aux_lemma => kernel_rfl) (by as_aux_lemma => kernel_rfl) (by as_aux_lemma => kernel_rfl) ?q181 (Or.inl ⟨?g181, ?y181⟩) (by assumption) ?r181; (case' a181 => (simp only [List.getElem?_toArray, List.getElem?_cons_zero, List.getElem?_cons_succ]; rfl)); (case' q181 => (exact fun _ _ _ h => h)); (case' g181 => rfl); (case' y181 => (intro w hSw; (try dsimp only at hSw); go_simp; try with_reducible rfl)); (case' r181 => (try simp only [Act.put, List.setIfInBounds_toArray, List.set_cons_zero, List.set_cons_succ]))
                        refine wpAnyH_take (i := 67) (oi := ?o182) (v := ?v182) ?a182 (by as_aux_lemma => kernel_rfl) (by as_aux_lemma => kernel_rfl) (by as_aux_lemma => kernel_rfl) ?q182 (Or.inl ⟨?g182, ?y182⟩) (by assumption) ?r182; (case' a182 => (simp only [List.getElem?_toArray, List.getElem?_cons_zero, List.getElem?_cons_succ]; rfl)); (case' q182 => (exact fun _ _ _ h => h)); (case' g182 => rfl); (case' y182 => (intro w hSw; (try dsimp only at hSw); go_simp; try with_reducible rfl)); (case' r182 => (try simp only [Act.put, List.setIfInBounds_toArray, List.set_cons_zero, List.set_cons_succ]))
                        refine wpAnyH_take (i := 68) (oi := ?o183) (v := ?v183) ?a183 (by as_aux_lemma => kernel_rfl) (by as_aux_lemma => kernel_rfl) (by as_aux_lemma => kernel_rfl) ?q183 (Or.inl ⟨?g183, ?y183⟩) (by assumption) ?r183; (case' a183 => (simp only [List.getElem?_toArray, List.getElem?_cons_zero, List.getElem?_cons_succ]; rfl)); (case' q183 => (exact fun _ _ _ h => h)); (case' g183 => rfl); (case' y183 => (intro w hSw; (try dsimp only at hSw); go_simp; try with_reducible rfl)); (case' r183 => (try simp only [Act.put, List.setIfInBounds_toArray, List.set_cons_zero, List.set_cons_succ]))
                        refine wpAnyH_take (i := 69) (oi := ?o184) (v := ?v184) ?a184 (by as_aux_lemma => kernel_rfl) (by as_aux_lemma => kernel_rfl) (by as_aux_lemma => kernel_rfl) ?q184 (Or.inl ⟨?g184, ?y184⟩) (by assumption) ?r184; (case' a184 => (simp only [List.getElem?_toArray, List.getElem?_cons_zero, List.getElem?_cons_succ]; rfl)); (case' q184 => (exact fun _ _ _ h => h)); (case' g184 => rfl); (case' y184 => (intro w hSw; (try dsimp only at hSw); go_simp; try with_reducible rfl)); (case' r184 => (try simp only [Act.put, List.setIfInBounds_toArray, List.set_cons_zero, List.set_cons_succ]))
                        refine wpAnyH_ready (rs := [70]) (by as_aux_lemma => kernel_rfl) (by simp) ?_
                        refine AllReadyH.cons (o := ?o185) ?a185 (fun K hK => ?s185) ?m185; (case' a185 => (simp only [List.getElem?_toArray, List.getElem?_cons_zero, List.getElem?_cons_succ]; rfl))
                        case s185 =>
                          go_simp
                          go_at_call 14
                          refine (wants_is mM ⟨#[117]⟩ [tT] (some ⟨ga, 0, none⟩) ca 1 w6.heap.size false _ (Lib.hid (HT6.out.below hHeld.2)) hHeld.2.size (Lib.hid rfl) (by decide) (Lib.hid (by decide))).mono ?_
                          rintro e wy ⟨rfl, hbn⟩
                          go_wp2_with fail
                          refine hK.out _ _ (keep8 hHeld hbn) (fun hHeld => ?_)
                          clear hK K
                          (try simp only [Act.put, List.setIfInBounds_toArray, List.set_cons_zero, List.set_cons_succ])
                          refine wpAnyH_take (i := 71) (oi := ?o186) (v := ?v186) ?a186 (by as_aux_lemma => kernel_rfl) (by as_aux_lemma => kernel_rfl) (by as_aux_lemma => kernel_rfl) ?q186 (Or.inl ⟨?g186, ?y186⟩) (by assumption) ?r186; (case' a186 => (simp only [List.getElem?_toArray, List.getElem?_cons_zero, List.getElem?_cons_succ]; rfl)); (case' q186 => (exact fun _ _ _ h => h)); (case' g186 => rfl); (case' y186 => (intro w hSw; (try dsimp only at hSw); go_simp; try with_reducible rfl)); (case' r186 => (try simp only [Act.put, List.setIfInBounds_toArray, List.set_cons_zero, List.set_cons_succ]))
                          refine wpAnyH_take (i := 72) (oi := ?o187) (v := ?v187) ?a187 (by as_aux_lemma => kernel_rfl) (by as_aux_lemma => kernel_rfl) (by as_aux_lemma => kernel_rfl) ?q187 (Or.inl ⟨?g187, ?y187⟩) (by assumption) ?r187; (case' a187 => (simp only [List.getElem?_toArray, List.getElem?_cons_zero, List.getElem?_cons_succ]; rfl)); (case' q187 => (exact fun _ _ _ h => h)); (case' g187 => rfl); (case' y187 => (intro w hSw; (try dsimp only at hSw); go_simp; try with_reducible rfl)); (case' r187 => (try simp only [Act.put, List.setIfInBounds_toArray, List.set_cons_zero, List.set_cons_succ]))
                          refine wpAnyH_take (i := 73) (oi := ?o188) (v := ?v188) ?a188 (by as_aux_lemma => kernel_rfl) (by as_aux_lemma => kernel_rfl) (by as_aux_lemma => kernel_rfl) ?q188 (Or.inl ⟨?g188, ?y188⟩) (by assumption) ?r188; (case' a188 => (simp only [List.getElem?_toArray, List.getElem?_cons_zero, List.getElem?_cons_succ]; rfl)); (case' q188 => (exact fun _ _ _ h => h)); (case' g188 => rfl); (case' y188 => (intro w hSw; (try dsimp only at hSw); go_simp; try with_reducible rfl)); (case' r188 => (try simp only [Act.put, List.setIfInBounds_toArray, List.set_cons_zero, List.set_cons_succ]))
                          refine wpAnyH_take (i := 74) (oi := ?o189) (v := ?v189) ?a189 (by as_aux_lemma => kernel_rfl) (by as_aux_lemma => kernel_rfl) (by as_aux_lemma => kernel_rfl) ?q189 (Or.inl ⟨?g189, ?y189⟩) (by assumption) ?r189; (case' a189 => (simp only [List.getElem?_toArray, List.getElem?_cons_zero, List.getElem?_cons_succ]; rfl)); (case' q189 => (exact fun _ _ _ h => h)); (case' g189 => rfl); (case' y189 => (intro w hSw; (try dsimp only at hSw); go_simp; try with_reducible rfl)); (case' r189 => (try simp only [Act.put, List.setIfInBounds_toArray, List.set_cons_zero, List.set_cons_succ]))
                          refine wpAnyH_ready (rs := [75]) (by as_aux_lemma => kernel_rfl) (by simp) ?_
                          refine AllReadyH.cons (o := ?o190) ?a190 (fun K hK => ?s190) ?m190; (case' a190 => (simp only [List.getElem?_toArray, List.getElem?_cons_zero, List.getElem?_cons_succ]; rfl))
                          case s190 =>
                            go_simp
                            refine hK.out _ _ (keep8 hHeld (one_box' _)) (fun hHeld => ?_)
                            clear hK K
                            (try simp only [Act.put, List.setIfInBounds_toArray, List.set_cons_zero, List.set_cons_succ])
                            refine wpAnyH_ready (rs := [76]) (by as_aux_lemma => kernel_rfl) (by simp) ?_
                            refine AllReadyH.cons (o := ?o191) ?a191 (fun K hK => ?s191) ?m191; (case' a191 => (simp only [List.getElem?_toArray, List.getElem?_cons_zero, List.getElem?_cons_succ]; rfl))
                            case s191 =>
                              go_simp
                              go_at_call 10
                              refine (check_is _ _ _ 1 1 9 9 l3 m9 2 (Lib.hid (HL6.out.up (Nat.le_refl _) hHeld.2)) (Lib.hid (isM_nine (heap_alloc_new _ _))) C9).mono ?_
                              rintro e wz ⟨rfl, hbn⟩
                              go_wp2_with fail
                              refine hK.out _ _ (keep8 hHeld hbn) (fun hHeld => ?_)
                              clear hK K
                              (try simp only [Act.put, List.setIfInBounds_toArray, List.set_cons_zero, List.set_cons_succ])
                              refine wpAnyH_take (i := 77) (oi := ?o192) (v := ?v192) ?a192 (by as_aux_lemma => kernel_rfl) (by as_aux_lemma => kernel_rfl) (by as_aux_lemma => kernel_rfl) ?q192 (Or.inl ⟨?g192, ?y192⟩) (by assumption) ?r192; (case' a192 => (simp only [List.getElem?_toArray, List.getElem?_cons_zero, List.getElem?_cons_succ]; rfl)); (case' q192 => (exact fun _ _ _ h => h)); (case' g192 => rfl); (case' y192 => (intro w hSw; (try dsimp only at hSw); go_simp; try with_reducible rfl)); (case' r192 => (try simp only [Act.put, List.setIfInBounds_toArray, List.set_cons_zero, List.set_cons_succ]))
                              refine wpAnyH_take (i := 78) (oi := ?o193) (v := ?v193) ?a193 (by as_aux_lemma => kernel_rfl) (by as_aux_lemma => kernel_rfl) (by as_aux_lemma => kernel_rfl) ?q193 (Or.inl ⟨?g193, ?y193⟩) (by assumption) ?r193; (case' a193 => (simp only [List.getElem?_toArray, List.getElem?_cons_zero, List.getElem?_cons_succ]; rfl)); (case' q193 => (exact fun _ _ _ h => h)); (case' g193 => rfl); (case' y193 => (intro w hSw; (try dsimp only at hSw); go_simp; try with_reducible rfl)); (case' r193 => (try simp only [Act.put, List.setIfInBounds_toArray, List.set_cons_zero, List.set_cons_succ]))
                              refine wpAnyH_take (i := 79) (oi := ?o194) (v := ?v194) ?a194 (by as_aux_lemma => kernel_rfl) (by as_aux_lemma => kernel_rfl) (by as_aux_lemma => kernel_rfl) ?q194 (Or.inl ⟨?g194, ?y194⟩) (by assumption) ?r194; (case' a194 => (simp only [List.getElem?_toArray, List.getElem?_cons_zero, List.getElem?_cons_succ]; rfl)); (case' q194 => (exact fun _ _ _ h => h)); (case' g194 => rfl); (case' y194 => (intro w hSw; (try dsimp only at hSw); go_simp; try with_reducible rfl)); (case' r194 => (try simp only [Act.put, List.setIfInBounds_toArray, List.set_cons_zero]))
                              refine wpAnyH_done (by as_aux_lemma => kernel_rfl) ?_ _
                              have HF := Lib.hid hHeld.2
                              clear hHeld
                              go_wp2_with fail
                              go_ret
                              exact ⟨rfl, HB06.out.trans (HF.out.mono HB06.out.size)⟩
                            exact AllReadyH.nil
                          exact AllReadyH.nil
                        exact AllReadyH.nil
                      exact AllReadyH.nil
                    exact AllReadyH.nil
                  exact AllReadyH.nil
                exact AllReadyH.nil
              exact AllReadyH.nil
            exact AllReadyH.nil
          refine AllReadyH.cons (o := ?o195) ?a195 (fun K hK => ?s195) ?m195; (case' a195 => (simp only [List.getElem?_toArray, List.getElem?_cons_zero, List.getElem?_cons_succ]; rfl))
          case s195 =>
            go_simp
            refine hK.out _ _ (keep8 hHeld (one_box' _)) (fun hHeld => ?_)
            clear hK K
            (try simp only [Act.put, List.setIfInBounds_toArray, List.set_cons_zero, List.set_cons_succ])
            refine wpAnyH_ready (rs := [30]) (by as_aux_lemma => kernel_rfl) (by simp) ?_
            refine AllReadyH.cons (o := ?o196) ?a196 (fun K hK => ?s196) ?m196; (case' a196 => (simp only [List.getElem?_toArray, List.getElem?_cons_zero, List.getElem?_cons_succ]; rfl))
            case s196 =>
              go_simp
              refine hK.out _ _ (keep8 hHeld (one_box' _)) (fun hHeld => ?_)
              clear hK K
              (try simp only [Act.put, List.setIfInBounds_toArray, List.set_cons_zero, List.set_cons_succ])
              refine wpAnyH_ready (rs := [35]) (by as_aux_lemma => kernel_rfl) (by simp) ?_
              refine AllReadyH.cons (o := ?o197) ?a197 (fun K hK => ?s197) ?m197; (case' a197 => (simp only [List.getElem?_toArray, List.getElem?_cons_zero, List.getElem?_cons_succ]; rfl))
              case s197 =>
                go_simp
                refine hK.out _ _ (keep8 hHeld (one_box' _)) (fun hHeld => ?_)
                clear hK K
                (try simp only [Act.put, List.setIfInBounds_toArray, List.set_cons_zero, List.set_cons_succ])
                refine wpAnyH_ready (rs := [36]) (by as_aux_lemma => kernel_rfl) (by simp) ?_
                refine AllReadyH.cons (o := ?o198) ?a198 (fun K hK => ?s198) ?m198; (case' a198 => (simp only [List.getElem?_toArray, List.getElem?_cons_zero, List.getElem?_cons_succ]; rfl))
                case s198 =>
                  go_simp
                  go_at_call 11
                  refine (rsame_is _ w2.heap.size 0 A3 _ 2 2 c3 2 _ _ true (Lib.hid ((HR6.out.below hHeld.2).mono hHeld.2.size)) (Lib.hid (readsL_two (three_a wa _ _ _).2.2.1 (three_a wa _ _ _).2.1 (three_a wa _ _ _).1 (la := [⟨tT, 0⟩, ⟨tT, 2⟩]) (lb := [⟨tT, 1⟩]) rfl rfl (by simp; try omega) (by simp; try omega) rfl rfl)) (Lib.hid rfl) (Lib.hid rfl) (by decide) (Lib.hid (by decide)) (Lib.hid (by simp))).mono ?_
                  rintro e wb ⟨rfl, hbn⟩
                  go_wp2_with fail
                  refine hK.out _ _ (keep8 hHeld hbn) (fun hHeld => ?_)
                  clear hK K
                  (try simp only [Act.put, List.setIfInBounds_toArray, List.set_cons_zero, List.set_cons_succ])
                  refine wpAnyH_take (i := 37) (oi := ?o199) (v := ?v199) ?a199 (by as_aux_lemma => kernel_rfl) (by as_aux_lemma => kernel_rfl) (by as_aux_lemma => kernel_rfl) ?q199 (Or.inl ⟨?g199, ?y199⟩) (by assumption) ?r199; (case' a199 => (simp only [List.getElem?_toArray, List.getElem?_cons_zero, List.getElem?_cons_succ]; rfl)); (case' q199 => (exact fun _ _ _ h => h)); (case' g199 => rfl); (case' y199 => (intro w hSw; (try dsimp only at hSw); go_simp; try with_reducible rfl)); (case' r199 => (try simp only [Act.put, List.setIfInBounds_toArray, List.set_cons_zero, List.set_cons_succ]))
                  refine wpAnyH_take (i := 38) (oi := ?o200) (v := ?v200) ?a200 (by as_aux_lemma => kernel_rfl) (by as_aux_lemma => kernel_rfl) (by as_aux_lemma => kernel_rfl) ?q200 (Or.inl ⟨?g200, ?y200⟩) (by assumption) ?r200; (case' a200 => (simp only [List.getElem?_toArray, List.getElem?_cons_zero, List.getElem?_cons_succ]; rfl)); (case' q200 => (exact fun _ _ _ h => h)); (case' g200 => rfl); (case' y200 => (intro w hSw; (try dsimp only at hSw); go_simp; try with_reducible rfl)); (case' r200 => (try simp only [Act.put, List.setIfInBounds_toArray, List.set_cons_zero, List.set_cons_succ]))
                  refine wpAnyH_take (i := 39) (oi := ?o201) (v := ?v201) ?a201 (by as_aux_lemma => kernel_rfl) (by as_aux_lemma => kernel_rfl) (by as_aux_lemma => kernel_rfl) ?q201 (Or.inl ⟨?g201, ?y201⟩) (by assumption) ?r201; (case' a201 => (simp only [List.getElem?_toArray, List.getElem?_cons_zero, List.getElem?_cons_succ]; rfl)); (case' q201 => (exact fun _ _ _ h => h)); (case' g201 => rfl); (case' y201 => (intro w hSw; (try dsimp only at hSw); go_simp; try with_reducible rfl)); (case' r201 => (try simp only [Act.put, List.setIfInBounds_toArray, List.set_cons_zero, List.set_cons_succ]))
                  refine wpAnyH_take (i := 40) (oi := ?o202) (v := ?v202) ?a202 (by as_aux_lemma => kernel_rfl) (by as_aux_lemma => kernel_rfl) (by as_aux_lemma => kernel_rfl) ?q202 (Or.inl ⟨?g202, ?y202⟩) (by assumption) ?r202; (case' a202 => (simp only [List.getElem?_toArray, List.getElem?_cons_zero, List.getElem?_cons_succ]; rfl)); (case' q202 => (exact fun _ _ _ h => h)); (case' g202 => rfl); (case' y202 => (intro w hSw; (try dsimp only at hSw); go_simp; try with_reducible rfl)); (case' r202 => (try simp only [Act.put, List.setIfInBounds_toArray, List.set_cons_zero, List.set_cons_succ]))
                  refine wpAnyH_take (i := 41) (oi := ?o203) (v := ?v203) ?a203 (by as_aux_lemma => kernel_rfl) (by as_aux_lemma => kernel_rfl) (by as_aux_lemma => kernel_rfl) ?q203 (Or.inl ⟨?g203, ?y203⟩) (by assumption) ?r203; (case' a203 => (simp only [List.getElem?_toArray, List.getElem?_cons_zero, List.getElem?_cons_succ]; rfl)); (case' q203 => (exact fun _ _ _ h => h)); (case' g203 => rfl); (case' y203 => (intro w hSw; (try dsimp only at hSw); go_simp; try with_reducible rfl)); (case' r203 => (try simp only [Act.put, List.setIfInBounds_toArray, List.set_cons_zero, List.set_cons_succ]))
                  refine wpAnyH_take (i := 42) (oi := ?o204) (v := ?v204) ?a204 (by as_aux_lemma => kernel_rfl) (by as_aux_lemma => kernel_rfl) (by as_aux_lemma => kernel_rfl) ?q204 (Or.inl ⟨?g204, ?y204⟩) (by assumption) ?r204; (case' a204 => (simp only [List.getElem?_toArray, List.getElem?_cons_zero, List.getElem?_cons_succ]; rfl)); (case' q204 => (exact fun _ _ _ h => h)); (case' g204 => rfl); (case' y204 => (intro w hSw; (try dsimp only at hSw); go_simp; try with_reducible rfl)); (case' r204 => (try simp only [Act.put, List.setIfInBounds_toArray, List.set_cons_zero, List.set_cons_succ]))
                  refine wpAnyH_take (i := 43) (oi := ?o205) (v := ?v205) ?a205 (by as_aux_lemma => kernel_rfl) (by as_aux_lemma => kernel_rfl) (by as_aux_lemma => kernel_rfl) ?q205 (Or.inl ⟨?g205, ?y205⟩) (by assumption) ?r205; (case' a205 => (simp only [List.getElem?_toArray, List.getElem?_cons_zero, List.getElem?_cons_succ]; rfl)); (case' q205 => (exact fun _ _ _ h => h)); (case' g205 => rfl); (case' y205 => (intro w hSw; (try dsimp only at hSw); go_simp; try with_reducible rfl)); (case' r205 => (try simp only [Act.put, List.setIfInBounds_toArray, List.set_cons_zero, List.set_cons_succ]))
                  refine wpAnyH_take (i := 44) (oi := ?o206) (v := ?v206) ?a206 (by as_aux_lemma => kernel_rfl) (by as_aux_lemma => kernel_rfl) (by as_aux_lemma => kernel_rfl) ?q206 (Or.inl ⟨?g206, ?y206⟩) (by assumption) ?r206; (case' a206 => (simp only [List.getElem?_toArray, List.getElem?_cons_zero, List.getElem?_cons_succ]; rfl)); (case' q206 => (exact fun _ _ _ h => h)); (case' g206 => rfl); (case' y206 => (intro w hSw; (try dsimp only at hSw); go_simp; try with_reducible rfl)); (case' r206 => (try simp only [Act.put, List.setIfInBounds_toArray, List.set_cons_zero, List.set_cons_succ]))
                  refine wpAnyH_take (i := 45) (oi := ?o207) (v := ?v207) ?a207 (by as_aux_lemma => kernel_rfl) (by as_aux_lemma => kernel_rfl) (by as_aux_lemma => kernel_rfl) ?q207 (Or.inl ⟨?g207, ?y207⟩) (by assumption) ?r207; (case' a207 => (simp only [List.getElem?_toArray, List.getElem?_cons_zero, List.getElem?_cons_succ]; rfl)); (case' q207 => (exact fun _ _ _ h => h)); (case' g207 => rfl); (case' y207 => (intro w hSw; (try dsimp only at hSw); go_simp; try with_reducible rfl)); (case' r207 => (try simp only [Act.put, List.setIfInBounds_toArray, List.set_cons_zero, List.set_cons_succ]))
                  refine wpAnyH_take (i := 46) (oi := ?o208) (v := ?v208) ?a208 (by as_aux_lemma => kernel_rfl) (by as_aux_lemma => kernel_rfl) (by as_aux_lemma => kernel_rfl) ?q208 (Or.inl ⟨?g208, ?y208⟩) (by assumption) ?r208; (case' a208 => (simp only [List.getElem?_toArray, List.getElem?_cons_zero, List.getElem?_cons_succ]; rfl)); (case' q208 => (exact fun _ _ _ h => h)); (case' g208 => rfl); (case' y208 => (intro w hSw; (try dsimp only at hSw); go_simp; try with_reducible rfl)); (case' r208 => (try simp only [Act.put, List.setIfInBounds_toArray, List.set_cons_zero, List.set_cons_succ]))
                  refine wpAnyH_take (i := 47) (oi := ?o209) (v := ?v209) ?a209 (by as_aux_lemma => kernel_rfl) (by as_aux_lemma => kernel_rfl) (by as_aux_lemma => kernel_rfl) ?q209 (Or.inl ⟨?g209, ?y209⟩) (by assumption) ?r209; (case' a209 => (simp only [List.getElem?_toArray, List.getElem?_cons_zero, List.getElem?_cons_succ]; rfl)); (case' q209 => (exact fun _ _ _ h => h)); (case' g209 => rfl); (case' y209 => (intro w hSw; (try dsimp only at hSw); go_simp; try with_reducible rfl)); (case' r209 => (try simp only [Act.put, List.setIfInBounds_toArray, List.set_cons_zero, List.set_cons_succ]))
                  refine wpAnyH_take (i := 48) (oi := ?o210) (v := ?v210) ?a210 (by as_aux_lemma => kernel_rfl) (by as_aux_lemma => kernel_rfl) (by as_aux_lemma => kernel_rfl) ?q210 (Or.inl ⟨?g210, ?y210⟩) (by assumption) ?r210; (case' a210 => (simp only [List.getElem?_toArray, List.getElem?_cons_zero, List.getElem?_cons_succ]; rfl)); (case' q210 => (exact fun _ _ _ h => h)); (case' g210 => rfl); (case' y210 => (intro w hSw; (try dsimp only at hSw); go_simp; try with_reducible rfl)); (case' r210 => (try simp only [Act.put, List.setIfInBounds_toArray, List.set_cons_zero, List.set_cons_succ]))
                  refine wpAnyH_take (i := 49) (oi := ?o211) (v := ?v211) ?a211 (by as_aux_lemma => kernel_rfl) (by as_aux_lemma => kernel_rfl) (by as_aux_lemma => kernel_rfl) ?q211 (Or.inl ⟨?g211, ?y211⟩) (by assumption) ?r211; (case' a211 => (simp only [List.getElem?_toArray, List.getElem?_cons_zero, List.getElem?_cons_succ]; rfl)); (case' q211 => (exact fun _ _ _ h => h)); (case' g211 => rfl); (case' y211 => (intro w hSw; (try dsimp only at hSw); go_simp; try with_reducible rfl)); (case' r211 => (try simp only [Act.put, List.setIfInBounds_toArray, List.set_cons_zero, List.set_cons_succ]))
                  refine wpAnyH_take (i := 50) (oi := ?o212) (v := ?v212) ?a212 (by as_aux_lemma => kernel_rfl) (by as_aux_lemma => kernel_rfl) (by as_aux_lemma => kernel_rfl) ?q212 (Or.inl ⟨?g212, ?y212⟩) (by assumption) ?r212; (case' a212 => (simp only [List.getElem?_toArray, List.getElem?_cons_zero, List.getElem?_cons_succ]; rfl)); (case' q212 => (exact fun _ _ _ h => h)); (case' g212 => rfl); (case' y212 => (intro w hSw; (try dsimp only at hSw); go_simp; try with_reducible rfl)); (case' r212 => (try simp only [Act.put, List.setIfInBounds_toArray, List.set_cons_zero, List.set_cons_succ]))
                  refine wpAnyH_ready (rs := [51]) (by as_aux_lemma => kernel_rfl) (by simp) ?_
                  refine AllReadyH.cons (o := ?o213) ?a213 (fun K hK => ?s213) ?m213; (case' a213 => (simp only [List.getElem?_toArray, List.getElem?_cons_zero, List.getElem?_cons_succ]; rfl))
                  case s213 =>
                    go_simp
                    go_at_call 12
                    refine (whose_is _ w2.heap.size A3 2 c3 _ tT 1 1 (Lib.hid ((HR6.out.below hHeld.2).mono hHeld.2.size)) (Lib.hid rfl) (by decide) (Lib.hid (by decide)) (Lib.hid who_yes)).mono ?_
                    rintro e wu ⟨rfl, hbn⟩
                    go_wp2_with fail
                    refine hK.out _ _ (keep8 hHeld hbn) (fun hHeld => ?_)
                    clear hK K
                    (try simp only [Act.put, List.setIfInBounds_toArray, List.set_cons_zero, List.set_cons_succ])
                    refine wpAnyH_take (i := 52) (oi := ?o214) (v := ?v214) ?a214 (by as_aux_lemma => kernel_rfl) (by as_aux_lemma => kernel_rfl) (by as_aux_lemma => kernel_rfl) ?q214 (Or.inl ⟨?g214, ?y214⟩) (by assumption) ?r214; (case' a214 => (simp only [List.getElem?_toArray, List.getElem?_cons_zero, List.getElem?_cons_succ]; rfl)); (case' q214 => (exact fun _ _ _ h => h)); (case' g214 => rfl); (case' y214 => (intro w hSw; (try dsimp only at hSw); go_simp; try with_reducible rfl)); (case' r214 => (try simp only [Act.put, List.setIfInBounds_toArray, List.set_cons_zero, List.set_cons_succ]))
                    refine wpAnyH_take (i := 53) (oi := ?o215) (v := ?v215) ?a215 (by as_aux_lemma => kernel_rfl) (by as_aux_lemma => kernel_rfl) (by as_aux_lemma => kernel_rfl) ?q215 (Or.inl ⟨?g215, ?y215⟩) (by assumption) ?r215; (case' a215 => (simp only [List.getElem?_toArray, List.getElem?_cons_zero, List.getElem?_cons_succ]; rfl)); (case' q215 => (exact fun _ _ _ h => h)); (case' g215 => rfl); (case' y215 => (intro w hSw; (try dsimp only at hSw); go_simp; try with_reducible rfl)); (case' r215 => (try simp only [Act.put, List.setIfInBounds_toArray, List.set_cons_zero, List.set_cons_succ]))
                    refine wpAnyH_take (i := 54) (oi := ?o216) (v := ?v216) ?a216 (by as_aux_lemma => kernel_rfl) (by as_aux_lemma => kernel_rfl) (by as_aux_lemma => kernel_rfl) ?q216 (Or.inl ⟨?g216, ?y216⟩) (by assumption) ?r216; (case' a216 => (simp only [List.getElem?_toArray, List.getElem?_cons_zero, List.getElem?_cons_succ]; rfl)); (case' q216 => (exact fun _ _ _ h => h)); (case' g216 => rfl); (case' y216 => (intro w hSw; (try dsimp only at hSw); go_simp; try with_reducible rfl)); (case' r216 => (try simp only [Act.put, List.setIfInBounds_toArray, List.set_cons_zero, List.set_cons_succ]))
                    refine wpAnyH_take (i := 55) (oi := ?o217) (v := ?v217) ?a217 (by as_aux_lemma => kernel_rfl) (by as_aux_lemma => kernel_rfl) (by as_aux_lemma => kernel_rfl) ?q217 (Or.inl ⟨?g217, ?y217⟩) (by assumption) ?r217; (case' a217 => (simp only [List.getElem?_toArray, List.getElem?_cons_zero, List.getElem?_cons_succ]; rfl)); (case' q217 => (exact fun _ _ _ h => h)); (case' g217 => rfl); (case' y217 => (intro w hSw; (try dsimp only at hSw); go_simp; try with_reducible rfl)); (case' r217 => (try simp only [Act.put, List.setIfInBounds_toArray, List.set_cons_zero, List.set_cons_succ]))
                    refine wpAnyH_take (i := 56) (oi := ?o218) (v := ?v218) ?a218 (by as_aux_lemma => kernel_rfl) (by as_aux_lemma => kernel_rfl) (by as_aux_lemma => kernel_rfl) ?q218 (Or.inl ⟨?g218, ?y218⟩) (by assumption) ?r218; (case' a218 => (simp only [List.getElem?_toArray, List.getElem?_cons_zero, List.getElem?_cons_succ]; rfl)); (case' q218 => (exact fun _ _ _ h => h)); (case' g218 => rfl); (case' y218 => (intro w hSw; (try dsimp only at hSw); go_simp; try with_reducible rfl)); (case' r218 => (try simp only [Act.put, List.setIfInBounds_toArray, List.set_cons_zero, List.set_cons_succ]))
                    refine wpAnyH_ready (rs := [57]) (by as_aux_lemma => kernel_rfl) (by simp) ?_
                    refine AllReadyH.cons (o := ?o219) ?a219 (fun K hK => ?s219) ?m219; (case' a219 => (simp only [List.getElem?_toArray, List.getElem?_cons_zero, List.getElem?_cons_succ]; rfl))
                    case s219 =>
                      go_simp
                      go_at_call 12
                      refine (whose_is _ w2.heap.size A3 2 c3 _ ⟨#[117]⟩ 0 (-1) (Lib.hid ((HR6.out.below hHeld.2).mono hHeld.2.size)) (Lib.hid rfl) (by decide) (Lib.hid (by decide)) (Lib.hid who_no)).mono ?_
                      rintro e wv ⟨rfl, hbn⟩
                      go_wp2_with fail
                      refine hK.out _ _ (keep8 hHeld hbn) (fun hHeld => ?_)
                      clear hK K
                      (try simp only [Act.put, List.setIfInBounds_toArray, List.set_cons_zero, List.set_cons_succ])
                      refine wpAnyH_take (i := 58) (oi := ?o220) (v := ?v220) ?a220 (by as_aux_lemma => kernel_rfl) (by as_aux_lemma => kernel_rfl) (by as_aux_lemma => kernel_rfl) ?q220 (Or.inl ⟨?g220, ?y220⟩) (by assumption) ?r220; (case' a220 => (simp only [List.getElem?_toArray, List.getElem?_cons_zero, List.getElem?_cons_succ]; rfl)); (case' q220 => (exact fun _ _ _ h => h)); (case' g220 => rfl); (case' y220 => (intro w hSw; (try dsimp only at hSw); go_simp; try with_reducible rfl)); (case' r220 => (try simp only [Act.put, List.setIfInBounds_toArray, List.set_cons_zero, List.set_cons_succ]))
                      refine wpAnyH_take (i := 59) (oi := ?o221) (v := ?v221) ?a221 (by as_aux_lemma => kernel_rfl) (by as_aux_lemma => kernel_rfl) (by as_aux_lemma => kernel_rfl) ?q221 (Or.inl ⟨?g221, ?y221⟩) (by assumption) ?r221; (case' a221 => (simp only [List.getElem?_toArray, List.getElem?_cons_zero, List.getElem?_cons_succ]; rfl)); (case' q221 => (exact fun _ _ _ h => h)); (case' g221 => rfl); (case' y221 => (intro w hSw; (try dsimp only at hSw); go_simp; try with_reducible rfl)); (case' r221 => (try simp only [Act.put, List.setIfInBounds_toArray, List.set_cons_zero, List.set_cons_succ]))
                      refine wpAnyH_take (i := 60) (oi := ?o222) (v := ?v222) ?a222 (by as_aux_lemma => kernel_rfl) (by as_aux_lemma => kernel_rfl) (by as_aux_lemma => kernel_rfl) ?q222 (Or.inl ⟨?g222, ?y222⟩) (by assumption) ?r222; (case' a222 => (simp only [List.getElem?_toArray, List.getElem?_cons_zero, List.getElem?_cons_succ]; rfl)); (case' q222 => (exact fun _ _ _ h => h)); (case' g222 => rfl); (case' y222 => (intro w hSw; (try dsimp only at hSw); go_simp; try with_reducible rfl)); (case' r222 => (try simp only [Act.put, List.setIfInBounds_toArray, List.set_cons_zero, List.set_cons_succ]))
                      refine wpAnyH_take (i := 61) (oi := ?o223) (v := ?v223) ?a223 (by as_aux_lemma => kernel_rfl) (by as_aux_lemma => kernel_rfl) (by as_aux_lemma => kernel_rfl) ?q223 (Or.inl ⟨?g223, ?y223⟩) (by assumption) ?r223; (case' a223 => (simp only [List.getElem?_toArray, List.getElem?_cons_zero, List.getElem?_cons_succ]; rfl)); (case' q223 => (exact fun _ _ _ h => h)); (case' g223 => rfl); (case' y223 => (intro w hSw; (try dsimp only at hSw); go_simp; try with_reducible rfl)); (case' r223 => (try simp only [Act.put, List.setIfInBounds_toArray, List.set_cons_zero, List.set_cons_succ]))
                      refine wpAnyH_take (i := 62) (oi := ?o224) (v := ?v224) ?a224 (by as_aux_lemma => kernel_rfl) (by as_aux_lemma => kernel_rfl) (by as_aux_lemma => kernel_rfl) ?q224 (Or.inl ⟨?g224, ?y224⟩) (by assumption) ?r224; (case' a224 => (simp only [List.getElem?_toArray, List.getElem?_cons_zero, List.getElem?_cons_succ]; rfl)); (case' q224 => (exact fun _ _ _ h => h)); (case' g224 => rfl); (case' y224 => (intro w hSw; (try dsimp only at hSw); go_simp; try with_reducible rfl)); (case' r224 => (try simp only [Act.put, List.setIfInBounds_toArray, List.set_cons_zero, List.set_cons_succ]))
                      refine wpAnyH_take (i := 63) (oi := ?o225) (v := ?v225) ?a225 (by as_aux_lemma => kernel_rfl) (by as_aux_lemma => kernel_rfl) (by as_aux_lemma => kernel_rfl) ?q225 (Or.inl ⟨?g225, ?y225⟩) (by assumption) ?r225; (case' a225 => (simp only [List.getElem?_toArray, List.getElem?_cons_zero, List.getElem?_cons_succ]; rfl)); (case' q225 => (exact fun _ _ _ h => h)); (case' g225 => rfl); (case' y225 => (intro w hSw; (try dsimp only at hSw); go_simp; try with_reducible rfl)); (case' r225 => (try simp only [Act.put, List.setIfInBounds_toArray, List.set_cons_zero, List.set_cons_succ]))
                      refine wpAnyH_ready (rs := [64]) (by as_aux_lemma => kernel_rfl) (by simp) ?_
                      refine AllReadyH.cons (o := ?o226) ?a226 (fun K hK => ?s226) ?m226; (case' a226 => (simp only [List.getElem?_toArray, List.getElem?_cons_zero, List.getElem?_cons_succ]; rfl))
                      case s226 =>
                        go_simp
                        go_at_call 14
                        refine (wants_is mM tT [tT] (some ⟨ga, 0, none⟩) ca 1 w6.heap.size true _ (Lib.hid (HT6.out.below hHeld.2)) hHeld.2.size (Lib.hid rfl) (by decide) (Lib.hid (by decide))).mono ?_
                        rintro e wx ⟨rfl, hbn⟩
                        go_wp2_with fail
                        refine hK.out _ _ (keep8 hHeld hbn) (fun hHeld => ?_)
                        clear hK K
                        (try simp only [Act.put, List.setIfInBounds_toArray, List.set_cons_zero, List.set_cons_succ])
                        refine wpAnyH_take (i := 65) (oi := ?o227) (v := ?v227) ?a227 (by as_aux_lemma => kernel_rfl) (by as_aux_lemma => kernel_rfl) (by as_aux_lemma => kernel_rfl) ?q227 (Or.inl ⟨?g227, ?y227⟩) (by assumption) ?r227; (case' a227 => (simp only [List.getElem?_toArray, List.getElem?_cons_zero, List.getElem?_cons_succ]; rfl)); (case' q227 => (exact fun _ _ _ h => h)); (case' g227 => rfl); (case' y227 => (intro w hSw; (try dsimp only at hSw); go_simp; try with_reducible rfl)); (case' r227 => (try simp only [Act.put, List.setIfInBounds_toArray, List.set_cons_zero, List.set_cons_succ]))
                        refine wpAnyH_take (i := 66) (oi := ?o228) (v := ?v228) ?a228 (by as_aux_lemma => kernel_rfl) (by as_aux_lemma => kernel_rfl) (by as_aux_lemma => kernel_rfl) ?q228 (Or.inl ⟨?g228, ?y228⟩) (by assumption) ?r228; (case' a228 => (simp only [List.getElem?_toArray, List.getElem?_cons_zero, List.getElem?_cons_succ]; rfl)); (case' q228 => (exact fun _ _ _ h => h)); (case' g228 => rfl); (case' y228 => (intro w hSw; (try dsimp only at hSw); go_simp; try with_reducible rfl)); (case' r228 => (try simp only [Act.put, List.setIfInBounds_toArray, List.set_cons_zero, List.set_cons_succ]))
                        refine wpAnyH_take (i := 67) (oi := ?o229) (v := ?v229) ?a229 (by as_aux_lemma => kernel_rfl) (by as_aux_lemma => kernel_rfl) (by as_aux_lemma => kernel_rfl) ?q229 (Or.inl ⟨?g229, ?y229⟩) (by assumption) ?r229; (case' a229 => (simp only [List.getElem?_toArray, List.getElem?_cons_zero, List.getElem?_cons_succ]; rfl)); (case' q229 => (exact fun _ _ _ h => h)); (case' g229 => rfl); (case' y229 => (intro w hSw; (try dsimp only at hSw); go_simp; try with_reducible rfl)); (case' r229 => (try simp only [Act.put, List.setIfInBounds_toArray, List.set_cons_zero, List.set_cons_succ]))
                        refine wpAnyH_take (i := 68) (oi := ?o230) (v := ?v230) ?a230 (by as_aux_lemma => kernel_rfl) (by as_aux_lemma => kernel_rfl) (by as_aux_lemma => kernel_rfl) ?q230 (Or.inl ⟨?g230, ?y230⟩) (by assumption) ?r230; (case' a230 => (simp only [List.getElem?_toArray, List.getElem?_cons_zero, List.getElem?_cons_succ]; rfl)); (case' q230 => (exact fun _ _ _ h => h)); (case' g230 => rfl); (case' y230 => (intro w hSw; (try dsimp only at hSw); go_simp; try with_reducible rfl)); (case' r230 => (try simp only [Act.put, List.setIfInBounds_toArray, List.set_cons_zero, List.set_cons_succ]))
                        refine wpAnyH_take (i := 69) (oi := ?o231) (v := ?v231) ?a231 (by as_aux_lemma => kernel_rfl) (by as_aux_lemma => kernel_rfl) (by as_aux_lemma => kernel_rfl) ?q231 (Or.inl ⟨?g231, ?y231⟩) (by assumption) ?r231; (case' a231 => (simp only [List.getElem?_toArray, List.getElem?_cons_zero, List.getElem?_cons_succ]; rfl)); (case' q231 => (exact fun _ _ _ h => h)); (case' g231 => rfl); (case' y231 => (intro w hSw; (try dsimp only at hSw); go_simp; try with_reducible rfl)); (case' r231 => (try simp only [Act.put, List.setIfInBounds_toArray, List.set_cons_zero, List.set_cons_succ]))
                        refine wpAnyH_ready (rs := [70]) (by as_aux_lemma => kernel_rfl) (by simp) ?_
                        refine AllReadyH.cons (o := ?o232) ?a232 (fun K hK => ?s232) ?m232; (case' a232 => (simp only [List.getElem?_toArray, List.getElem?_cons_zero, List.getElem?_cons_succ]; rfl))
                        case s232 =>
                          go_simp
                          go_at_call 14
                          refine (wants_is mM ⟨#[117]⟩ [tT] (some ⟨ga, 0, none⟩) ca 1 w6.heap.size false _ (Lib.hid (HT6.out.below hHeld.2)) hHeld.2.size (Lib.hid rfl) (by decide) (Lib.hid (by decide))).mono ?_
                          rintro e wy ⟨rfl, hbn⟩
                          go_wp2_with fail
                          refine hK.out _ _ (keep8 hHeld hbn) (fun hHeld => ?_)
                          clear hK K
                          (try simp only [Act.put, List.setIfInBounds_toArray, List.set_cons_zero, List.set_cons_succ])
                          refine wpAnyH_take (i := 71) (oi := ?o233) (v := ?v233) ?a233 (by as_aux_lemma => kernel_rfl) (by as_aux_lemma => kernel_rfl) (by as_aux_lemma => kernel_rfl) ?q233 (Or.inl ⟨?g233, ?y233⟩) (by assumption) ?r233; (case' a233 => (simp only [List.getElem?_toArray, List.getElem?_cons_zero, List.getElem?_cons_succ]; rfl)); (case' q233 => (exact fun _ _ _ h => h)); (case' g233 => rfl); (case' y233 => (intro w hSw; (try dsimp only at hSw); go_simp; try with_reducible rfl)); (case' r233 => (try simp only [Act.put, List.setIfInBounds_toArray, List.set_cons_zero, List.set_cons_succ]))
                          refine wpAnyH_take (i := 72) (oi := ?o234) (v := ?v234) ?a234 (by as_aux_lemma => kernel_rfl) (by as_aux_lemma => kernel_rfl) (by as_aux_lemma => kernel_rfl) ?q234 (Or.inl ⟨?g234, ?y234⟩) (by assumption) ?r234; (case' a234 => (simp only [List.getElem?_toArray, List.getElem?_cons_zero, List.getElem?_cons_succ]; rfl)); (case' q234 => (exact fun _ _ _ h => h)); (case' g234 => rfl); (case' y234 => (intro w hSw; (try dsimp only at hSw); go_simp; try with_reducible rfl)); (case' r234 => (try simp only [Act.put, List.setIfInBounds_toArray, List.set_cons_zero, List.set_cons_succ]))
                          refine wpAnyH_take (i := 73) (oi := ?o235) (v := ?v235) ?a235 (by as_aux_lemma => kernel_rfl) (by as_aux_lemma => kernel_rfl) (by as_aux_lemma => kernel_rfl) ?q235 (Or.inl ⟨?g235, ?y235⟩) (by assumption) ?r235; (case' a235 => (simp only [List.getElem?_toArray, List.getElem?_cons_zero, List.getElem?_cons_succ]; rfl)); (case' q235 => (exact fun _ _ _ h => h)); (case' g235 => rfl); (case' y235 => (intro w hSw; (try dsimp only at hSw); go_simp; try with_reducible rfl)); (case' r235 => (try simp only [Act.put, List.setIfInBounds_toArray, List.set_cons_zero, List.set_cons_succ]))
                          refine wpAnyH_take (i := 74) (oi := ?o236) (v := ?v236) ?a236 (by as_aux_lemma => kernel_rfl) (by as_aux_lemma => kernel_rfl) (by as_aux_lemma => kernel_rfl) ?q236 (Or.inl ⟨?g236, ?y236⟩) (by assumption) ?r236; (case' a236 => (simp only [List.getElem?_toArray, List.getElem?_cons_zero, List.getElem?_cons_succ]; rfl)); (case' q236 => (exact fun _ _ _ h => h)); (case' g236 => rfl); (case' y236 => (intro w hSw; (try dsimp only at hSw); go_simp; try with_reducible rfl)); (case' r236 => (try simp only [Act.put, List.setIfInBounds_toArray, List.set_cons_zero, List.set_cons_succ]))
                          refine wpAnyH_ready (rs := [75]) (by as_aux_lemma => kernel_rfl) (by simp) ?_
                          refine AllReadyH.cons (o := ?o237) ?a237 (fun K hK => ?s237) ?m237; (case' a237 => (simp only [List.getElem?_toArray, List.getElem?_cons_zero, List.getElem?_cons_succ]; rfl))
                          case s237 =>
                            go_simp
                            refine hK.out _ _ (keep8 hHeld (one_box' _)) (fun hHeld => ?_)
                            clear hK K
                            (try simp only [Act.put, List.setIfInBounds_toArray, List.set_cons_zero, List.set_cons_succ])
                            refine wpAnyH_ready (rs := [76]) (by as_aux_lemma => kernel_rfl) (by simp) ?_
                            refine AllReadyH.cons (o := ?o238) ?a238 (fun K hK => ?s238) ?m238; (case' a238 => (simp only [List.getElem?_toArray, List.getElem?_cons_zero, List.getElem?_cons_succ]; rfl))
                            case s238 =>
                              go_simp
                              go_at_call 10
                              refine (check_is _ _ _ 1 1 9 9 l3 m9 2 (Lib.hid (HL6.out.up (Nat.le_refl _) hHeld.2)) (Lib.hid (isM_nine (heap_alloc_new _ _))) C9).mono ?_
                              rintro e wz ⟨rfl, hbn⟩
                              go_wp2_with fail
                              refine hK.out _ _ (keep8 hHeld hbn) (fun hHeld => ?_)
                              clear hK K
                              (try simp only [Act.put, List.setIfInBounds_toArray, List.set_cons_zero, List.set_cons_succ])
                              refine wpAnyH_take (i := 77) (oi := ?o239) (v := ?v239) ?a239 (by as_aux_lemma => kernel_rfl) (by as_aux_lemma => kernel_rfl) (by as_aux_lemma => kernel_rfl) ?q239 (Or.inl ⟨?g239, ?y239⟩) (by assumption) ?r239; (case' a239 => (simp only [List.getElem?_toArray, List.getElem?_cons_zero, List.getElem?_cons_succ]; rfl)); (case' q239 => (exact fun _ _ _ h => h)); (case' g239 => rfl); (case' y239 => (intro w hSw; (try dsimp only at hSw); go_simp; try with_reducible rfl)); (case' r239 => (try simp only [Act.put, List.setIfInBounds_toArray, List.set_cons_zero, List.set_cons_succ]))
                              refine wpAnyH_take (i := 78) (oi := ?o240) (v := ?v240) ?a240 (by as_aux_lemma => kernel_rfl) (by as_aux_lemma => kernel_rfl) (by as_aux_lemma => kernel_rfl) ?q240 (Or.inl ⟨?g240, ?y240⟩) (by assumption) ?r240; (case' a240 => (simp only [List.getElem?_toArray, List.getElem?_cons_zero, List.getElem?_cons_succ]; rfl)); (case' q240 => (exact fun _ _ _ h => h)); (case' g240 => rfl); (case' y240 => (intro w hSw; (try dsimp only at hSw); go_simp; try with_reducible rfl)); (case' r240 => (try simp only [Act.put, List.setIfInBounds_toArray, List.set_cons_zero, List.set_cons_succ]))
                              refine wpAnyH_take (i := 79) (oi := ?o241) (v := ?v241) ?a241 (by as_aux_lemma => kernel_rfl) (by as_aux_lemma => kernel_rfl) (by as_aux_lemma => kernel_rfl) ?q241 (Or.inl ⟨?g241, ?y241⟩) (by assumption) ?r241; (case' a241 => (simp only [List.getElem?_toArray, List.getElem?_cons_zero, List.getElem?_cons_succ]; rfl)); (case' q241 => (exact fun _ _ _ h => h)); (case' g241 => rfl); (case' y241 => (intro w hSw; (try dsimp only at hSw); go_simp; try with_reducible rfl)); (case' r241 => (try simp only [Act.put, List.setIfInBounds_toArray, List.set_cons_zero]))
                              refine wpAnyH_done (by as_aux_lemma => kernel_rfl) ?_ _
                              have HF := Lib.hid hHeld.2
                              clear hHeld
                              go_wp2_with fail
                              go_ret
                              exact ⟨rfl, HB06.out.trans (HF.out.mono HB06.out.size)⟩
                            exact AllReadyH.nil
                          exact AllReadyH.nil
                        exact AllReadyH.nil
                      exact AllReadyH.nil
                    exact AllReadyH.nil
                  exact AllReadyH.nil
                exact AllReadyH.nil
              exact AllReadyH.nil
            exact AllReadyH.nil
          exact AllReadyH.nil
        exact AllReadyH.nil
      exact AllReadyH.nil
    exact AllReadyH.nil
  exact AllReadyH.nil
end Go.Proofs.Ythongbobopampaa.L10
