/-
  Contracts: List, Copy.
-/
import Derived.Test.YtcpfihagcmadcaaOfRaise
import Derived.Test.YtcpfihagcmadcaaOfSort
namespace Go.Proofs.Ytcpfihagcmadcaa.L12
open Go.RowKit
open Go.Maps
open L3 L4

theorem markInfo : (Try.prog.info? 32).map (fun i => (i.zero, i.size, i.bytes)) = some (some (.agg #[.string ⟨#[]⟩, .string ⟨#[]⟩, .int .i64 0, .int .i64 0]), 4, 48) := by kernel_rfl
theorem own_below {w w' : World} {base : Nat} {T : TypeId} {v : Value} {n m : Nat} {xs : List Value} (h : w.ownsRow base T m v n xs) (hb : Below w.heap.size w w') : w'.ownsRow base T m v n xs :=
  own_at h (fun k e => hb.block k (h.lt k e).2)
/-- while the marks are collected -/
structure LGo (w : World) (Q : List Mr) (b r N : Nat) (left : Lit → Bool) (cnt : Nat) (D : DataW Unit) (v : Value) (n : Nat) (out : List Mr) (wr : World) : Prop where
  rg : Over wr b r N D left cnt
  bel : Below w.heap.size w wr
  own : wr.ownsRow w.heap.size 32 4 v n (rowM out)
  len : out.length = n
  perm : out.Perm (Q.filter (fun m => !left m.k))
theorem cells_four (w : World) (T : TypeId) (a b c d : Value) : ∀ j u, [a, b, c, d][j]? = some u → (w.alloc (.cells #[a, b, c, d] T)).cell? ((⟨w.heap.size, 0, none⟩ : Addr).add j) = some u :=
  World.news_of_block (cs := #[a, b, c, d]) (t := T) (fr := (0, 0)) (heap_alloc_new w _)
theorem lgo_step {w W2 w3 : World} {Q : List Mr} {b N n cnt : Nat} {left : Lit → Bool} {D : DataW Unit} {v v' : Value} {out : List Mr} {m : Mr} {kl : Lit} {o : Obj} (S : SortR Q) (F : Fits Q) (hm : m ∈ Q) (hk : m.k = kl) (hl : left kl = true) (hb : b < w.heap.size) (hbel : Below w.heap.size w W2)
    (hrg : Over W2 b w.heap.size N D (fun x => left x && !x.sameKey kl) cnt) (hrw : ∀ k, v.ownBlock = some k → k ≠ w.heap.size) (hbase : ∀ k, v.ownBlock = some k → w.heap.size ≤ k) (hlen : out.length = n) (hp : out.Perm (Q.filter (fun m => !left m.k)))
    (hown : w3.ownsRow w.heap.size 32 4 v' (n + 1) (rowM out ++ mkC m)) (hg : (W2.alloc o).grownBy w3 v.ownBlock) : LGo w Q b w.heap.size N (fun x => left x && !x.sameKey kl) cnt D v' (n + 1) (out ++ [m]) w3 := by
  subst hk
  refine ⟨?_, ?_, ?_, by simp [hlen], ?_⟩
  · refine (World.ranges.alloc hrg o).kept hg (fun e => ?_) (fun e => ?_)
    · have := hbase b e.symm; omega
    · exact hrw _ e.symm rfl
  · exact (hbel.alloc hbel.size o).grown hg (hbel.alloc hbel.size o).size hbase
  · rw [rowM_app]
    have : rowM [m] = mkC m := by simp [rowM]
    rw [this]; exact hown
  · exact (List.perm_append_comm.trans (List.Perm.cons _ hp)).trans (filter_step S F hm hl)
/-- what List tells -/
def ListP (w : World) (Q : List Mr) (L : Nat) (e : Ending) (w' : World) : Prop := ∃ A c, e = .returned (.slice A L c) ∧ w'.ownsRow w.heap.size 32 4 (.slice A L c) L (rowM Q) ∧ Below w.heap.size w w'

set_option maxRecDepth 100000 in
set_option maxHeartbeats 8000000 in
theorem list_is {w : World} {g b N : Nat} {Q : List Mr} (L : Nat) (h : Hid (Tab w g b N Q)) (G : Hid (Good Q)) (HL : Hid (Q.length = L)) (hl : L ≤ 1000000) :
    Calls Try.prog 16 #[.pointer (some ⟨g, 0, none⟩)] w (ListP w Q L) := by
  obtain ⟨i0, hi0, hz0, hz1, hz2⟩ := info_parts markInfo
  have c0 := h.out.c0
  obtain ⟨D, hown, hmd⟩ := h.out.map
  have HMD := Lib.hid hmd
  have HLT := Lib.hid h.out.map.lt
  have HF := Lib.hid G.out.fits
  have HS := Lib.hid G.out.sorted
  clear hmd
  go_enter Try.func16, Try.ntmps16
  go_wp2_with (at_range; refine wpList_range_own _ rfl _ 52 rfl 59 3 lawSpot mapInt _ b N D rfl hown ?_; intro w0 hrg0 hg0 hs0)
  go_frame
  have HRG0 := Lib.hid hrg0
  have HG0 := Lib.hid hg0
  clear c0 hown hrg0 hg0 hs0
  go_loopw [3] (fun sv wr => ∃ (left : Lit → Bool) (cnt : Nat) (A0 : Option Addr) (c0 n0 : Nat) (out : List Mr), sv = .slice A0 n0 c0 ∧ Hid (LGo w Q b w.heap.size N left cnt D (.slice A0 n0 c0) n0 out wr)) (fun _ wr => wr.rangeLeft b w.heap.size)
  case atStart => exact ⟨_, _, none, 0, 0, [], rfl, Lib.hid ⟨HRG0.out, (Below.refl _ _).grown HG0.out (Nat.le_refl _) (fun q e => by cases e), World.ownsRow_nil _ _ _ _, rfl, by
    rw [List.filter_eq_nil_iff.2 (fun m hm => by simp [start_left HMD.out m hm])]⟩⟩
  case round =>
    obtain ⟨left, cnt, A0, c0, n0, out, rfl, HG⟩ := hrel
    have hrg := HG.out.rg
    have hn0 : n0 ≤ L := by
      rw [← HG.out.len, HG.out.perm.length_eq, ← HL.out]; exact List.length_filter_le _ _
    go_wp2_with (at_next; refine wpList_next_ranges _ rfl _ rfl 59 lawSpot (plainElem (H := Unit) Try.prog 3) kV (Value.int .i64) (fun key kl h => by obtain ⟨x, e, _⟩ := key_inv h; exact ⟨x, e⟩) (fun v y h => by obtain ⟨a, e, _⟩ := plainElem_int_inv Try.underlying3 h; exact ⟨a, e⟩) b w.heap.size N _ _ _ rfl hrg ?_ ?_)
    · intro _ hl0
      have hperm := HG.out.perm
      rw [List.filter_eq_self.2 (fun m _ => by rw [hl0]; rfl)] at hperm
      have hnms : n0 = L := by rw [← HG.out.len, hperm.length_eq, HL.out]
      have HP := Lib.hid hperm
      clear hl0 hrg hperm
      subst hnms
      by_cases hz : n0 = 0
      · subst hz
        have hQ : Q = [] := List.eq_nil_of_length_eq_zero HL.out
        have ho : out = [] := List.eq_nil_of_length_eq_zero HG.out.len
        subst hQ
        subst ho
        have hcon := AnyF.slices_SortFunc_none { Try.sortMr with } A0 c0 (.func (.func 29) #[] #[]) wr
        change Calls Try.prog 28 _ _ _ at hcon
        go_wp2_with (go_at_call 28; refine hcon.mono ?_; rintro e w5 ⟨rfl, rfl⟩)
        go_ret
        exact ⟨A0, c0, rfl, HG.out.own, HG.out.bel⟩
      · obtain ⟨gb, cb, hv, _, hgb⟩ := HG.out.own.form (by omega)
        obtain ⟨rfl, rfl⟩ : A0 = some ⟨gb, 0, none⟩ ∧ c0 = cb := by injection hv with e1 _ e3; exact ⟨e1, e3⟩
        clear hv
        go_wp2_with (go_at_call 28; refine (sort_is out Q n0 c0 gb wr w.heap.size HG.out.own HG.out.len hl HP.out HS.out).mono ?_; rintro e w5 ⟨rfl, hown5, honly5⟩; have HO5 := Lib.hid hown5; have HY5 := Lib.hid honly5; clear hown5 honly5)
        go_ret
        refine ⟨some ⟨gb, 0, none⟩, c0, rfl, HO5.out, HG.out.bel.trans (HY5.out.below HG.out.bel.size (fun k hk => ?_))⟩
        have : k = gb := by simpa using hk
        subst this
        obtain ⟨_, q, _⟩ := own_bk HG.out.own k (by simp [bk])
        exact q
    · intro g2 t2 p2 c kl yd yp w1 cnt1 hkey hlk hv hat hrg1 hlt hg1 hs1 hen
      obtain ⟨⟨hg2, ht2, hp2⟩, rfl⟩ := key_is hkey
      dsimp only [kV] at hen hg2 ht2 hp2 ⊢
      dsimp only at hrg1 hlk hat
      have hmQ : (⟨g2, t2, p2, c⟩ : Mr) ∈ Q := HMD.out.entry HF.out hg2 ht2 hp2 hv hat
      obtain ⟨_, xa, xb, xc, xd, hit⟩ := ranges_map hrg
      have hnr : ∀ k, (Value.slice A0 n0 c0).ownBlock = some k → k ≠ w.heap.size := fun k e q => by
        subst q
        rw [blk_own] at e
        obtain ⟨cs, _, hc⟩ := own_bk HG.out.own _ (mem_bk.2 e)
        rw [hit] at hc; cases hc
      obtain ⟨W2, hW2⟩ : ∃ W2, w1.alloc (.cells #[.string g2, .string t2, .int .i64 p2] 59) = W2 := ⟨_, rfl⟩
      obtain ⟨d0, d1, d2⟩ : W2.cell? ⟨w1.heap.size, 0, none⟩ = some (.string g2) ∧ W2.cell? ⟨w1.heap.size, 1, none⟩ = some (.string t2) ∧ W2.cell? ⟨w1.heap.size, 2, none⟩ = some (.int .i64 p2) := by
        rw [← hW2]; exact spot_box (Below.refl _ _)
      have hb2 : Below w1.heap.size w1 W2 := by rw [← hW2]; exact one_box' _
      have hb1 : Below w.heap.size w w1 := HG.out.bel.grown hg1 HG.out.bel.size (fun q e => by injection e with e; omega)
      have hbW : Below w.heap.size w W2 := hb1.trans (hb2.mono hb1.size)
      have hro : W2.ownsRow w.heap.size 32 4 (.slice A0 n0 c0) n0 (rowM out) :=
        own_below (own_at HG.out.own (fun q e => hg1.block q (HG.out.own.lt q e).2 (fun z => by injection z with z; exact hnr q e z))) hb2
      have hrg2 := ranges_below hrg1 hb2
      have hbs : ∀ k, (Value.slice A0 n0 c0).ownBlock = some k → w.heap.size ≤ k := fun k e => (HG.out.own.lt k e).1
      have HW2 := Lib.hid hW2
      have HBW := Lib.hid hbW
      have HRO := Lib.hid hro
      have HR2 := Lib.hid hrg2
      have HMQ := Lib.hid hmQ
      have HLK := Lib.hid hlk
      have HNR := Lib.hid hnr
      have HBS := Lib.hid hbs
      have HLE : Hid (cnt1 < wr.rangeLeft b w.heap.size) := Lib.hid (by rw [hrg.left_eq]; exact hlt)
      have HLEN := Lib.hid HG.out.len
      have HPERM := Lib.hid HG.out.perm
      have hwz : w.heap.size ≤ W2.heap.size := hbW.size
      clear hkey hlk hv hat hrg1 hlt hg1 hs1 hb2 hb1 hbW hro hrg2 hrg hW2 hmQ hg2 ht2 hp2 hit hnr hbs
      go_upto_region 5 with (fail)
      rw [HW2.out]
      go_wp2_with (at_builtin; refine wpList_append_own _ rfl _ _ 26 rfl w.heap.size 32 i0 _ 4 48 Try.underlying26 hi0 hz0 hz1 hz2 rfl (by decide) _ _ _ rfl (HRO.out.alloc _) ⟨W2.heap.size, 0, none⟩ 1 1 [.string g2, .string t2, .int .i64 p2, .int .i64 c] rfl rfl (cells_four _ _ _ _ _ _) (by simp [Value.oneCell']) (by unfold maxLen; omega) (by omega) (by simp; omega) ?_; intro v' w3 hown' hgrow _)
      have FIN : Hid (LGo w Q b w.heap.size N (fun x => left x && !x.sameKey (kLit g2 t2 p2)) cnt1 D v' (n0 + 1) (out ++ [⟨g2, t2, p2, c⟩]) w3) := Lib.hid (lgo_step HS.out HF.out HMQ.out (k_mk g2 t2 p2 c) HLK.out HLT.out HBW.out HR2.out HNR.out HBS.out HLEN.out HPERM.out hown' hgrow)
      clear hown' hgrow
      obtain ⟨A6, c6, rfl⟩ := own_len FIN.out.own
      go_roundw
      case rel => exact ⟨_, cnt1, A6, c6, n0 + 1, _, rfl, FIN⟩
      case measure => rw [FIN.out.rg.left_eq]; exact HLE.out
/-- a map cloned -/
theorem clone_map {w : World} {b N : Nat} {Q : List Mr} (h : Hid (IsMarks w b N Q)) :
    Calls Try.prog 27 #[.map (some b)] w fun e w' => ∃ b', e = .returned (.map (some b')) ∧ IsMarks w' b' N Q ∧ w.heap.size ≤ b' ∧ Below w.heap.size w w' := by
  obtain ⟨D, ⟨es, c, h1, h2⟩, hd⟩ := h.out
  have hc := AnyW.maps_Clone Try.cloneMap b es c w h1
  change Calls Try.prog 27 _ _ _ at hc
  exact hc.mono fun e w' ⟨he, hw⟩ => ⟨_, he, by rw [hw]; exact ⟨D, ⟨es, c, (MapKept.heap_alloc w _).1, h2⟩, hd⟩, Nat.le_refl _, by rw [hw]; exact one_box' _⟩
set_option maxRecDepth 100000 in
set_option maxHeartbeats 2000000 in
theorem copy_is {w : World} {g b N : Nat} {Q : List Mr} (h : Hid (Tab w g b N Q)) :
    Calls Try.prog 13 #[.pointer (some ⟨g, 0, none⟩)] w fun e w' => ∃ g', e = .returned (.pointer (some ⟨g', 0, none⟩)) ∧ TabM w.heap.size w' g' N Q ∧ Below w.heap.size w w' := by
  have c0 := h.out.c0
  have HM := Lib.hid h.out.map
  go_enter Try.func13, Try.ntmps13
  go_wp2_with (go_at_call 27; refine (clone_map HM).mono ?_; rintro e w1 ⟨b', rfl, hm1, hbb, hb1⟩; have HM1 := Lib.hid hm1; have HBB := Lib.hid hbb; have HB1 := Lib.hid hb1; clear hm1 hbb hb1)
  go_ret
  have hb2 := one_box' (w := w1) (.cells #[.map (some b')] 54)
  exact ⟨_, rfl, ⟨b', ⟨heap_alloc_new _ _, HM1.out.at (hb2.block b' HM1.out.lt)⟩, HB1.out.size, HBB.out⟩, HB1.out.trans (hb2.mono HB1.out.size)⟩
end Go.Proofs.Ytcpfihagcmadcaa.L12
