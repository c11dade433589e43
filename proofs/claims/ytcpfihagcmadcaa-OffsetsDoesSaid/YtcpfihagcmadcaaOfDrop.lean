/-
  Contracts: Drop, Raise.
-/
import Derived.Test.YtcpfihagcmadcaaOfGo
namespace Go.Proofs.Ytcpfihagcmadcaa.L12
open Go.RowKit
open Go.Maps
open L3 L4

/-- while a group's marks go -/
structure DGo (W : World) (gr : ByteArray) (Q : List Mr) (b r N : Nat) (left : Lit → Bool) (cnt n : Nat) (D : DataW Unit) (wr : World) : Prop where
  rg : Over wr b r N D left cnt
  md : MapD D (stay gr left Q)
  num : (Q.filter (fun m => decide (m.g = gr) && !left m.k)).length = n
  only : Only [b] W wr
theorem start_left {D : DataW Unit} {Q : List Mr} (h : MapD D Q) : ∀ x ∈ Q, Maps.has D x.k = true := fun _ hx => h.has_of hx
theorem stay_start {D : DataW Unit} {g : ByteArray} {Q : List Mr} (h : MapD D Q) : stay g (fun kl => Maps.has D kl) Q = Q := by
  unfold stay
  rw [List.filter_eq_self]
  intro x hx
  simp [start_left h x hx]
theorem none_start {D : DataW Unit} {Q : List Mr} (P : Mr → Bool) (h : MapD D Q) : (Q.filter (fun m => P m && !Maps.has D m.k)).length = 0 := by
  rw [List.filter_eq_nil_iff.2 (fun m hm => by simp [start_left h m hm])]; rfl
theorem Only.below2 {S : List Nat} {w w1 w2 : World} (a : Only S w w1) (hb : Below w1.heap.size w1 w2) : Only S w w2 := a.trans (S' := []) (Only.ofBelow hb) (fun q hq => by cases hq)
theorem stay_fits {g : ByteArray} {left : Lit → Bool} {Q : List Mr} (F : Fits Q) : Fits (stay g left Q) := fun x hx => F x (mem_stay.1 hx).1

theorem k_mk (g t : ByteArray) (p c : Int) : (⟨g, t, p, c⟩ : Mr).k = kLit g t p := rfl
theorem dgo_step {w W3 : World} {gr : ByteArray} {m : Mr} {kl : Lit} {Q : List Mr} {b r N n cnt : Nat} {left : Lit → Bool} {D : DataW Unit} (S : SortR Q) (F : Fits Q) (hm : m ∈ Q) (hk : m.k = kl) (hgr : m.g = gr) (hd : MapD D (stay gr left Q))
    (hn : (Q.filter (fun m => decide (m.g = gr) && !(left m.k && !m.k.sameKey kl))).length = n) (hr : Over W3 b r N (D.del kl) (fun x => (left x && !x.sameKey kl) && !x.sameKey kl) cnt) (ho : Only [b] w W3) : DGo w gr Q b r N (fun x => left x && !x.sameKey kl) cnt n (D.del kl) W3 := by
  subst hk
  rw [strike_twice] at hr
  obtain ⟨f1, f2, f3⟩ := F m hm
  exact ⟨hr, hd.del (stay_fits F) m f1 f2 f3 (stay_step S F hm hgr), hn, ho⟩
set_option maxRecDepth 100000 in
set_option maxHeartbeats 4000000 in
theorem drop_is {w : World} {g b N : Nat} {Q : List Mr} (gr : ByteArray) (x : Int) (L : Nat) (h : Hid (Tab w g b N Q)) (G : Hid (Good Q)) (HL : Hid (Q.length = L)) (hl : L ≤ 1000000) (HX : Hid (dropN Q gr = x)) :
    Calls Try.prog 11 #[.pointer (some ⟨g, 0, none⟩), .string gr] w fun e w' => e = .returned (.int .i64 x) ∧ Tab w' g b N (dropQ Q gr) ∧ Only [b] w w' := by
  have c0 := h.out.c0
  obtain ⟨D, hown, hmd⟩ := h.out.map
  have HMD := Lib.hid hmd
  have HGB := Lib.hid h.out.gb
  have HF := Lib.hid G.out.fits
  have HS := Lib.hid G.out.sorted
  clear hmd
  go_enter Try.func11, Try.ntmps11
  go_wp2_with (at_range; refine wpList_range_own _ rfl _ 52 rfl 59 3 lawSpot mapInt _ b N D rfl hown ?_; intro w0 hrg0 hg0 hs0)
  go_frame
  have HRG0 := Lib.hid hrg0
  have HG0 := Lib.hid hg0
  clear c0 hown hrg0 hg0 hs0
  go_loopw [5] (fun nv wr => ∃ (left : Lit → Bool) (cnt n : Nat) (D' : DataW Unit), nv = .int .i64 n ∧ Hid (DGo w gr Q b w.heap.size N left cnt n D' wr)) (fun _ wr => wr.rangeLeft b w.heap.size)
  case atStart => exact ⟨_, _, 0, D, rfl, Lib.hid ⟨HRG0.out, by rw [stay_start HMD.out]; exact HMD.out, none_start (fun m => decide (m.g = gr)) HMD.out, (Only.refl _ _).grown HG0.out (fun q e => by cases e)⟩⟩
  case round =>
    obtain ⟨left, cnt, n, D', rfl, HG⟩ := hrel
    have hrg := HG.out.rg
    have hnl : n ≤ L := by rw [← HG.out.num, ← HL.out]; exact List.length_filter_le _ _
    go_wp2_with (at_next; refine wpList_next_ranges _ rfl _ rfl 59 lawSpot (plainElem (H := Unit) Try.prog 3) kV (Value.int .i64) (fun key kl h => by obtain ⟨x, e, _⟩ := key_inv h; exact ⟨x, e⟩) (fun v y h => by obtain ⟨a, e, _⟩ := plainElem_int_inv Try.underlying3 h; exact ⟨a, e⟩) b w.heap.size N _ _ _ rfl hrg ?_ ?_)
    · intro _ hl0
      have hn : (n : Int) = x := by
        rw [← HX.out, dropN_eq, ← HG.out.num]
        congr 2
        exact List.filter_congr (fun m _ => by rw [hl0]; simp)
      have hT : Tab wr g b N (dropQ Q gr) := h.out.turned HG.out.only ⟨D', hrg.owns, by have := HG.out.md; rwa [stay_end hl0] at this⟩
      have HT := Lib.hid hT
      have HN := Lib.hid hn
      clear hl0 hrg hT hn
      go_wp2_with fail
      go_ret
      exact ⟨congrArg (fun z => Ending.returned (.int .i64 z)) HN.out, HT.out, HG.out.only⟩
    · intro g2 t2 p2 c kl yd yp w1 cnt1 hkey hlk hv hat hrg1 hlt hg1 hs1 hen
      obtain ⟨⟨hg2, ht2, hp2⟩, rfl⟩ := key_is hkey
      dsimp only [kV] at hen hg2 ht2 hp2 ⊢
      dsimp only at hrg1 hlk hat
      have hmm : (⟨g2, t2, p2, c⟩ : Mr) ∈ stay gr left Q := HG.out.md.entry (stay_fits HF.out) hg2 ht2 hp2 hv hat
      have hmQ := (mem_stay.1 hmm).1
      obtain ⟨W2, hW2⟩ : ∃ W2, w1.alloc (.cells #[.string g2, .string t2, .int .i64 p2] 59) = W2 := ⟨_, rfl⟩
      obtain ⟨d0, d1, d2⟩ : W2.cell? ⟨w1.heap.size, 0, none⟩ = some (.string g2) ∧ W2.cell? ⟨w1.heap.size, 1, none⟩ = some (.string t2) ∧ W2.cell? ⟨w1.heap.size, 2, none⟩ = some (.int .i64 p2) := by
        rw [← hW2]; exact spot_box (Below.refl _ _)
      have hb2 : Below w1.heap.size w1 W2 := by rw [← hW2]; exact one_box' _
      have ho1 : Only [b] w w1 := HG.out.only.grown hg1 (fun q e => .inr (by injection e with e; omega))
      have ho2 : Only [b] w W2 := ho1.below2 hb2
      have hrg2 := ranges_below hrg1 hb2
      have c0 : W2.cell? ⟨g, 0, none⟩ = some (.map (some b)) := ho2.cell h.out.c0 (by simpa using HGB.out)
      have HW2 := Lib.hid hW2
      have HO2 := Lib.hid ho2
      have HR2 := Lib.hid hrg2
      have HMM := Lib.hid hmm
      have HMQ := Lib.hid hmQ
      have HLK := Lib.hid hlk
      have HLE : Hid (cnt1 < wr.rangeLeft b w.heap.size) := Lib.hid (by rw [hrg.left_eq]; exact hlt)
      have HG2 := Lib.hid hg2
      have HT2 := Lib.hid ht2
      have HP2 := Lib.hid hp2
      clear hkey hlk hv hat hrg1 hlt hg1 hs1 hb2 ho1 ho2 hrg2 hrg hW2 hmm hmQ hg2 ht2 hp2
      by_cases hid : g2 = gr
      · subst hid
        have HNUM : Hid ((Q.filter (fun m => decide (m.g = g2) && !(left m.k && !m.k.sameKey (kLit g2 t2 p2)))).length = n + 1) := Lib.hid (by
          have e := cnt_step HS.out HF.out HMQ.out HLK.out (fun m => decide (m.g = g2))
          rw [HG.out.num] at e
          exact e.trans (by rw [if_pos (decide_eq_true rfl)]))
        have nl2 : n + 1 ≤ L := by rw [← HNUM.out, ← HL.out]; exact List.length_filter_le _ _
        have w1' : wrap64 ((n : Int) + 1) = ((n + 1 : Nat) : Int) := by simp only [wrap64]; omega
        go_upto_region 6 with (fail)
        obtain ⟨U, hU⟩ := drop_run HR2.out HG2.out HT2.out HP2.out
        have hb0 : ∀ q, Below W2.heap.size W2 (W2.drewN q) := fun q => drewN_below (Below.refl _ _) q
        have u1 := fun ty => (hU ty W2.drew (hb0 1)).1
        have u2 := fun ty => (hU ty W2.drew.drew (hb0 2)).1
        have u3 := fun ty => (hU ty W2.drew.drew.drew (hb0 3)).1
        have HU := Lib.hid hU
        rw [HW2.out]
        have FIN : Hid (∀ ty W', Below W2.heap.size W2 W' → (∃ (left : Lit → Bool) (cnt : Nat) (D' : DataW Unit), Hid (DGo w g2 Q b w.heap.size N left cnt (n + 1) D' (U (ty, W')))) ∧ (U (ty, W')).rangeLeft b w.heap.size < wr.rangeLeft b w.heap.size) := Lib.hid (fun ty W' hb => by
          obtain ⟨_, ⟨cnt2, r2, l2⟩, mt⟩ := HU.out ty W' hb
          have q := dgo_step HS.out HF.out HMQ.out (k_mk g2 t2 p2 c) rfl HG.out.md HNUM.out r2 ((HO2.out.below2 hb).grown mt.grown (fun q e => .inl (by injection e with e; simp [e])))
          exact ⟨⟨_, cnt2, _, Lib.hid q⟩, by rw [q.rg.left_eq]; have := HLE.out; omega⟩)
        clear hU hb0 hen
        go_region
        all_goals
          go_wp2_with fail
          go_roundw
          case rel =>
            obtain ⟨l', c', d', hh⟩ := (FIN.out _ _ (drewN_below (Below.refl _ _) 1)).1
            exact ⟨l', c', n + 1, d', by go_num, hh⟩
          case measure => exact (FIN.out _ _ (drewN_below (Below.refl _ _) 1)).2
      · have t1 : (g2.toList == gr.toList) = false := bytes_off hid
        have HNE := Lib.hid hid
        have HNUM : Hid ((Q.filter (fun m => decide (m.g = gr) && !(left m.k && !m.k.sameKey (kLit g2 t2 p2)))).length = n) := Lib.hid (by
          have e := cnt_step HS.out HF.out HMQ.out HLK.out (fun m => decide (m.g = gr))
          rw [HG.out.num] at e
          exact e.trans (by simp [hid]))
        have hst := stay_off (g := gr) (left := left) HS.out HF.out HMQ.out hid
        have HST := Lib.hid hst
        clear hid hst
        go_wp2_with fail
        rw [HW2.out]
        go_roundw
        case rel => exact ⟨_, cnt1, n, D', rfl, Lib.hid ⟨HR2.out, by rw [show kLit g2 t2 p2 = (⟨g2, t2, p2, c⟩ : Mr).k from rfl, HST.out]; exact HG.out.md, HNUM.out, HO2.out⟩⟩
        case measure => rw [HR2.out.left_eq]; exact HLE.out
end Go.Proofs.Ytcpfihagcmadcaa.L12
