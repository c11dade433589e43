/-
  Contracts: Raise.
-/
import Derived.Test.YtcpfihagcmadcaaOfDrop
namespace Go.Proofs.Ytcpfihagcmadcaa.L12
open Go.RowKit
open Go.Maps
open L3 L4

/-- while marks are raised -/
structure RGo (W : World) (t : ByteArray) (p least : Int) (Q : List Mr) (b r N : Nat) (left : Lit → Bool) (cnt n : Nat) (D : DataW Unit) (wr : World) : Prop where
  rg : Over wr b r N D left cnt
  md : MapD D (rais t p least left Q)
  num : (Q.filter (fun m => raiseB t p least m && !left m.k)).length = n
  only : Only [b] W wr
theorem rgo_step {w W3 : World} {t : ByteArray} {p least : Int} {m : Mr} {kl : Lit} {Q : List Mr} {b r N n cnt : Nat} {left : Lit → Bool} {D : DataW Unit} (S : SortR Q) (F : Fits Q) (hm : m ∈ Q) (hk : m.k = kl) (hl : left kl = true) (hr : raiseB t p least m = true) (hd : MapD D (rais t p least left Q)) (hD : IsMap D)
    (hn : (Q.filter (fun m => raiseB t p least m && !(left m.k && !m.k.sameKey kl))).length = n) (ho3 : Over W3 b r N (D.put kl (.lit (.int .i64 least))) (fun x => left x && !x.sameKey kl) cnt) (ho : Only [b] w W3) : RGo w t p least Q b r N (fun x => left x && !x.sameKey kl) cnt n (D.put kl (.lit (.int .i64 least))) W3 := by
  subst hk
  obtain ⟨f1, f2, f3⟩ := F m hm
  exact ⟨ho3, hd.put hD (rais_fits F) (upTo m least) f1 f2 f3 (rais_step S F hm hl hr), hn, ho⟩
theorem rgo_off {w W3 : World} {t : ByteArray} {p least : Int} {m : Mr} {kl : Lit} {Q : List Mr} {b r N n cnt : Nat} {left : Lit → Bool} {D : DataW Unit} (S : SortR Q) (F : Fits Q) (hm : m ∈ Q) (hk : m.k = kl) (hl : left kl = true) (hr : raiseB t p least m = false) (hd : MapD D (rais t p least left Q))
    (hn : (Q.filter (fun m => raiseB t p least m && !left m.k)).length = n) (ho3 : Over W3 b r N D (fun x => left x && !x.sameKey kl) cnt) (ho : Only [b] w W3) : RGo w t p least Q b r N (fun x => left x && !x.sameKey kl) cnt n D W3 := by
  subst hk
  refine ⟨ho3, by rw [rais_off S F hm hl hr]; exact hd, ?_, ho⟩
  have e := cnt_step S F hm hl (raiseB t p least)
  rw [hn] at e
  exact e.trans (by simp [hr])
theorem ex_many {P : (Lit → Bool) → Nat → DataW Unit → Prop} (h : ∃ l c d, P l c d) : ∃ l c d, P l c d := h

set_option maxRecDepth 100000 in
set_option maxHeartbeats 4000000 in
theorem raise_is {w : World} {g b N : Nat} {Q : List Mr} (t : ByteArray) (p least x : Int) (L : Nat) (h : Hid (Tab w g b N Q)) (G : Hid (Good Q)) (hN : N ≤ 1000000) (HLW : Hid ((Lit.int .i64 least).wf = true)) (HL : Hid (Q.length = L)) (hl : L ≤ 1000000) (HX : Hid (raiseN Q t p least = x)) :
    Calls Try.prog 9 #[.pointer (some ⟨g, 0, none⟩), .agg #[.string t, .int .i64 p], .int .i64 least] w fun e w' => e = .returned (.int .i64 x) ∧ Tab w' g b N (raiseQ Q t p least) ∧ Only [b] w w' := by
  have hx := HX.out
  unfold raiseN at hx
  unfold raiseQ
  obtain ⟨W, hW⟩ : ∃ W, w.alloc (.cells #[.string t, .int .i64 p] 30) = W := ⟨_, rfl⟩
  have hbW : Below w.heap.size w W := by rw [← hW]; exact one_box' _
  have hr : W.heap[w.heap.size]? = some (.cells #[.string t, .int .i64 p] 30 (0, 0)) := by rw [← hW]; exact part_row w t p
  have b0 : W.cell? ⟨w.heap.size, 0, none⟩ = some (.string t) := (cell_of_row _ _ 0 _ _ _ hr).trans rfl
  have b1 : W.cell? ⟨w.heap.size, 1, none⟩ = some (.int .i64 p) := (cell_of_row _ _ 1 _ _ _ hr).trans rfl
  have HW := Lib.hid hW
  have HBW := Lib.hid hbW
  have HT1 := Lib.hid (h.out.below hbW)
  clear hW hbW hr
  by_cases hle : least ≤ 1099511627776
  · rw [if_pos hle] at hx ⊢
    have hx1 : ¬ least > 1099511627776 := by omega
    have HXX := Lib.hid hx
    have c0 := HT1.out.c0
    obtain ⟨D, hown, hmd⟩ := HT1.out.map
    have HMD := Lib.hid hmd
    have HGB := Lib.hid h.out.gb
    have HBL : Hid (w.heap.size ∉ [b]) := Lib.hid (by have := h.out.map.lt; simp; omega)
    have HF := Lib.hid G.out.fits
    have HS := Lib.hid G.out.sorted
    have HB0 := Lib.hid b0
    have HB1 := Lib.hid b1
    clear hmd hx HX hle b0 b1
    go_enter Try.func9, Try.ntmps9
    go_upto_region 1 with (fail)
    rw [HW.out]
    go_wp2_with (at_range; refine wpList_range_own _ rfl _ 52 rfl 59 3 lawSpot mapInt _ b N D rfl hown ?_; intro w0 hrg0 hg0 hs0)
    try go_frame
    have HRG0 := Lib.hid hrg0
    have HG0 := Lib.hid hg0
    clear c0 hown hrg0 hg0 hs0 hx1
    go_loopw [7] (fun nv wr => ∃ (left : Lit → Bool) (cnt n : Nat) (D' : DataW Unit), nv = .int .i64 n ∧ Hid (RGo W t p least Q b W.heap.size N left cnt n D' wr)) (fun _ wr => wr.rangeLeft b W.heap.size)
    case atStart => exact ⟨_, _, 0, D, rfl, Lib.hid ⟨HRG0.out, by rw [rais_start (start_left HMD.out)]; exact HMD.out, none_start (raiseB t p least) HMD.out, (Only.refl _ _).grown HG0.out (fun q e => by cases e)⟩⟩
    case round =>
      obtain ⟨left, cnt, n, D', rfl, HG⟩ := hrel
      have hrg := HG.out.rg
      have hnl : n ≤ L := by rw [← HG.out.num, ← HL.out]; exact List.length_filter_le _ _
      go_wp2_with (at_next; refine wpList_next_ranges _ rfl _ rfl 59 lawSpot (plainElem (H := Unit) Try.prog 3) kV (Value.int .i64) (fun key kl h => by obtain ⟨x, e, _⟩ := key_inv h; exact ⟨x, e⟩) (fun v y h => by obtain ⟨a, e, _⟩ := plainElem_int_inv Try.underlying3 h; exact ⟨a, e⟩) b W.heap.size N _ _ _ rfl hrg ?_ ?_)
      · intro _ hl0
        have hn : (n : Int) = x := by
          rw [← HXX.out, ← HG.out.num]
          congr 2
          exact List.filter_congr (fun m _ => by rw [hl0]; simp)
        have hT : Tab wr g b N (raiseQ0 Q t p least) := HT1.out.turned HG.out.only ⟨D', hrg.owns, by have := HG.out.md; rwa [rais_end hl0] at this⟩
        have HT := Lib.hid hT
        have HN := Lib.hid hn
        clear hl0 hrg hT hn
        go_wp2_with fail
        go_ret
        exact ⟨congrArg (fun z => Ending.returned (.int .i64 z)) HN.out, HT.out, (Only.ofBelow HBW.out).trans HG.out.only (fun k hk => .inl hk)⟩
      · intro g2 t2 p2 c kl yd yp w1 cnt1 hkey hlk hv hat hrg1 hlt hg1 hs1 hen
        obtain ⟨⟨hg2, ht2, hp2⟩, rfl⟩ := key_is hkey
        dsimp only [kV] at hen hg2 ht2 hp2 ⊢
        dsimp only at hrg1 hlk hat
        have hmm : (⟨g2, t2, p2, c⟩ : Mr) ∈ rais t p least left Q := HG.out.md.entry (rais_fits HF.out) hg2 ht2 hp2 hv hat
        have hmQ : (⟨g2, t2, p2, c⟩ : Mr) ∈ Q := rais_at hmm (by rw [k_mk]; exact hlk)
        obtain ⟨W2, hW2⟩ : ∃ W2, w1.alloc (.cells #[.string g2, .string t2, .int .i64 p2] 59) = W2 := ⟨_, rfl⟩
        obtain ⟨d0, d1, d2⟩ : W2.cell? ⟨w1.heap.size, 0, none⟩ = some (.string g2) ∧ W2.cell? ⟨w1.heap.size, 1, none⟩ = some (.string t2) ∧ W2.cell? ⟨w1.heap.size, 2, none⟩ = some (.int .i64 p2) := by
          rw [← hW2]; exact spot_box (Below.refl _ _)
        have hb2 : Below w1.heap.size w1 W2 := by rw [← hW2]; exact one_box' _
        have ho1 : Only [b] W w1 := HG.out.only.grown hg1 (fun q e => .inr (by injection e with e; omega))
        have ho2 : Only [b] W W2 := ho1.below2 hb2
        have hrg2 := ranges_below hrg1 hb2
        have c0 : W2.cell? ⟨g, 0, none⟩ = some (.map (some b)) := ho2.cell HT1.out.c0 (by simpa using HGB.out)
        have e0 : W2.cell? ⟨w.heap.size, 0, none⟩ = some (.string t) := ho2.cell HB0.out HBL.out
        have e1 : W2.cell? ⟨w.heap.size, 1, none⟩ = some (.int .i64 p) := ho2.cell HB1.out HBL.out
        have HIN : Hid (Maps.has D' (kLit g2 t2 p2) = true) := Lib.hid (by rw [← k_mk g2 t2 p2 c]; exact HG.out.md.has_of hmm)
        have HW2 := Lib.hid hW2
        have HO2 := Lib.hid ho2
        have HR2 := Lib.hid hrg2
        have HMQ := Lib.hid hmQ
        have HLK := Lib.hid hlk
        have HLE : Hid (cnt1 < wr.rangeLeft b W.heap.size) := Lib.hid (by rw [hrg.left_eq]; exact hlt)
        have HIM : Hid (IsMap D') := Lib.hid hrg.owns.isMap
        have HG2 := Lib.hid hg2
        have HT2 := Lib.hid ht2
        have HP2 := Lib.hid hp2
        clear hkey hlk hv hat hrg1 hlt hg1 hs1 hb2 ho1 ho2 hrg2 hrg hW2 hmm hmQ hg2 ht2 hp2
        cases hrb : raiseB t p least ⟨g2, t2, p2, c⟩ with
        | true =>
          have HRB := Lib.hid hrb
          obtain ⟨⟨rfl, rfl⟩, hlo⟩ : (t2 = t ∧ p2 = p) ∧ c < least := by
            unfold raiseB at hrb; simpa using hrb
          have HNUM : Hid ((Q.filter (fun m => raiseB t2 p2 least m && !(left m.k && !m.k.sameKey (kLit g2 t2 p2)))).length = n + 1) := Lib.hid (by
            have e := cnt_step HS.out HF.out HMQ.out HLK.out (raiseB t2 p2 least)
            rw [HG.out.num] at e
            exact e.trans (by rw [if_pos HRB.out]))
          have nl2 : n + 1 ≤ L := by rw [← HNUM.out, ← HL.out]; exact List.length_filter_le _ _
          have w1' : wrap64 ((n : Int) + 1) = ((n + 1 : Nat) : Int) := by simp only [wrap64]; omega
          clear hrb
          go_upto_region 7 with (fail)
          rw [HW2.out]
          go_upto_region 8 with (fail)
          obtain ⟨U, hU⟩ := store_run HR2.out (show N < maxLen by unfold maxLen; omega) HG2.out HT2.out HP2.out HLW.out HIN.out
          have hb0 : ∀ q, Below W2.heap.size W2 (W2.drewN q) := fun q => drewN_below (Below.refl _ _) q
          have u1 := (hU W2.drew (hb0 1)).1
          have u2 := (hU W2.drew.drew (hb0 2)).1
          have u3 := (hU W2.drew.drew.drew (hb0 3)).1
          have FIN : Hid (∀ W', Below W2.heap.size W2 W' → (∃ (left : Lit → Bool) (cnt : Nat) (D' : DataW Unit), Hid (RGo W t2 p2 least Q b W.heap.size N left cnt (n + 1) D' (U W'))) ∧ (U W').rangeLeft b W.heap.size < wr.rangeLeft b W.heap.size) := Lib.hid (fun W' hb => by
            obtain ⟨_, r2, mt⟩ := hU W' hb
            have q := rgo_step HS.out HF.out HMQ.out (k_mk g2 t2 p2 c) HLK.out HRB.out HG.out.md HIM.out HNUM.out r2 ((HO2.out.below2 hb).grown mt.grown (fun q e => .inl (by injection e with e; simp [e])))
            exact ⟨⟨_, cnt1, _, Lib.hid q⟩, by rw [q.rg.left_eq]; exact HLE.out⟩)
          clear hU hb0 hen
          go_region
          all_goals
            go_wp2_with fail
            go_roundw
            case rel =>
              obtain ⟨l', c', d', hh⟩ := (FIN.out _ (drewN_below (Below.refl _ _) 1)).1
              exact ⟨l', c', n + 1, d', by go_num, hh⟩
            case measure => exact (FIN.out _ (drewN_below (Below.refl _ _) 1)).2
        | false =>
          have FIN : Hid (RGo W t p least Q b W.heap.size N (fun x => left x && !x.sameKey (kLit g2 t2 p2)) cnt1 n D' W2) := Lib.hid (rgo_off HS.out HF.out HMQ.out (k_mk g2 t2 p2 c) HLK.out hrb HG.out.md HG.out.num HR2.out HO2.out)
          have hor : t2 ≠ t ∨ (t2 = t ∧ p2 ≠ p) ∨ (t2 = t ∧ p2 = p ∧ ¬ c < least) := by
            unfold raiseB at hrb
            rw [Bool.and_eq_false_iff, decide_eq_false_iff_not, decide_eq_false_iff_not] at hrb
            dsimp only at hrb
            by_cases a : t2 = t
            · by_cases a' : p2 = p
              · refine .inr (.inr ⟨a, a', ?_⟩)
                rcases hrb with q | q
                · exact absurd ⟨a, a'⟩ q
                · exact q
              · exact .inr (.inl ⟨a, a'⟩)
            · exact .inl a
          clear hrb
          rcases hor with hne | ⟨rfl, hne⟩ | ⟨rfl, rfl, hne⟩
          · have t1 : (t2.toList == t.toList) = false := bytes_off hne
            clear hne
            go_upto_region 7 with (fail)
            rw [HW2.out]
            go_wp2_with fail
            go_roundw
            case rel => exact ⟨_, cnt1, n, D', rfl, FIN⟩
            case measure => rw [FIN.out.rg.left_eq]; exact HLE.out
          · have t1 : (p2 == p) = false := by simpa using hne
            clear hne
            go_upto_region 7 with (fail)
            rw [HW2.out]
            go_wp2_with fail
            go_roundw
            case rel => exact ⟨_, cnt1, n, D', rfl, FIN⟩
            case measure => rw [FIN.out.rg.left_eq]; exact HLE.out
          · go_upto_region 7 with (fail)
            rw [HW2.out]
            go_wp2_with fail
            go_roundw
            case rel => exact ⟨_, cnt1, n, D', rfl, FIN⟩
            case measure => rw [FIN.out.rg.left_eq]; exact HLE.out
  · rw [if_neg hle] at hx ⊢
    subst hx
    have hx1 : least > 1099511627776 := by omega
    clear hle HX
    go_enter Try.func9, Try.ntmps9
    go_wp2_with fail
    rw [HW.out]
    go_ret
    exact ⟨rfl, HT1.out, Only.ofBelow HBW.out⟩
end Go.Proofs.Ytcpfihagcmadcaa.L12
