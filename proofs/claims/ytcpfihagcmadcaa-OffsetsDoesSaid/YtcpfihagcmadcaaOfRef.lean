/-
  The document's own: may a mark be; which stands ahead; Get; Behind.
-/
import Derived.Test.YtcpfihagcmadcaaOfLaw
import Derived.Test.YtcpfihagcmadcaaMReqTops
namespace Go.Proofs.Ytcpfihagcmadcaa.L12
open Go.RowKit
open Go.Maps
open L3 L4
open L8 (cT cT_refl cT_eq cT_swap cT_trans ci_lt ci_zero)

theorem less_cb : ∀ l m : List UInt8, lessL (l.map (·.toNat)) (m.map (·.toNat)) = decide (Lib.compareBytes l m < 0)
  | [], [] => by simp [lessL, Lib.compareBytes]
  | [], _ :: _ => by simp [lessL, Lib.compareBytes]
  | _ :: _, [] => by simp [lessL, Lib.compareBytes]
  | x :: l, y :: m => by
    have ih := less_cb l m
    simp only [List.map_cons, lessL, Lib.compareBytes]
    by_cases h1 : x < y
    · have h1' : x.toNat < y.toNat := h1
      simp [h1, h1', Nat.ne_of_lt h1']
    · by_cases h2 : y < x
      · have h2' : y.toNat < x.toNat := h2
        simp [h1, h2, Nat.ne_of_gt h2', Nat.not_lt_of_lt h2']
      · have e : x = y := UInt8.le_antisymm (UInt8.not_lt.1 h2) (UInt8.not_lt.1 h1)
        subst e
        simp [ih]
theorem lessB_c (a b : ByteArray) : lessB a b = decide (cT a b < 0) := by
  unfold lessB cT
  rw [← less_cb]
  rfl
theorem two_box (w : World) (o1 o2 : Obj) : Below w.heap.size w ((w.alloc o1).alloc o2) := (one_box' o1).alloc (one_box' o1).size _
set_option maxRecDepth 100000 in
set_option maxHeartbeats 2000000 in
theorem rmay_is (g t : ByteArray) (p o : Int) (v : Bool) (w : World) (hg : Hid (g.size ≤ maxLen)) (ht : Hid (t.size ≤ maxLen)) (HV : Hid (mayR ⟨g, t, p, o⟩ = v)) :
    Calls Try.prog 25 #[.agg #[.string g, .string t, .int .i64 p, .int .i64 o]] w fun e w' => e = .returned (.bool v) ∧ Below w.heap.size w w' := by
  obtain ⟨x1, h1⟩ : ∃ x, nameB g = x := ⟨_, rfl⟩
  obtain ⟨x2, h2⟩ : ∃ x, nameB t = x := ⟨_, rfl⟩
  obtain ⟨x3, h3⟩ : ∃ x, numB p = x := ⟨_, rfl⟩
  obtain ⟨x4, h4⟩ : ∃ x, numB o = x := ⟨_, rfl⟩
  have hv := HV.out
  unfold mayR at hv
  dsimp only at hv
  rw [h1, h2, h3, h4] at hv
  have HX := Lib.hid hv
  have NG : ∀ W, Calls Try.prog 34 #[.string g] W fun e w' => e = .returned (.bool x1) ∧ W = w' := fun W => (rname_any g W hg.out).mono fun _ _ ⟨a, b⟩ => ⟨by rw [a, h1], b⟩
  have NT : ∀ W, Calls Try.prog 34 #[.string t] W fun e w' => e = .returned (.bool x2) ∧ W = w' := fun W => (rname_any t W ht.out).mono fun _ _ ⟨a, b⟩ => ⟨by rw [a, h2], b⟩
  have H3 := Lib.hid h3
  have H4 := Lib.hid h4
  obtain ⟨W, hW⟩ : ∃ W, w.alloc (.cells #[.string g, .string t, .int .i64 p, .int .i64 o] 32) = W := ⟨_, rfl⟩
  have hbW : Below w.heap.size w W := by rw [← hW]; exact one_box' _
  have hr : W.heap[w.heap.size]? = some (.cells #[.string g, .string t, .int .i64 p, .int .i64 o] 32 (0, 0)) := by rw [← hW]; exact box_row w g t p o
  obtain ⟨b0, b1, b2, b3⟩ := row4 hr
  have HW := Lib.hid hW
  have HBW := Lib.hid hbW
  clear h1 h2 h3 h4 hv hr hW hbW HV
  go_enter Try.func25, Try.ntmps25
  go_upto_region 1 with (fail)
  rw [HW.out]
  go_wp2_with (first
    | (go_at_call 34; with_reducible refine (NT _).mono ?_; rintro e w2 ⟨rfl, rfl⟩)
    | (go_at_call 34; with_reducible refine (NG _).mono ?_; rintro e w1 ⟨rfl, rfl⟩)
    | (go_at_call 31; with_reducible refine (num_is o x4 _ H4).mono ?_; rintro e w3 ⟨rfl, rfl⟩)
    | (go_at_call 31; with_reducible refine (num_is p x3 _ H3).mono ?_; rintro e w3 ⟨rfl, rfl⟩))
  all_goals
    go_ret
    refine ⟨congrArg (fun b => Ending.returned (.bool b)) (Eq.trans ?_ HX.out), HBW.out⟩
    simp [*]
set_option maxRecDepth 100000 in
set_option maxHeartbeats 2000000 in
theorem rbefore_is (ag at_ bg bt : ByteArray) (ap ao bp bo : Int) (v : Bool) (w : World) (h1 : ag.size ≤ maxLen) (h2 : at_.size ≤ maxLen) (h3 : bg.size ≤ maxLen) (h4 : bt.size ≤ maxLen) (HV : Hid (befR ⟨ag, at_, ap, ao⟩ ⟨bg, bt, bp, bo⟩ = v)) :
    Calls Try.prog 26 #[.agg #[.string ag, .string at_, .int .i64 ap, .int .i64 ao], .agg #[.string bg, .string bt, .int .i64 bp, .int .i64 bo]] w fun e w' => e = .returned (.bool v) ∧ Below w.heap.size w w' := by
  have hv := HV.out
  have hi := bef_iff ⟨ag, at_, ap, ao⟩ ⟨bg, bt, bp, bo⟩
  rw [hv] at hi
  dsimp only at hi
  have HK := Lib.hid (two_box w (.cells #[.string ag, .string at_, .int .i64 ap, .int .i64 ao] 32) (.cells #[.string bg, .string bt, .int .i64 bp, .int .i64 bo] 32))
  clear hv HV
  by_cases e1 : ag = bg
  · subst e1
    by_cases e2 : at_ = bt
    · subst e2
      have e : decide (ap < bp) = v := by
        rw [Bool.eq_iff_iff, hi, decide_eq_true_iff]
        simp [cT_refl]
      clear hi
      go_enter Try.func26, Try.ntmps26
      go_wp2_with fail
      go_ret
      exact ⟨by first | rw [e] | rfl, HK.out⟩
    · have e : lessB at_ bt = v := by
        rw [lessB_c, Bool.eq_iff_iff, hi, decide_eq_true_iff]
        simp [e2, cT_refl]
      have HE := Lib.hid e
      have e3 : (at_.toList == bt.toList) = false := bytes_off e2
      clear hi e e2
      go_enter Try.func26, Try.ntmps26
      go_wp2_with (go_at_call 35; refine (rless_is at_ bt v _ h2 h4 HE).mono ?_; rintro e w1 ⟨rfl, hb1⟩)
      go_ret
      exact ⟨rfl, HK.out.trans (hb1.mono HK.out.size)⟩
  · have e : lessB ag bg = v := by
      rw [lessB_c, Bool.eq_iff_iff, hi, decide_eq_true_iff]
      simp [e1]
    have HE := Lib.hid e
    have e3 : (ag.toList == bg.toList) = false := bytes_off e1
    clear hi e e1
    go_enter Try.func26, Try.ntmps26
    go_wp2_with (go_at_call 35; refine (rless_is ag bg v _ h1 h3 HE).mono ?_; rintro e w1 ⟨rfl, hb1⟩)
    go_ret
    exact ⟨rfl, HK.out.trans (hb1.mono HK.out.size)⟩

/-! ### Get -/
theorem at_drop {Q : List Mr} {g t : ByteArray} {p : Int} {j : Nat} {m : Mr} (h : Q[j]? = some m) : (isR (Q.drop j) g t p = if isAt g t p m = true then true else isR (Q.drop (j + 1)) g t p) ∧ (atR (Q.drop j) g t p = if isAt g t p m = true then m.o else atR (Q.drop (j + 1)) g t p) := by
  obtain ⟨hj, e⟩ := List.getElem?_eq_some_iff.1 h
  rw [List.drop_eq_getElem_cons hj, e]
  cases hm : isAt g t p m <;> simp [isR, atR, hm]
theorem Doc.mark {w : World} {B k cap : Nat} {A : Option Addr} {Q : List Mr} (h : Doc w B k A cap Q) {j : Nat} {m : Mr} (hm : Q[j]? = some m) : ∃ g, A = some ⟨g, 0, none⟩ ∧ B ≤ g ∧ g < w.heap.size ∧ MarkAt w g (j * 4) m ∧ Q.length ≤ cap := by
  rcases h.own.2 with ⟨_, e⟩ | ⟨g, cap', cur, e, h1, hh, hc, _⟩
  · have := (List.getElem?_eq_some_iff.1 hm).1; omega
  · injection e with e1 _ e3; subst e1; subst e3
    have q := fun i u hu => h.own.cells (g := g) rfl (j * 4 + i) u (rowM_at hm i u hu)
    have q0 := q 0 _ rfl; have q1 := q 1 _ rfl; have q2 := q 2 _ rfl; have q3 := q 3 _ rfl
    rw [Addr.add_lit, Nat.zero_add] at q0 q1 q2 q3
    exact ⟨g, rfl, h1, (Array.getElem?_eq_some_iff.1 hh).1, ⟨q0, q1, q2, q3⟩, hc⟩
set_option maxRecDepth 100000 in
set_option maxHeartbeats 4000000 in
theorem rget_is {w : World} {B k cap : Nat} {A : Option Addr} {Q : List Mr} (gr t : ByteArray) (p x : Int) (v : Bool) (L : Nat) (h : Hid (Doc w B k A cap Q)) (HL : Hid (Q.length = L)) (hl : L ≤ 1000000) (HX : Hid (atR Q gr t p = x)) (HV : Hid (isR Q gr t p = v)) :
    Calls Try.prog 15 #[.pointer (some ⟨k, 0, none⟩), .string gr, .agg #[.string t, .int .i64 p]] w fun e w' => e = .returned (.tuple #[.int .i64 x, .bool v]) ∧ Below w.heap.size w w' := by
  obtain ⟨W, hW⟩ : ∃ W, w.alloc (.cells #[.string t, .int .i64 p] 30) = W := ⟨_, rfl⟩
  have hbW : Below w.heap.size w W := by rw [← hW]; exact one_box' _
  have hr : W.heap[w.heap.size]? = some (.cells #[.string t, .int .i64 p] 30 (0, 0)) := by rw [← hW]; exact part_row w t p
  have HB0 : Hid (W.cell? ⟨w.heap.size, 0, none⟩ = some (.string t)) := Lib.hid ((cell_of_row _ _ 0 _ _ _ hr).trans rfl)
  have HB1 : Hid (W.cell? ⟨w.heap.size, 1, none⟩ = some (.int .i64 p)) := Lib.hid ((cell_of_row _ _ 1 _ _ _ hr).trans rfl)
  have HW := Lib.hid hW
  have HBW := Lib.hid hbW
  have HD := Lib.hid (h.out.below hbW)
  clear hW hbW hr h
  go_enter Try.func15, Try.ntmps15
  go_upto_region 1 with (fail)
  rw [HW.out]
  go_wp2_with fail
  go_loopw [8] (fun i wr => ∃ j : Nat, j ≤ L ∧ i = .int .i64 j ∧ Hid (atR (Q.drop j) gr t p = x) ∧ Hid (isR (Q.drop j) gr t p = v) ∧ Hid (Below W.heap.size W wr)) (fun i _ => L - (intOf i).toNat)
  case atStart => exact ⟨0, Nat.zero_le _, rfl, by simpa using HX, by simpa using HV, Lib.hid (Below.refl _ _)⟩
  case round =>
    obtain ⟨j, hj, rfl, HXJ, HVJ, HBJ⟩ := hrel
    have HDJ := Lib.hid (HD.out.below HBJ.out)
    have c0 := HDJ.out.c0
    rw [HL.out] at c0
    have e0 := cell_at HBJ.out HB0.out
    have e1 := cell_at HBJ.out HB1.out
    by_cases hlt : j < L
    · obtain ⟨⟨g2, t2, p2, o2⟩, hst⟩ : ∃ st, Q[j]? = some st := ⟨Q[j]'(by rw [HL.out]; exact hlt), List.getElem?_eq_getElem _⟩
      obtain ⟨ga, rfl, -, -, hma, -⟩ := HDJ.out.mark hst
      obtain ⟨d0, d1, d2, d3⟩ := hma
      dsimp only at d0 d1 d2 d3
      obtain ⟨a1, a2⟩ := at_drop (g := gr) (t := t) (p := p) hst
      rw [HVJ.out] at a1
      rw [HXJ.out] at a2
      dsimp only at a2
      have HA1 := Lib.hid a1
      have HA2 := Lib.hid a2
      have j0 : (0 : Int) ≤ (j : Int) := by omega
      have j1 : (j : Int) < (L : Int) := by omega
      clear hst a1 a2
      by_cases hg : g2 = gr
      · subst hg
        by_cases ht : t2 = t
        · subst ht
          by_cases hp : p2 = p
          · subst hp
            have hat : isAt g2 t2 p2 ⟨g2, t2, p2, o2⟩ = true := isAt_iff.2 ⟨rfl, rfl, rfl⟩
            obtain rfl : v = true := by rw [HA1.out, if_pos hat]
            obtain rfl : x = o2 := by rw [HA2.out, if_pos hat]
            clear HA1 HA2 hat
            go_wp2_with fail
            go_quiet (fail)
            go_wp2_with fail
            go_ret2
            exact ⟨rfl, HBW.out.trans ((drewN_below HBJ.out _).mono HBW.out.size)⟩
          · have hat : ¬ isAt g2 t2 p ⟨g2, t2, p2, o2⟩ = true := fun q => hp (isAt_iff.1 q).2.2
            have HVN : Hid (isR (Q.drop (j + 1)) g2 t2 p = v) := Lib.hid (by rw [HA1.out, if_neg hat])
            have HXN : Hid (atR (Q.drop (j + 1)) g2 t2 p = x) := Lib.hid (by rw [HA2.out, if_neg hat])
            have t0 : (p2 == p) = false := by simpa using hp
            clear HA1 HA2 hat hp
            go_wp2_with fail
            go_quiet (fail)
            go_wp2_with fail
            go_roundw
            case rel => exact ⟨j + 1, by omega, by go_num, HXN, HVN, Lib.hid (drewN_below HBJ.out _)⟩
            case measure => simp [intOf]; omega
        · have hat : ¬ isAt g2 t p ⟨g2, t2, p2, o2⟩ = true := fun q => ht (isAt_iff.1 q).2.1
          have HVN : Hid (isR (Q.drop (j + 1)) g2 t p = v) := Lib.hid (by rw [HA1.out, if_neg hat])
          have HXN : Hid (atR (Q.drop (j + 1)) g2 t p = x) := Lib.hid (by rw [HA2.out, if_neg hat])
          have t0 : (t2.toList == t.toList) = false := bytes_off ht
          clear HA1 HA2 hat ht
          go_wp2_with fail
          go_quiet (fail)
          go_wp2_with fail
          go_roundw
          case rel => exact ⟨j + 1, by omega, by go_num, HXN, HVN, Lib.hid (drewN_below HBJ.out _)⟩
          case measure => simp [intOf]; omega
      · have hat : ¬ isAt gr t p ⟨g2, t2, p2, o2⟩ = true := fun q => hg (isAt_iff.1 q).1
        have HVN : Hid (isR (Q.drop (j + 1)) gr t p = v) := Lib.hid (by rw [HA1.out, if_neg hat])
        have HXN : Hid (atR (Q.drop (j + 1)) gr t p = x) := Lib.hid (by rw [HA2.out, if_neg hat])
        have t0 : (g2.toList == gr.toList) = false := bytes_off hg
        clear HA1 HA2 hat hg
        go_wp2_with fail
        go_quiet (fail)
        go_wp2_with fail
        go_roundw
        case rel => exact ⟨j + 1, by omega, by go_num, HXN, HVN, Lib.hid (drewN_below HBJ.out _)⟩
        case measure => simp [intOf]; omega
    · obtain rfl : j = L := by omega
      have hd : Q.drop j = [] := List.drop_of_length_le (by rw [HL.out]; exact Nat.le_refl _)
      obtain rfl : v = false := by rw [← HVJ.out, hd]; rfl
      obtain rfl : x = 0 := by rw [← HXJ.out, hd]; rfl
      clear hlt hd
      go_wp2_with fail
      go_ret2
      exact ⟨rfl, HBW.out.trans (HBJ.out.mono HBW.out.size)⟩
set_option maxRecDepth 100000 in
set_option maxHeartbeats 2000000 in
theorem rbehind_is {w : World} {B k cap : Nat} {A : Option Addr} {Q : List Mr} (gr t : ByteArray) (p e x : Int) (L : Nat) (h : Hid (Doc w B k A cap Q)) (G : Hid (Good Q)) (HL : Hid (Q.length = L)) (hl : L ≤ 1000000) (HX : Hid (behindR Q gr t p e = x)) :
    Calls Try.prog 19 #[.pointer (some ⟨k, 0, none⟩), .string gr, .agg #[.string t, .int .i64 p], .int .i64 e] w fun r w' => r = .returned (.int .i64 x) ∧ Below w.heap.size w w' := by
  obtain ⟨W, hW⟩ : ∃ W, w.alloc (.cells #[.string t, .int .i64 p] 30) = W := ⟨_, rfl⟩
  have hbW : Below w.heap.size w W := by rw [← hW]; exact one_box' _
  have hr : W.heap[w.heap.size]? = some (.cells #[.string t, .int .i64 p] 30 (0, 0)) := by rw [← hW]; exact part_row w t p
  have b0 : W.cell? ⟨w.heap.size, 0, none⟩ = some (.string t) := (cell_of_row _ _ 0 _ _ _ hr).trans rfl
  have b1 : W.cell? ⟨w.heap.size, 1, none⟩ = some (.int .i64 p) := (cell_of_row _ _ 1 _ _ _ hr).trans rfl
  have HW := Lib.hid hW
  have HBW := Lib.hid hbW
  have HT1 := Lib.hid (h.out.below hbW)
  clear hW hbW hr
  have hx := HX.out
  unfold behindR at hx
  cases hn : numB e with
  | false =>
    rw [hn, if_neg (by simp)] at hx
    subst hx
    have HN := Lib.hid hn
    clear hn HX
    go_enter Try.func19, Try.ntmps19
    go_wp2_with (go_at_call 31; rw [HW.out]; refine (num_is e false _ HN).mono ?_; rintro r w1 ⟨rfl, rfl⟩)
    go_ret
    exact ⟨rfl, HBW.out⟩
  | true =>
    rw [hn, if_pos rfl] at hx
    obtain ⟨y, hy⟩ : ∃ y, atR Q gr t p = y := ⟨_, rfl⟩
    obtain ⟨v, hv⟩ : ∃ v, isR Q gr t p = v := ⟨_, rfl⟩
    have HY := Lib.hid hy
    have HV := Lib.hid hv
    have HN := Lib.hid hn
    have hat := G.out.at gr t p
    rw [hy] at hat hx
    unfold numB at hn
    rw [decide_eq_true_iff] at hn
    obtain ⟨z, hz⟩ : ∃ z, e - y = z := ⟨_, rfl⟩
    have e1 : wrap64 (e - y) = z := by simp only [wrap64]; omega
    rw [hz] at hx
    have HZX := Lib.hid hx
    clear hn HX hx hat hy hv hz
    go_enter Try.func19, Try.ntmps19
    go_wp2_with (first
      | (go_at_call 31; rw [HW.out]; refine (num_is e true _ HN).mono ?_; rintro r w1 ⟨rfl, rfl⟩)
      | (go_at_call 15; refine (rget_is gr t p y v L HT1 HL hl HY HV).mono ?_; rintro r w2 ⟨rfl, hb2⟩; have HB2 := Lib.hid hb2; clear hb2))
    go_ret
    exact ⟨congrArg (fun z => Ending.returned (.int .i64 z)) HZX.out, HBW.out.trans (HB2.out.mono HBW.out.size)⟩
end Go.Proofs.Ytcpfihagcmadcaa.L12
