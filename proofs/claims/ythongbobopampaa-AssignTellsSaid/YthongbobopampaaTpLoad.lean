/-
  Contracts: Load; is there a partition.
-/
import Derived.Test.YthongbobopampaaTpMake
import Derived.Test.YthongbobopampaaMReqNames
import Derived.Deep.QuietTactic
import Derived.BigQuiet
namespace Go.Proofs.Ythongbobopampaa.L9
open Go.RowKit
open Go.Maps
open L3 L4

/-- what Load leaves -/
def LoadP (w : World) (l : List Pt) (x : Int) (e : Ending) (w' : World) : Prop :=
  Below w.heap.size w w' ∧ ((x ≠ 0 ∧ e = .returned (.tuple #[.pointer none, .int .i64 x])) ∨ (x = 0 ∧ Good l ∧ ∃ g b, e = .returned (.tuple #[.pointer (some ⟨g, 0, none⟩), .int .i64 0]) ∧ Cat w' g b l.length l ∧ w.heap.size ≤ g ∧ w.heap.size ≤ b))
theorem loadE_bad {l : List Pt} {x : Int} (h : loadE l x) (hl : l.length ≤ 8) (hn : ¬ OkTo l l.length) : x = 1 := by
  unfold loadE at h
  rw [if_neg (by omega)] at h
  rcases h with ⟨_, h⟩ | ⟨h, _⟩
  · exact absurd h hn
  · exact h
theorem loadE_ok {l : List Pt} {x : Int} (h : loadE l x) (hl : l.length ≤ 8) (hn : OkTo l l.length) : x = 0 := by
  unfold loadE at h
  rw [if_neg (by omega)] at h
  rcases h with ⟨h, _⟩ | ⟨_, h⟩
  · exact h
  · exact absurd hn h

/-- what lies between two rounds -/
structure Lod (w wr : World) (g b k : Nat) (l : List Pt) : Prop where
  ok : OkTo l k
  cat : Cat wr g b k (l.take k)
  hg : w.heap.size ≤ g
  hb : w.heap.size ≤ b
  bel : Below w.heap.size w wr
theorem Lod.good {w wr : World} {g b k : Nat} {l : List Pt} (h : Lod w wr g b k l) (hk : k ≤ l.length) (hl : l.length ≤ 8) : Good (l.take k) := by
  obtain ⟨h1, h2⟩ := h.ok.rise hk
  exact ⟨h1, h2, by rw [List.length_take]; omega⟩
theorem Lod.next {w wr w1 w2 : World} {g b k : Nat} {l : List Pt} {st : ByteArray} {sn : Int} (h : Lod w wr g b k l) (hb1 : Below wr.heap.size wr w1) (hc : Cat w2 g b (k + 1) (makeQ (l.take k) st sn)) (ho : Only [b] w1 w2) (hk : k < l.length) (hl : l.length ≤ 8) (hx : l[k]? = some ⟨st, sn⟩) (hr : 0 < k → ∀ y, l[k - 1]? = some y → lessB y.t st = true) (hm : mayB st sn = true) : Lod w w2 g b (k + 1) l := by
  obtain ⟨_, h2⟩ := make_next h.ok hk hl hx hr
  have e := h2 hm
  dsimp only at e
  rw [e] at hc
  have h01 : Below w.heap.size w w1 := h.bel.trans (hb1.mono h.bel.size)
  exact ⟨h.ok.next (fun x hx' => by rw [hx] at hx'; injection hx' with hx'; subst hx'; exact ⟨hm, hr⟩), hc, h.hg, h.hb, h01.trans (ho.below h01.size (fun k hk => by rw [show k = b by simpa using hk]; exact h.hb))⟩

set_option maxRecDepth 100000 in
set_option maxHeartbeats 4000000 in
theorem load_is (w : World) (A : Option Addr) (n cap : Nat) (l : List Pt) (x : Int) (hn : Hid (l.length = n)) (hn1 : n ≤ 1000000) (hR : Hid (ReadsP w w.heap.size A l)) (hs : Hid (∀ y ∈ l, y.t.size ≤ 281474976710656)) (HX : Hid (loadE l x)) :
    Calls Try.prog 24 #[.slice A n cap] w (LoadP w l x) := by
  by_cases h8 : 8 < n
  · have hx := HX.out
    unfold loadE at hx
    rw [if_pos (by rw [hn.out]; exact h8)] at hx
    subst hx
    have q1 : (8 : Int) < (n : Int) := by omega
    clear h8
    go_enter Try.func24, Try.ntmps24
    go_wp2_with fail
    go_ret2
    exact ⟨Below.refl _ _, .inl ⟨by decide, rfl⟩⟩
  · have q1 : ¬ (8 : Int) < (n : Int) := by omega
    have q2 : (n : Int) ≤ 8 := by omega
    have H8 : Hid (l.length ≤ 8) := Lib.hid (by rw [hn.out]; omega)
    clear h8
    go_enter Try.func24, Try.ntmps24
    go_wp2_with (go_at_call 33; refine (new_is _).mono ?_; rintro e w1 ⟨g, b, rfl, hc1, hg1, hb1, hbel1⟩)
    have HL0 : Hid (Lod w w1 g b 0 l) := Lib.hid ⟨fun i hi => absurd hi (by omega), by rw [List.take_zero]; exact hc1, hg1, hb1, hbel1⟩
    clear hc1 hg1 hb1 hbel1
    go_loopw [13] (fun i wr => ∃ k : Nat, k ≤ n ∧ i = .int .i64 k ∧ Hid (Lod w wr g b k l)) (fun i _ => n - (intOf i).toNat)
    case atStart => exact ⟨0, Nat.zero_le _, rfl, HL0⟩
    case round =>
      obtain ⟨k, hk, rfl, HL⟩ := hrel
      by_cases hlt : k < n
      · obtain ⟨ga, rfl, hga, hcells⟩ := hR.out (by rw [hn.out]; omega)
        obtain ⟨⟨st, sn⟩, hst⟩ : ∃ st, l[k]? = some st := ⟨l[k]'(by rw [hn.out]; exact hlt), List.getElem?_eq_getElem _⟩
        obtain ⟨e0, e1⟩ := hcells k _ hst
        have d0 := (HL.out.bel.cell (p := ⟨ga, k * 2, none⟩) (by show ga < _; omega)).trans e0
        have d1 := (HL.out.bel.cell (p := ⟨ga, k * 2 + 1, none⟩) (by show ga < _; omega)).trans e1
        have Z1 : Hid (st.size ≤ 281474976710656) := Lib.hid (hs.out _ (List.mem_of_getElem? hst))
        have k0 : (0 : Int) ≤ (k : Int) := by omega
        have kl : (k : Int) < (n : Int) := by omega
        have HST := Lib.hid hst
        have HKN : Hid (k < l.length) := Lib.hid (by rw [hn.out]; exact hlt)
        have HGT := Lib.hid hcells
        have ltA : ga < wr.heap.size := Nat.lt_of_lt_of_le hga HL.out.bel.size
        have HB1 : Hid (Below wr.heap.size wr (wr.alloc (.cells #[.string st, .int .i64 sn] 44))) := Lib.hid (one_box' _)
        dsimp only at d0 d1
        clear hst hcells e0 e1
        have hgood := Lib.hid (HL.out.good (Nat.le_of_lt HKN.out) H8.out)
        by_cases hk0 : k = 0
        · have h0 : decide ((0 : Int) < (k : Int)) = false := decide_eq_false (by omega)
          have HR : Hid (0 < k → ∀ y, l[k - 1]? = some y → lessB y.t st = true) := Lib.hid (fun q => absurd q (by omega))
          have h0n : decide (0 < k) = false := decide_eq_false (by omega)
          have h0' : ¬ (0 : Int) < (k : Int) := by omega
          have h0n' : ¬ 0 < k := by omega
          have HME := Lib.hid (make_next HL.out.ok HKN.out H8.out HST.out HR.out)
          clear hk0
          cases hm : mayB st sn with
          | true =>
            have HM := Lib.hid hm
            have HY : Hid (makeE (l.take k) st sn = 0) := Lib.hid (by have := HME.out.1; dsimp only at this; rw [hm] at this; exact this)
            clear hm
            go_wp2_with fail
            go_quiet (fail)
            go_wp2_with (go_at_call 34; refine (make_is st sn _ (Lib.hid (HL.out.cat.below (drewN_below HB1.out _))) hgood (by omega) Z1.out HY).mono ?_; rintro e w2 ⟨rfl, hc2, ho2⟩; have HL2 := Lib.hid (HL.out.next (drewN_below HB1.out _) hc2 ho2 HKN.out H8.out HST.out HR.out HM.out); clear hc2 ho2)
            go_roundw
            case rel => exact ⟨k + 1, by omega, by go_num, HL2⟩
            case measure => simp [intOf]; omega
          | false =>
            have HY : Hid (makeE (l.take k) st sn = 1) := Lib.hid (by have := HME.out.1; dsimp only at this; rw [hm] at this; exact this)
            have hx1 : x = 1 := loadE_bad HX.out H8.out (load_bad HKN.out (fun q => by have := (q _ HST.out).1; dsimp only at this; rw [hm] at this; cases this))
            have HX1 := Lib.hid hx1
            clear hm hx1
            go_wp2_with fail
            go_quiet (fail)
            go_wp2_with (go_at_call 34; refine (make_is st sn _ (Lib.hid (HL.out.cat.below (drewN_below HB1.out _))) hgood (by omega) Z1.out HY).mono ?_; rintro e w2 ⟨rfl, hc2, ho2⟩; have HO2 : Hid (Below w.heap.size w w2) := Lib.hid ((HL.out.bel.trans ((drewN_below HB1.out _).mono HL.out.bel.size)).trans (ho2.below (HL.out.bel.trans ((drewN_below HB1.out _).mono HL.out.bel.size)).size (fun j hj => by rw [show j = b by simpa using hj]; exact HL.out.hb))); clear hc2 ho2)
            go_ret2
            exact ⟨HO2.out, .inl ⟨by rw [HX1.out]; decide, by rw [HX1.out]; rfl⟩⟩
        · obtain ⟨j, hj⟩ : ∃ j, k = j + 1 := ⟨k - 1, by omega⟩
          obtain ⟨⟨pt, pn⟩, hpr⟩ : ∃ pr, l[j]? = some pr := ⟨l[j]'(by have := HKN.out; omega), List.getElem?_eq_getElem _⟩
          obtain ⟨f0, _⟩ := HGT.out j _ hpr
          have g0 := (HL.out.bel.cell (p := ⟨ga, j * 2, none⟩) (by show ga < _; omega)).trans f0
          dsimp only at g0
          have HPR : Hid (l[k - 1]? = some ⟨pt, pn⟩) := Lib.hid (by rw [show k - 1 = j by omega]; exact hpr)
          have i1 : IntKind.i64.wrap ((k : Int) - 1) = (k : Int) - 1 := by rw [IntKind.wrap_i64]; omega
          have j0 : (0 : Int) ≤ (k : Int) - 1 := by omega
          have j1 : (k : Int) - 1 < (n : Int) := by omega
          have j2 : (0 : Int) < (k : Int) := by omega
          have j4 : 0 < k := by omega
          have j5 : (1 : Int) ≤ (k : Int) := by omega
          have j6 : 1 ≤ k := by omega
          have j7 : (k : Int) ≤ (n : Int) := by omega
          have j3 : ((k : Int) - 1).toNat = j := by omega
          have hleq := leq_less st pt
          cases hb : lessB pt st with
          | true =>
            have HR : Hid (0 < k → ∀ y, l[k - 1]? = some y → lessB y.t st = true) := Lib.hid (fun _ y hy => by rw [HPR.out] at hy; injection hy with hy; subst hy; exact hb)
            have HME := Lib.hid (make_next HL.out.ok HKN.out H8.out HST.out HR.out)
            rw [hb] at hleq
            have q3 : Op.bytesLess st.toList pt.toList = false := (Bool.or_eq_false_iff.1 hleq).1
            have q4 : (st.toList == pt.toList) = false := (Bool.or_eq_false_iff.1 hleq).2
            clear hb hk0 hj hpr f0 hleq
            cases hm : mayB st sn with
            | true =>
              have HM := Lib.hid hm
              have HY : Hid (makeE (l.take k) st sn = 0) := Lib.hid (by have := HME.out.1; dsimp only at this; rw [hm] at this; exact this)
              clear hm
              go_wp2_with fail
              go_quiet (fail)
              go_wp2_with (go_at_call 34; refine (make_is st sn _ (Lib.hid (HL.out.cat.below (drewN_below HB1.out _))) hgood (by omega) Z1.out HY).mono ?_; rintro e w2 ⟨rfl, hc2, ho2⟩; have HL2 := Lib.hid (HL.out.next (drewN_below HB1.out _) hc2 ho2 HKN.out H8.out HST.out HR.out HM.out); clear hc2 ho2)
              go_roundw
              case rel => exact ⟨k + 1, by omega, by go_num, HL2⟩
              case measure => simp [intOf]; omega
            | false =>
              have HY : Hid (makeE (l.take k) st sn = 1) := Lib.hid (by have := HME.out.1; dsimp only at this; rw [hm] at this; exact this)
              have hx1 : x = 1 := loadE_bad HX.out H8.out (load_bad HKN.out (fun q => by have := (q _ HST.out).1; dsimp only at this; rw [hm] at this; cases this))
              have HX1 := Lib.hid hx1
              clear hm hx1
              go_wp2_with fail
              go_quiet (fail)
              go_wp2_with (go_at_call 34; refine (make_is st sn _ (Lib.hid (HL.out.cat.below (drewN_below HB1.out _))) hgood (by omega) Z1.out HY).mono ?_; rintro e w2 ⟨rfl, hc2, ho2⟩; have HO2 : Hid (Below w.heap.size w w2) := Lib.hid ((HL.out.bel.trans ((drewN_below HB1.out _).mono HL.out.bel.size)).trans (ho2.below (HL.out.bel.trans ((drewN_below HB1.out _).mono HL.out.bel.size)).size (fun j hj => by rw [show j = b by simpa using hj]; exact HL.out.hb))); clear hc2 ho2)
              go_ret2
              exact ⟨HO2.out, .inl ⟨by rw [HX1.out]; decide, by rw [HX1.out]; rfl⟩⟩
          | false =>
            have hx1 : x = 1 := loadE_bad HX.out H8.out (load_bad HKN.out (fun q => by have := (q _ HST.out).2 (by omega) _ HPR.out; dsimp only at this; rw [hb] at this; cases this))
            have HX1 := Lib.hid hx1
            rw [hb] at hleq
            have hleq' : (Op.bytesLess st.toList pt.toList || st.toList == pt.toList) = true := hleq
            clear hb hk0 hj hpr f0 hleq hx1
            go_wp2_with fail
            go_quiet (fail)
            go_wp2_with fail
            go_ret2
            exact ⟨HL.out.bel.trans ((drewN_below HB1.out _).mono HL.out.bel.size), .inl ⟨by rw [HX1.out]; decide, by rw [HX1.out]; rfl⟩⟩
      · have hkn : k = n := by omega
        have hkl : k = l.length := by rw [hn.out]; exact hkn
        have HL' := HL.out
        rw [hkl] at HL'
        have hx0 : x = 0 := loadE_ok HX.out H8.out HL'.ok
        have hg := HL'.good (Nat.le_refl _) H8.out
        have hc := HL'.cat
        rw [List.take_length] at hg hc
        have HG := Lib.hid hg
        have HCC := Lib.hid hc
        have HX0 := Lib.hid hx0
        have HH := Lib.hid HL'
        have q3 : ¬ (k : Int) < (n : Int) := by omega
        clear hg hc hx0 HL' hkl hkn hlt
        go_wp2_with fail
        go_ret2
        exact ⟨HH.out.bel, .inr ⟨HX0.out, HG.out, g, b, rfl, HCC.out, HH.out.hg, HH.out.hb⟩⟩
end Go.Proofs.Ythongbobopampaa.L9
