/-
  Contracts: whether topics may be: the document's.
-/
import Derived.Test.YtijofikpdhapoaaGreatReqOne
import Derived.Deep.RegionHeld3
import Derived.Deep.QuietTactic
import Derived.BigQuiet
import Derived.WalkKit
import Derived.LoopTactic
import Derived.Laws.RangeAny
import Derived.Laws.Cover1
namespace Go.Proofs.YtijofikpdhapoaaGreat.L4
open Go.RowKit
open L3

theorem rname_is (s : ByteArray) (v : Bool) (w : World) (hs : s.size ≤ maxLen) (HV : Hid (nameB s = v)) :
    Calls Tryz.prog 53 #[.string s] w fun e w' => e = .returned (.bool v) ∧ Below w.heap.size w w' := by
  have h := rname_any s w hs
  rw [HV.out] at h
  exact h.mono fun _ _ ⟨he, hw⟩ => ⟨he, hw ▸ Below.refl _ _⟩
theorem rname_q (s : ByteArray) (v : Bool) (w : World) (hs : s.size ≤ maxLen) (HV : Hid (nameB s = v)) :
    Calls Tryz.prog 53 #[.string s] w fun e w' => e = .returned (.bool v) ∧ w' = w := by
  have h := rname_any s w hs
  rw [HV.out] at h
  exact h.mono fun _ _ ⟨he, hw⟩ => ⟨he, hw.symm⟩
def okAt (l : List ByteArray) (i : Nat) : Bool := nameB (l.getD i ⟨#[]⟩) && (decide (i = 0) || lessB (l.getD (i - 1) ⟨#[]⟩) (l.getD i ⟨#[]⟩))
def namesB (l : List ByteArray) : Bool := decide (1 ≤ l.length ∧ l.length ≤ 8) && (List.range l.length).all (okAt l)
theorem names_yes {l : List ByteArray} (h1 : 1 ≤ l.length ∧ l.length ≤ 8) (h : ∀ i < l.length, okAt l i = true) : namesB l = true := by
  unfold namesB
  rw [decide_eq_true h1, Bool.true_and, List.all_eq_true]
  intro i hi
  exact h i (List.mem_range.1 hi)
theorem names_no {l : List ByteArray} {i : Nat} (hi : i < l.length) (h : okAt l i = false) : namesB l = false := by
  unfold namesB
  have : (List.range l.length).all (okAt l) = false := by
    rw [List.all_eq_false]
    exact ⟨i, List.mem_range.2 hi, by simp [h]⟩
  rw [this, Bool.and_false]
theorem getD_at {l : List ByteArray} {i : Nat} {s : ByteArray} (h : l[i]? = some s) : l.getD i ⟨#[]⟩ = s := by rw [List.getD_eq_getElem?_getD, h]; rfl
theorem keep_held {W0 wa wb : World} {B : Nat} {P : World → Prop} (h : ∀ w', Below B W0 w' → P w' ∧ Below B W0 w') (ha : P wa ∧ Below B W0 wa) (hb : Below wa.heap.size wa wb) (hB : B ≤ W0.heap.size) : P wb ∧ Below B W0 wb :=
  h wb (ha.2.trans (hb.mono (Nat.le_trans hB ha.2.size)))

set_option maxRecDepth 100000 in
set_option maxHeartbeats 8000000 in
theorem rnames_is (A : Option Addr) (l : List ByteArray) (cap B : Nat) (v : Bool) (w : World) (hT : Hid (ReadsT w B A l)) (hB : B ≤ w.heap.size) (hl : l.length ≤ maxLen) (hs : Hid (∀ s ∈ l, s.size ≤ maxLen)) (HV : Hid (namesB l = v)) :
    Calls Tryz.prog 54 #[.slice A l.length cap] w fun e w' => e = .returned (.bool v) ∧ Below w.heap.size w w' := by
  unfold maxLen at hl
  by_cases hn : 1 ≤ l.length ∧ l.length ≤ 8
  · have n1 : ((1 : Int)) ≤ (l.length : Int) := by omega
    have n2 : (l.length : Int) ≤ 8 := by omega
    have HN := Lib.hid hn
    clear hn hl
    go_enter Tryz.func54, Tryz.ntmps54
    go_wp2_with fail
    go_loopw [3] (fun i wr => ∃ k : Nat, k ≤ l.length ∧ i = .int .i64 k ∧ Hid (∀ j < k, okAt l j = true) ∧ Below w.heap.size w wr) (fun i _ => l.length - (intOf i).toNat)
    case atStart => exact ⟨0, by omega, rfl, Lib.hid (fun j hj => absurd hj (by omega)), Below.refl _ _⟩
    case round =>
      obtain ⟨k, hk, rfl, hall, hbel⟩ := hrel
      by_cases hlt : k < l.length
      · obtain ⟨g, rfl, hg, hcells⟩ := hT.out (by omega)
        obtain ⟨st, hst⟩ : ∃ st, l[k]? = some st := ⟨l[k], List.getElem?_eq_getElem hlt⟩
        have Z1 := Lib.hid (hs.out _ (List.mem_of_getElem? hst))
        have d0 := (hbel.cell (p := ⟨g, k, none⟩) (by show g < _; omega)).trans (hcells k st hst)
        have k0 : (0 : Int) ≤ (k : Int) := by omega
        have kl : (k : Int) < (l.length : Int) := by omega
        obtain ⟨a, ha⟩ : ∃ a, nameB st = a := ⟨_, rfl⟩
        have HA := Lib.hid ha
        have HST := Lib.hid hst
        have HGT := Lib.hid hcells
        have HT1 : Hid (∀ w', Below wr.heap.size wr w' → (w'.cell? ⟨g, k, none⟩ = some (.string st)) ∧ Below wr.heap.size wr w') := Lib.hid (fun w' hb => ⟨(hb.cell (p := ⟨g, k, none⟩) (by have := hbel.size; show g < _; omega)).trans d0, hb⟩)
        clear hst hcells ha
        by_cases ha : a = true
        · subst ha
          by_cases hk0 : k = 0
          · subst hk0
            have HNX : Hid (∀ j < 0 + 1, okAt l j = true) := Lib.hid (fun j hj => by
              obtain rfl : j = 0 := by omega
              unfold okAt
              rw [getD_at HST.out, HA.out]
              rfl)
            have hq : decide ((0 : Int) < 0) = false := rfl
            rw [show ((0 : Nat) : Int) = 0 from rfl]
            go_wp2_with fail
            go_quiet ((go_at_call 53; exact Calls.quiet_of_same (rname_q _ _ _ Z1.out HA)))
            go_wp2_with fail
            go_roundw
            case rel => exact ⟨0 + 1, by omega, by go_num, HNX, drewN_below hbel _⟩
            case measure => simp [intOf]; omega
          · obtain ⟨j, hj⟩ : ∃ j, k = j + 1 := ⟨k - 1, by omega⟩
            obtain ⟨pr, hpr⟩ : ∃ pr, l[j]? = some pr := ⟨l[j], List.getElem?_eq_getElem (by omega)⟩
            have Z2 := Lib.hid (hs.out _ (List.mem_of_getElem? hpr))
            have d1 := (hbel.cell (p := ⟨g, j, none⟩) (by show g < _; omega)).trans (HGT.out j pr hpr)
            obtain ⟨b, hb⟩ : ∃ b, lessB pr st = b := ⟨_, rfl⟩
            have HBL := Lib.hid hb
            have HT2 : Hid (∀ w', Below wr.heap.size wr w' → (w'.cell? ⟨g, k, none⟩ = some (.string st) ∧ w'.cell? ⟨g, j, none⟩ = some (.string pr)) ∧ Below wr.heap.size wr w') := Lib.hid (fun w' hb => ⟨⟨(hb.cell (p := ⟨g, k, none⟩) (by have := hbel.size; show g < _; omega)).trans d0, (hb.cell (p := ⟨g, j, none⟩) (by have := hbel.size; show g < _; omega)).trans d1⟩, hb⟩)
            have hok : Hid (okAt l k = b) := Lib.hid (by
              unfold okAt
              rw [getD_at HST.out, HA.out, show k - 1 = j by omega, getD_at hpr, hb, decide_eq_false hk0]
              simp)
            have i1 : IntKind.i64.wrap ((k : Int) - 1) = (k : Int) - 1 := by rw [IntKind.wrap_i64]; omega
            have j0 : (0 : Int) ≤ (k : Int) - 1 := by omega
            have j1 : (k : Int) - 1 < (l.length : Int) := by omega
            have j2 : (0 : Int) < (k : Int) := by omega
            have j4 : 0 < k := by omega
            have j5 : (1 : Int) ≤ (k : Int) := by omega
            have j6 : 1 ≤ k := by omega
            have j7 : (k : Int) ≤ (l.length : Int) := by omega
            have j8 : k ≤ l.length := by omega
            have j3 : ((k : Int) - 1).toNat = j := by omega
            have HJ := Lib.hid hj
            clear hpr hb hk0 d1 HT1 hj
            cases b with
            | true =>
              have HNX : Hid (∀ i < k + 1, okAt l i = true) := Lib.hid (fun i hi => by
                rcases Nat.lt_or_ge i k with h | h
                · exact hall.out i h
                · obtain rfl : i = k := by omega
                  exact hok.out)
              go_wp2_with fail
              go_region_held3 (fun w' => (w'.cell? ⟨g, k, none⟩ = some (.string st) ∧ w'.cell? ⟨g, j, none⟩ = some (.string pr)) ∧ Below wr.heap.size wr w')
                (first | with_reducible assumption | exact HT2.out _ (Below.refl _ _).drew | exact keep_held (P := fun w' => w'.cell? ⟨g, k, none⟩ = some (.string st) ∧ w'.cell? ⟨g, j, none⟩ = some (.string pr)) HT2.out (by assumption) (by assumption) (Nat.le_refl _))
                (first
                  | (go_at_call 53; refine (rname_is _ _ _ Z1.out HA).mono ?_; rintro e w1 ⟨rfl, hb1⟩)
                  | (go_at_call 73; refine (rless_is _ _ _ _ Z2.out Z1.out HBL).mono ?_; rintro e w2 ⟨rfl, hb2⟩))
              all_goals
                rename_i hh
                go_wp2_with fail
                go_roundw
                case rel => exact ⟨k + 1, by omega, by go_num, HNX, hbel.trans (hh.2.mono hbel.size)⟩
                case measure => simp [intOf]; omega
            | false =>
              have HD : Hid (v = false) := Lib.hid (by rw [← HV.out]; exact names_no hlt hok.out)
              go_wp2_with fail
              go_region_held3 (fun w' => (w'.cell? ⟨g, k, none⟩ = some (.string st) ∧ w'.cell? ⟨g, j, none⟩ = some (.string pr)) ∧ Below wr.heap.size wr w')
                (first | with_reducible assumption | exact HT2.out _ (Below.refl _ _).drew | exact keep_held (P := fun w' => w'.cell? ⟨g, k, none⟩ = some (.string st) ∧ w'.cell? ⟨g, j, none⟩ = some (.string pr)) HT2.out (by assumption) (by assumption) (Nat.le_refl _))
                (first
                  | (go_at_call 53; refine (rname_is _ _ _ Z1.out HA).mono ?_; rintro e w1 ⟨rfl, hb1⟩)
                  | (go_at_call 73; refine (rless_is _ _ _ _ Z2.out Z1.out HBL).mono ?_; rintro e w2 ⟨rfl, hb2⟩))
              all_goals
                rename_i hh
                go_wp2_with fail
                go_ret
                exact ⟨congrArg Ending.returned (congrArg Value.bool HD.out.symm), hbel.trans (hh.2.mono hbel.size)⟩
        · obtain rfl : a = false := by simpa using ha
          have HD : Hid (v = false) := Lib.hid (by
            rw [← HV.out]
            refine names_no hlt ?_
            unfold okAt
            rw [getD_at HST.out, HA.out]
            rfl)
          clear ha
          go_wp2_with fail
          go_quiet ((go_at_call 53; exact Calls.quiet_of_same (rname_q _ _ _ Z1.out HA)))
          go_wp2_with fail
          go_ret
          exact ⟨congrArg Ending.returned (congrArg Value.bool HD.out.symm), drewN_below hbel _⟩
      · obtain rfl : k = l.length := by omega
        have HD : Hid (v = true) := Lib.hid (by rw [← HV.out]; exact names_yes HN.out hall.out)
        go_wp2_with fail
        go_ret
        exact ⟨congrArg Ending.returned (congrArg Value.bool HD.out.symm), hbel⟩
  · have HD : Hid (v = false) := Lib.hid (by rw [← HV.out]; unfold namesB; rw [decide_eq_false hn, Bool.false_and])
    have hc : (l.length : Int) < 1 ∨ (1 : Int) ≤ l.length ∧ 8 < (l.length : Int) := by omega
    clear hn
    rcases hc with c1 | ⟨c1, c2⟩
    all_goals
      go_enter Tryz.func54, Tryz.ntmps54
      go_wp2_with fail
      go_ret
      exact ⟨congrArg Ending.returned (congrArg Value.bool HD.out.symm), Below.refl _ _⟩

end Go.Proofs.YtijofikpdhapoaaGreat.L4
/-
  Contracts: the program's own: is a text a name, are topics rising, is an int a number?
-/
namespace Go.Proofs.YtijofikpdhapoaaGreat.L4
open Go.RowKit
open L3

/-! letters -/
set_option maxHeartbeats 1000000 in
theorem letter_low (b : Nat) (v : Bool) (w : World) (HV : Hid (nameC b = v)) :
    Calls Tryz.prog 44 #[.int .i32 b] w fun e w' => e = .returned (.bool v) ∧ w = w' := by
  have hc := name_ways b
  rcases hc with ⟨c1, c2, c3, hg⟩ | ⟨c1, c2, c3, hg⟩ | ⟨c1, c2, c3, hg⟩ | ⟨c1, c2, c3, c4, hg⟩ | ⟨c1, c2, hg⟩ | ⟨c1, c2, c3, c4, c5, hg⟩
  all_goals
    have HD : Hid (v = _) := Lib.hid (HV.out.symm.trans hg)
    clear hg HV
    try have d1 : ¬ (97 : Int) ≤ b := by omega
    try have d2 : ¬ (48 : Int) ≤ b := by omega
    go_enter Tryz.func44, Tryz.ntmps44
    go_wp2_with fail
    go_ret
    exact ⟨congrArg Ending.returned (congrArg Value.bool HD.out.symm), rfl⟩

theorem letter_high (n : Nat) (w : World) (h : 128 ≤ n) :
    Calls Tryz.prog 44 #[.int .i32 n] w fun e w' => e = .returned (.bool false) ∧ w = w' :=
  letter_low n false w (Lib.hid (by simp only [nameC, Bool.or_eq_false_iff, Bool.and_eq_false_iff, decide_eq_false_iff_not]; omega))

theorem name_high {s : ByteArray} {k : Nat} (h : k < s.size) (hb : 128 ≤ s[k].toNat) : (V.nats s).all nameC = false :=
  all_not (nats_at h) (by simp only [nameC, Bool.or_eq_false_iff, Bool.and_eq_false_iff, decide_eq_false_iff_not]; omega)

theorem empty_list (s : ByteArray) : (s.toList == (⟨#[]⟩ : ByteArray).toList) = decide (s.size = 0) := by
  by_cases h : s.size = 0
  · rw [decide_eq_true h, empty_of h]
    exact beq_self_eq_true _
  · rw [decide_eq_false h, beq_eq_false_iff_ne]
    intro e
    exact h ((nil_iff s).1 (by rw [e, ByteArray.toList_eq]))

theorem isEmpty_no {s : ByteArray} (h : 0 < s.size) : s.toList.isEmpty = false := by
  cases e : s.toList with
  | nil => exact absurd ((nil_iff s).1 e) (by omega)
  | cons _ _ => rfl
theorem iter_below {w : World} {s : ByteArray} {p : Nat} : Below w.heap.size w (w.iter s p) := one_box _

set_option maxRecDepth 100000 in
set_option maxHeartbeats 2000000 in
theorem name_is (s : ByteArray) (v : Bool) (w : World) (hs : Hid (s.size ≤ maxLen)) (HV : Hid (nameB s = v)) :
    Calls Tryz.prog 22 #[.string s] w fun e w' => e = .returned (.bool v) ∧ Below w.heap.size w w' := by
  have hs1 := hs.out
  unfold maxLen at hs1
  by_cases hn : 1 ≤ s.size ∧ s.size ≤ 16
  · have n2 : (s.size : Int) ≤ 16 := by omega
    have e1 : s.toList.isEmpty = false := isEmpty_no (by omega)
    have HB : Hid ((V.nats s).all nameC = v) := Lib.hid (by rw [← HV.out]; unfold nameB; rw [decide_eq_true hn, Bool.true_and])
    clear HV hn hs1
    go_enter Tryz.func22, Tryz.ntmps22
    go_wp2_with fail
    go_loopw [] (fun w' => ∃ k : Nat, k ≤ s.size ∧ w' = w.iter s k ∧ Hid (((V.nats s).take k).all nameC = true)) (fun w' => s.size - w'.iterPos w.heap.size)
    case atStart => exact ⟨0, by omega, rfl, Lib.hid (by simp)⟩
    case round =>
      obtain ⟨k, hk, rfl, hall⟩ := hrel
      by_cases hlt : k < s.size
      · by_cases hb : s[k].toNat < 128
        · have hnx := fun ty => run_next_ascii (P := Tryz.prog) w s k ty hlt hb
          obtain ⟨b, hbb⟩ : ∃ b, s[k].toNat = b := ⟨_, rfl⟩
          simp only [hbb] at hnx
          have hat := nats_at hlt
          rw [hbb] at hat
          have HA := Lib.hid hat
          obtain ⟨x, hx⟩ : ∃ x, nameC b = x := ⟨_, rfl⟩
          have HX := Lib.hid hx
          clear hat hbb hb
          cases x with
          | true =>
            have HNX := Lib.hid (all_next hall.out HA.out hx)
            clear hx
            go_wp2_with (go_at_call 44; refine (letter_low _ _ _ HX).mono ?_; rintro e w1 ⟨rfl, rfl⟩)
            go_roundw
            case rel => exact ⟨k + 1, by omega, rfl, HNX⟩
            case measure => simp; omega
          | false =>
            have HNX := Lib.hid (all_not HA.out hx)
            clear hx
            go_wp2_with (go_at_call 44; refine (letter_low _ _ _ HX).mono ?_; rintro e w1 ⟨rfl, rfl⟩)
            go_ret
            exact ⟨congrArg Ending.returned (congrArg Value.bool (HNX.out.symm.trans HB.out)), iter_below⟩
        · have hnx := fun ty => run_next_any (P := Tryz.prog) w s k ty hlt
          have hd := (decode_high s k hlt (by omega)).1
          have HNX := Lib.hid (name_high hlt (by omega))
          obtain ⟨n, hn⟩ : ∃ n, (Utf8.decode s k).1 = n := ⟨_, rfl⟩
          obtain ⟨d, hdd⟩ : ∃ d, (Utf8.decode s k).2 = d := ⟨_, rfl⟩
          simp only [hn, hdd] at hnx
          rw [hn] at hd
          have HDD := Lib.hid hd
          clear hn hdd hd hb
          go_wp2_with (go_at_call 44; refine (letter_high _ _ HDD.out).mono ?_; rintro e w1 ⟨rfl, rfl⟩)
          go_ret
          exact ⟨congrArg Ending.returned (congrArg Value.bool (HNX.out.symm.trans HB.out)), iter_below⟩
      · obtain rfl : k = s.size := by omega
        have hnx := fun ty => run_next_end (P := Tryz.prog) w s s.size ty (Nat.lt_irrefl _)
        have h3 := hall.out
        rw [List.take_of_length_le (by rw [V.nats_len]; omega)] at h3
        have HT := Lib.hid h3
        clear h3
        go_wp2_with fail
        go_ret
        exact ⟨congrArg Ending.returned (congrArg Value.bool (HT.out.symm.trans HB.out)), iter_below⟩
  · have HD : Hid (v = false) := Lib.hid (by rw [← HV.out]; unfold nameB; rw [decide_eq_false hn, Bool.false_and])
    have hc : (s.toList = [] ∧ s.size = 0) ∨ (¬ s.toList = [] ∧ 16 < (s.size : Int)) := by
      rcases Nat.eq_zero_or_pos s.size with h | h
      · exact .inl ⟨(nil_iff s).2 h, h⟩
      · exact .inr ⟨fun e => by have := (nil_iff s).1 e; omega, by omega⟩
    clear HV hn hs1
    rcases hc with ⟨c1, c2⟩ | ⟨c1, c2⟩
    · obtain rfl := empty_of c2
      go_enter Tryz.func22, Tryz.ntmps22
      go_wp2_with fail
      go_ret
      exact ⟨congrArg Ending.returned (congrArg Value.bool HD.out.symm), Below.refl _ _⟩
    · have e0 : (s.toList == (⟨#[]⟩ : ByteArray).toList) = false := by rw [empty_list, decide_eq_false]; intro e; exact c1 ((nil_iff s).2 e)
      go_enter Tryz.func22, Tryz.ntmps22
      go_wp2_with fail
      go_ret
      exact ⟨congrArg Ending.returned (congrArg Value.bool HD.out.symm), Below.refl _ _⟩

theorem number_is (n : Int) (v : Bool) (w : World) (HV : Hid (numB n = v)) :
    Calls Tryz.prog 77 #[.int .i64 n] w fun e w' => e = .returned (.bool v) ∧ w = w' := by
  have hc : ((0 : Int) ≤ n ∧ n ≤ 1099511627776 ∧ v = true) ∨ ((0 : Int) ≤ n ∧ ¬ n ≤ 1099511627776 ∧ v = false) ∨ (¬ (0 : Int) ≤ n ∧ v = false) := by
    rw [← HV.out]
    unfold numB
    by_cases h0 : (0 : Int) ≤ n <;> by_cases h1 : n ≤ 1099511627776 <;> simp [h0, h1]
  clear HV
  rcases hc with ⟨h0, h1, rfl⟩ | ⟨h0, h1, rfl⟩ | ⟨h0, rfl⟩
  all_goals
    go_enter Tryz.func77, Tryz.ntmps77
    go_wp2_with fail
    go_ret
    exact ⟨rfl, rfl⟩

end Go.Proofs.YtijofikpdhapoaaGreat.L4
/-
  Contracts: the program's own: are topics rising names?
-/
namespace Go.Proofs.YtijofikpdhapoaaGreat.L4
open Go.RowKit
open L3

theorem less_bytes : ∀ x y : List UInt8, Op.bytesLess x y = lessL (x.map UInt8.toNat) (y.map UInt8.toNat)
  | [], [] => rfl
  | [], _ :: _ => rfl
  | _ :: _, [] => rfl
  | a :: x, b :: y => by
    simp only [Op.bytesLess, List.map_cons, lessL, less_bytes x y]
    by_cases h : a = b
    · subst h
      simp
    · have hn : ¬ a.toNat = b.toNat := fun e => h (UInt8.toNat_inj.1 e)
      rw [if_neg hn]
      have : (a == b) = false := by simpa using h
      rw [this]
      simp [UInt8.lt_iff_toNat_lt]
theorem less_total : ∀ x y : List Nat, (lessL x y || x == y) = !lessL y x
  | [], [] => rfl
  | [], _ :: _ => rfl
  | _ :: _, [] => rfl
  | a :: x, b :: y => by
    simp only [lessL]
    by_cases h : a = b
    · subst h
      simp [← less_total x y]
    · have hn : ¬ b = a := fun e => h e.symm
      rw [if_neg h, if_neg hn]
      have : (a :: x == b :: y) = false := by simp [h]
      rw [this, Bool.or_false]
      by_cases hl : a < b
      · rw [decide_eq_true hl, decide_eq_false (by omega)]; rfl
      · rw [decide_eq_false hl, decide_eq_true (by omega)]; rfl
theorem list_nats (s : ByteArray) : s.toList.map UInt8.toNat = V.nats s := by
  unfold V.nats
  rw [ByteArray.toList_eq]
theorem leq_less (s p : ByteArray) : (Op.bytesLess s.toList p.toList || s.toList == p.toList) = !lessB p s := by
  unfold lessB
  rw [← less_total, less_bytes, list_nats, list_nats]
  congr 1
  by_cases h : s = p
  · subst h
    simp
  · rw [bytes_off h]
    symm
    rw [beq_eq_false_iff_ne]
    exact fun e => h (V.nats_inj e)
theorem name_w {s : ByteArray} {v : Bool} (w : World) (hs : Hid (s.size ≤ maxLen)) (HV : Hid (nameB s = v)) {W0 : World} {B : Nat} (hb : Below B W0 w) (hB : B ≤ w.heap.size) :
    Calls Tryz.prog 22 #[.string s] w fun e w' => e = .returned (.bool v) ∧ Below B W0 w' :=
  (name_is s v w hs HV).mono fun _ _ ⟨he, hw⟩ => ⟨he, hb.trans (hw.mono hB)⟩

set_option maxRecDepth 100000 in
set_option maxHeartbeats 4000000 in
theorem rising_is (A : Option Addr) (l : List ByteArray) (cap B : Nat) (v : Bool) (w : World) (hT : Hid (ReadsT w B A l)) (hB : B ≤ w.heap.size) (hl : Hid (l.length ≤ maxLen)) (hs : Hid (∀ s ∈ l, s.size ≤ maxLen)) (HV : Hid (namesB l = v)) :
    Calls Tryz.prog 116 #[.slice A l.length cap] w fun e w' => e = .returned (.bool v) ∧ Below w.heap.size w w' := by
  have hl1 := hl.out
  unfold maxLen at hl1
  by_cases hn : 1 ≤ l.length ∧ l.length ≤ 8
  · have n1 : ((l.length : Int) == 0) = false := by rw [beq_eq_false_iff_ne]; omega
    have n3 : ¬ l = [] := by intro e; rw [e] at hn; simp at hn
    have n2 : (l.length : Int) ≤ 8 := by omega
    have HN := Lib.hid hn
    clear hn hl1
    go_enter Tryz.func116, Tryz.ntmps116
    go_wp2_with fail
    go_loopw [15] (fun i wr => ∃ k : Nat, k ≤ l.length ∧ i = .int .i64 k ∧ Hid (∀ j < k, okAt l j = true) ∧ Below w.heap.size w wr) (fun i _ => l.length - (intOf i).toNat)
    case atStart => exact ⟨0, by omega, rfl, Lib.hid (fun j hj => absurd hj (by omega)), Below.refl _ _⟩
    case round =>
      obtain ⟨k, hk, rfl, hall, hbel⟩ := hrel
      by_cases hlt : k < l.length
      · obtain ⟨g, rfl, hg, hcells⟩ := hT.out (by omega)
        obtain ⟨st, hst⟩ : ∃ st, l[k]? = some st := ⟨l[k], List.getElem?_eq_getElem hlt⟩
        have Z1 := Lib.hid (hs.out _ (List.mem_of_getElem? hst))
        have d0 := (hbel.cell (p := ⟨g, k, none⟩) (by show g < _; omega)).trans (hcells k st hst)
        have k0 : (0 : Int) ≤ (k : Int) := by omega
        have kl : (k : Int) < (l.length : Int) := by omega
        obtain ⟨a, ha⟩ : ∃ a, nameB st = a := ⟨_, rfl⟩
        have HA := Lib.hid ha
        have HST := Lib.hid hst
        have HGT := Lib.hid hcells
        clear hst hcells ha
        cases a with
        | true =>
          by_cases hk0 : k = 0
          · subst hk0
            have HNX : Hid (∀ j < 0 + 1, okAt l j = true) := Lib.hid (fun j hj => by
              obtain rfl : j = 0 := by omega
              unfold okAt
              rw [getD_at HST.out, HA.out]
              rfl)
            have hq : decide ((0 : Int) < 0) = false := rfl
            rw [show ((0 : Nat) : Int) = 0 from rfl]
            go_wp2_with (go_at_call 22; refine (name_w _ Z1 HA hbel (by have := hbel.size; omega)).mono ?_; rintro e w1 ⟨rfl, hb1⟩)
            go_roundw
            case rel => exact ⟨0 + 1, by omega, by go_num, HNX, hb1⟩
            case measure => simp [intOf]; omega
          · obtain ⟨j, hj⟩ : ∃ j, k = j + 1 := ⟨k - 1, by omega⟩
            obtain ⟨pr, hpr⟩ : ∃ pr, l[j]? = some pr := ⟨l[j], List.getElem?_eq_getElem (by omega)⟩
            have HC1 := Lib.hid (HGT.out j pr hpr)
            obtain ⟨b, hb⟩ : ∃ b, lessB pr st = b := ⟨_, rfl⟩
            have HBL := Lib.hid hb
            have hok : Hid (okAt l k = b) := Lib.hid (by
              unfold okAt
              rw [getD_at HST.out, HA.out, show k - 1 = j by omega, getD_at hpr, hb, decide_eq_false hk0]
              simp)
            have i1 : IntKind.i64.wrap ((k : Int) - 1) = (k : Int) - 1 := by rw [IntKind.wrap_i64]; omega
            have j0 : (0 : Int) ≤ (k : Int) - 1 := by omega
            have j1 : (k : Int) - 1 < (l.length : Int) := by omega
            have j2 : (0 : Int) < (k : Int) := by omega
            have j4 : 0 < k := by omega
            have j5 : (1 : Int) ≤ (k : Int) := by omega
            have j6 : 1 ≤ k := by omega
            have j7 : (k : Int) ≤ (l.length : Int) := by omega
            have j8 : k ≤ l.length := by omega
            have j3 : ((k : Int) - 1).toNat = j := by omega
            have hleq := leq_less st pr
            rw [hb] at hleq
            have HL := Lib.hid hleq
            clear hleq
            clear hpr hb hk0 hj
            cases b with
            | true =>
              have HNX : Hid (∀ i < k + 1, okAt l i = true) := Lib.hid (fun i hi => by
                rcases Nat.lt_or_ge i k with h | h
                · exact hall.out i h
                · obtain rfl : i = k := by omega
                  exact hok.out)
              have q1 : Op.bytesLess st.toList pr.toList = false := (Bool.or_eq_false_iff.1 HL.out).1
              have q2 : (st.toList == pr.toList) = false := (Bool.or_eq_false_iff.1 HL.out).2
              go_wp2_with (go_at_call 22; refine (name_w _ Z1 HA hbel (by have := hbel.size; omega)).mono ?_; rintro e w1 ⟨rfl, hb1⟩; have d1 := (hb1.cell (p := ⟨g, j, none⟩) (by show g < _; omega)).trans HC1.out)
              go_roundw
              case rel => exact ⟨k + 1, by omega, by go_num, HNX, hb1⟩
              case measure => simp [intOf]; omega
            | false =>
              have HD : Hid (v = false) := Lib.hid (by rw [← HV.out]; exact names_no hlt hok.out)
              have qq : Op.bytesLess st.toList pr.toList = true ∨ (Op.bytesLess st.toList pr.toList = false ∧ (st.toList == pr.toList) = true) := by
                have := HL.out
                cases e : Op.bytesLess st.toList pr.toList with
                | true => exact .inl rfl
                | false => rw [e] at this; exact .inr ⟨rfl, this⟩
              rcases qq with q1 | ⟨q1, q2⟩
              all_goals
                go_wp2_with (go_at_call 22; refine (name_w _ Z1 HA hbel (by have := hbel.size; omega)).mono ?_; rintro e w1 ⟨rfl, hb1⟩; have d1 := (hb1.cell (p := ⟨g, j, none⟩) (by show g < _; omega)).trans HC1.out)
                go_ret
                exact ⟨congrArg Ending.returned (congrArg Value.bool HD.out.symm), hb1⟩
        | false =>
          have HD : Hid (v = false) := Lib.hid (by
            rw [← HV.out]
            refine names_no hlt ?_
            unfold okAt
            rw [getD_at HST.out, HA.out]
            rfl)
          go_wp2_with (go_at_call 22; refine (name_w _ Z1 HA hbel (by have := hbel.size; omega)).mono ?_; rintro e w1 ⟨rfl, hb1⟩)
          go_ret
          exact ⟨congrArg Ending.returned (congrArg Value.bool HD.out.symm), hb1⟩
      · obtain rfl : k = l.length := by omega
        have HD : Hid (v = true) := Lib.hid (by rw [← HV.out]; exact names_yes HN.out hall.out)
        go_wp2_with fail
        go_ret
        exact ⟨congrArg Ending.returned (congrArg Value.bool HD.out.symm), hbel⟩
  · have HD : Hid (v = false) := Lib.hid (by rw [← HV.out]; unfold namesB; rw [decide_eq_false hn, Bool.false_and])
    have hc : l = [] ∨ (¬ l = [] ∧ ((l.length : Int) == 0) = false ∧ 8 < (l.length : Int)) := by
      by_cases h : l = []
      · exact .inl h
      · have : 0 < l.length := List.length_pos_iff.2 h
        exact .inr ⟨h, by simp; exact h, by omega⟩
    clear hn hl1
    rcases hc with rfl | ⟨c0, c1, c2⟩
    all_goals
      go_enter Tryz.func116, Tryz.ntmps116
      go_wp2_with fail
      go_ret
      exact ⟨congrArg Ending.returned (congrArg Value.bool HD.out.symm), Below.refl _ _⟩

end Go.Proofs.YtijofikpdhapoaaGreat.L4
