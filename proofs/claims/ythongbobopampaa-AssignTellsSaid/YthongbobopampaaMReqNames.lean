/-
  Contracts: whether topics may be: the document's.
-/
import Derived.Test.YthongbobopampaaReqOne
import Derived.Deep.RegionHeld3
import Derived.Deep.QuietTactic
import Derived.BigQuiet
import Derived.WalkKit
import Derived.LoopTactic
import Derived.Laws.RangeAny
import Derived.Laws.Cover1
namespace Go.Proofs.Ythongbobopampaa.L4
open Go.RowKit
open L3

theorem rname_is (s : ByteArray) (v : Bool) (w : World) (hs : s.size ≤ maxLen) (HV : Hid (nameB s = v)) :
    Calls Try.prog 37 #[.string s] w fun e w' => e = .returned (.bool v) ∧ Below w.heap.size w w' := by
  have h := rname_any s w hs
  rw [HV.out] at h
  exact h.mono fun _ _ ⟨he, hw⟩ => ⟨he, hw ▸ Below.refl _ _⟩
theorem rname_q (s : ByteArray) (v : Bool) (w : World) (hs : s.size ≤ maxLen) (HV : Hid (nameB s = v)) :
    Calls Try.prog 37 #[.string s] w fun e w' => e = .returned (.bool v) ∧ w' = w := by
  have h := rname_any s w hs
  rw [HV.out] at h
  exact h.mono fun _ _ ⟨he, hw⟩ => ⟨he, hw.symm⟩
def okAt (l : List ByteArray) (i : Nat) : Bool := nameB (l.getD i ⟨#[]⟩) && (decide (i = 0) || lessB (l.getD (i - 1) ⟨#[]⟩) (l.getD i ⟨#[]⟩))
def namesB (l : List ByteArray) : Bool := decide (1 ≤ l.length ∧ l.length ≤ 8) && (List.range l.length).all (okAt l)
theorem names_yes {l : List ByteArray} (h1 : 1 ≤ l.length ∧ l.length ≤ 8) (h : ∀ i < l.length, okAt l i = true) : namesB l = true := by
  unfold namesB
  rw [decide_eq_true h1, Bool.true_and, List.all_eq_true]
  intro i hi
  exact h i (List.mem_range.1 hi)
theorem names_no {l : List ByteArray} {i : Nat} (hi : i < l.length) (h : okAt l i = false) : namesB l = false := by
  unfold namesB
  have : (List.range l.length).all (okAt l) = false := by
    rw [List.all_eq_false]
    exact ⟨i, List.mem_range.2 hi, by simp [h]⟩
  rw [this, Bool.and_false]
theorem getD_at {l : List ByteArray} {i : Nat} {s : ByteArray} (h : l[i]? = some s) : l.getD i ⟨#[]⟩ = s := by rw [List.getD_eq_getElem?_getD, h]; rfl
theorem keep_held {W0 wa wb : World} {B : Nat} {P : World → Prop} (h : ∀ w', Below B W0 w' → P w' ∧ Below B W0 w') (ha : P wa ∧ Below B W0 wa) (hb : Below wa.heap.size wa wb) (hB : B ≤ W0.heap.size) : P wb ∧ Below B W0 wb :=
  h wb (ha.2.trans (hb.mono (Nat.le_trans hB ha.2.size)))

end Go.Proofs.Ythongbobopampaa.L4
/-
  Contracts: the program's own: is a text a name, are topics rising, is an int a number?
-/
namespace Go.Proofs.Ythongbobopampaa.L4
open Go.RowKit
open L3

/-! letters -/
set_option maxHeartbeats 1000000 in
theorem letter_low (b : Nat) (v : Bool) (w : World) (HV : Hid (nameC b = v)) :
    Calls Try.prog 41 #[.int .i32 b] w fun e w' => e = .returned (.bool v) ∧ w = w' := by
  have hc := name_ways b
  rcases hc with ⟨c1, c2, c3, hg⟩ | ⟨c1, c2, c3, hg⟩ | ⟨c1, c2, c3, hg⟩ | ⟨c1, c2, c3, c4, hg⟩ | ⟨c1, c2, hg⟩ | ⟨c1, c2, c3, c4, c5, hg⟩
  all_goals
    have HD : Hid (v = _) := Lib.hid (HV.out.symm.trans hg)
    clear hg HV
    try have d1 : ¬ (97 : Int) ≤ b := by omega
    try have d2 : ¬ (48 : Int) ≤ b := by omega
    go_enter Try.func41, Try.ntmps41
    go_wp2_with fail
    go_ret
    exact ⟨congrArg Ending.returned (congrArg Value.bool HD.out.symm), rfl⟩

theorem letter_high (n : Nat) (w : World) (h : 128 ≤ n) :
    Calls Try.prog 41 #[.int .i32 n] w fun e w' => e = .returned (.bool false) ∧ w = w' :=
  letter_low n false w (Lib.hid (by simp only [nameC, Bool.or_eq_false_iff, Bool.and_eq_false_iff, decide_eq_false_iff_not]; omega))

theorem name_high {s : ByteArray} {k : Nat} (h : k < s.size) (hb : 128 ≤ s[k].toNat) : (V.nats s).all nameC = false :=
  all_not (nats_at h) (by simp only [nameC, Bool.or_eq_false_iff, Bool.and_eq_false_iff, decide_eq_false_iff_not]; omega)

theorem empty_list (s : ByteArray) : (s.toList == (⟨#[]⟩ : ByteArray).toList) = decide (s.size = 0) := by
  by_cases h : s.size = 0
  · rw [decide_eq_true h, empty_of h]
    exact beq_self_eq_true _
  · rw [decide_eq_false h, beq_eq_false_iff_ne]
    intro e
    exact h ((nil_iff s).1 (by rw [e, ByteArray.toList_eq]))

theorem isEmpty_no {s : ByteArray} (h : 0 < s.size) : s.toList.isEmpty = false := by
  cases e : s.toList with
  | nil => exact absurd ((nil_iff s).1 e) (by omega)
  | cons _ _ => rfl
theorem iter_below {w : World} {s : ByteArray} {p : Nat} : Below w.heap.size w (w.iter s p) := one_box _

set_option maxRecDepth 100000 in
set_option maxHeartbeats 2000000 in
theorem name_is (s : ByteArray) (v : Bool) (w : World) (hs : Hid (s.size ≤ maxLen)) (HV : Hid (nameB s = v)) :
    Calls Try.prog 38 #[.string s] w fun e w' => e = .returned (.bool v) ∧ Below w.heap.size w w' := by
  have hs1 := hs.out
  unfold maxLen at hs1
  by_cases hn : 1 ≤ s.size ∧ s.size ≤ 16
  · have n2 : (s.size : Int) ≤ 16 := by omega
    have e1 : s.toList.isEmpty = false := isEmpty_no (by omega)
    have HB : Hid ((V.nats s).all nameC = v) := Lib.hid (by rw [← HV.out]; unfold nameB; rw [decide_eq_true hn, Bool.true_and])
    clear HV hn hs1
    go_enter Try.func38, Try.ntmps38
    go_wp2_with fail
    go_loopw [] (fun w' => ∃ k : Nat, k ≤ s.size ∧ w' = w.iter s k ∧ Hid (((V.nats s).take k).all nameC = true)) (fun w' => s.size - w'.iterPos w.heap.size)
    case atStart => exact ⟨0, by omega, rfl, Lib.hid (by simp)⟩
    case round =>
      obtain ⟨k, hk, rfl, hall⟩ := hrel
      by_cases hlt : k < s.size
      · by_cases hb : s[k].toNat < 128
        · have hnx := fun ty => run_next_ascii (P := Try.prog) w s k ty hlt hb
          obtain ⟨b, hbb⟩ : ∃ b, s[k].toNat = b := ⟨_, rfl⟩
          simp only [hbb] at hnx
          have hat := nats_at hlt
          rw [hbb] at hat
          have HA := Lib.hid hat
          obtain ⟨x, hx⟩ : ∃ x, nameC b = x := ⟨_, rfl⟩
          have HX := Lib.hid hx
          clear hat hbb hb
          cases x with
          | true =>
            have HNX := Lib.hid (all_next hall.out HA.out hx)
            clear hx
            go_wp2_with (go_at_call 41; refine (letter_low _ _ _ HX).mono ?_; rintro e w1 ⟨rfl, rfl⟩)
            go_roundw
            case rel => exact ⟨k + 1, by omega, rfl, HNX⟩
            case measure => simp; omega
          | false =>
            have HNX := Lib.hid (all_not HA.out hx)
            clear hx
            go_wp2_with (go_at_call 41; refine (letter_low _ _ _ HX).mono ?_; rintro e w1 ⟨rfl, rfl⟩)
            go_ret
            exact ⟨congrArg Ending.returned (congrArg Value.bool (HNX.out.symm.trans HB.out)), iter_below⟩
        · have hnx := fun ty => run_next_any (P := Try.prog) w s k ty hlt
          have hd := (decode_high s k hlt (by omega)).1
          have HNX := Lib.hid (name_high hlt (by omega))
          obtain ⟨n, hn⟩ : ∃ n, (Utf8.decode s k).1 = n := ⟨_, rfl⟩
          obtain ⟨d, hdd⟩ : ∃ d, (Utf8.decode s k).2 = d := ⟨_, rfl⟩
          simp only [hn, hdd] at hnx
          rw [hn] at hd
          have HDD := Lib.hid hd
          clear hn hdd hd hb
          go_wp2_with (go_at_call 41; refine (letter_high _ _ HDD.out).mono ?_; rintro e w1 ⟨rfl, rfl⟩)
          go_ret
          exact ⟨congrArg Ending.returned (congrArg Value.bool (HNX.out.symm.trans HB.out)), iter_below⟩
      · obtain rfl : k = s.size := by omega
        have hnx := fun ty => run_next_end (P := Try.prog) w s s.size ty (Nat.lt_irrefl _)
        have h3 := hall.out
        rw [List.take_of_length_le (by rw [V.nats_len]; omega)] at h3
        have HT := Lib.hid h3
        clear h3
        go_wp2_with fail
        go_ret
        exact ⟨congrArg Ending.returned (congrArg Value.bool (HT.out.symm.trans HB.out)), iter_below⟩
  · have HD : Hid (v = false) := Lib.hid (by rw [← HV.out]; unfold nameB; rw [decide_eq_false hn, Bool.false_and])
    have hc : (s.toList = [] ∧ s.size = 0) ∨ (¬ s.toList = [] ∧ 16 < (s.size : Int)) := by
      rcases Nat.eq_zero_or_pos s.size with h | h
      · exact .inl ⟨(nil_iff s).2 h, h⟩
      · exact .inr ⟨fun e => by have := (nil_iff s).1 e; omega, by omega⟩
    clear HV hn hs1
    rcases hc with ⟨c1, c2⟩ | ⟨c1, c2⟩
    · obtain rfl := empty_of c2
      go_enter Try.func38, Try.ntmps38
      go_wp2_with fail
      go_ret
      exact ⟨congrArg Ending.returned (congrArg Value.bool HD.out.symm), Below.refl _ _⟩
    · have e0 : (s.toList == (⟨#[]⟩ : ByteArray).toList) = false := by rw [empty_list, decide_eq_false]; intro e; exact c1 ((nil_iff s).2 e)
      go_enter Try.func38, Try.ntmps38
      go_wp2_with fail
      go_ret
      exact ⟨congrArg Ending.returned (congrArg Value.bool HD.out.symm), Below.refl _ _⟩

end Go.Proofs.Ythongbobopampaa.L4
/-
  Contracts: the program's own: are topics rising names?
-/
namespace Go.Proofs.Ythongbobopampaa.L4
open Go.RowKit
open L3

theorem less_bytes : ∀ x y : List UInt8, Op.bytesLess x y = lessL (x.map UInt8.toNat) (y.map UInt8.toNat)
  | [], [] => rfl
  | [], _ :: _ => rfl
  | _ :: _, [] => rfl
  | a :: x, b :: y => by
    simp only [Op.bytesLess, List.map_cons, lessL, less_bytes x y]
    by_cases h : a = b
    · subst h
      simp
    · have hn : ¬ a.toNat = b.toNat := fun e => h (UInt8.toNat_inj.1 e)
      rw [if_neg hn]
      have : (a == b) = false := by simpa using h
      rw [this]
      simp [UInt8.lt_iff_toNat_lt]
theorem less_total : ∀ x y : List Nat, (lessL x y || x == y) = !lessL y x
  | [], [] => rfl
  | [], _ :: _ => rfl
  | _ :: _, [] => rfl
  | a :: x, b :: y => by
    simp only [lessL]
    by_cases h : a = b
    · subst h
      simp [← less_total x y]
    · have hn : ¬ b = a := fun e => h e.symm
      rw [if_neg h, if_neg hn]
      have : (a :: x == b :: y) = false := by simp [h]
      rw [this, Bool.or_false]
      by_cases hl : a < b
      · rw [decide_eq_true hl, decide_eq_false (by omega)]; rfl
      · rw [decide_eq_false hl, decide_eq_true (by omega)]; rfl
theorem list_nats (s : ByteArray) : s.toList.map UInt8.toNat = V.nats s := by
  unfold V.nats
  rw [ByteArray.toList_eq]
theorem leq_less (s p : ByteArray) : (Op.bytesLess s.toList p.toList || s.toList == p.toList) = !lessB p s := by
  unfold lessB
  rw [← less_total, less_bytes, list_nats, list_nats]
  congr 1
  by_cases h : s = p
  · subst h
    simp
  · rw [bytes_off h]
    symm
    rw [beq_eq_false_iff_ne]
    exact fun e => h (V.nats_inj e)
theorem name_w {s : ByteArray} {v : Bool} (w : World) (hs : Hid (s.size ≤ maxLen)) (HV : Hid (nameB s = v)) {W0 : World} {B : Nat} (hb : Below B W0 w) (hB : B ≤ w.heap.size) :
    Calls Try.prog 38 #[.string s] w fun e w' => e = .returned (.bool v) ∧ Below B W0 w' :=
  (name_is s v w hs HV).mono fun _ _ ⟨he, hw⟩ => ⟨he, hb.trans (hw.mono hB)⟩

end Go.Proofs.Ythongbobopampaa.L4
