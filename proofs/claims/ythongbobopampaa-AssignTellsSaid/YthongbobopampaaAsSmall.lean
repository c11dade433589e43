/-
  Contracts: does a member want a topic; which members do; how many ahead of one do.
-/
import Derived.Test.YthongbobopampaaAsMem
import Derived.Test.YthongbobopampaaTpLoad
import Derived.Test.YthongbobopampaaTpRload
import Derived.Deep.QuietTactic
import Derived.BigQuiet
import Derived.LoopTactic
import Derived.Deep.AppendLies
namespace Go.Proofs.Ythongbobopampaa.L10
open Go.RowKit
open L3 L4 L9

/-- topics that are handed in -/
structure IsL (w : World) (B : Nat) (A : Option Addr) (n c : Nat) (l : List Pt) : Prop where
  rd : ReadsP w B A l
  len : l.length = n
  nil : A = none → n = 0 ∧ c = 0
  sz : ∀ y ∈ l, y.t.size ≤ 281474976710656
  n1 : n ≤ 1000000
  cap : n ≤ c
/-- members that are handed in -/
structure IsM (w : World) (B : Nat) (A : Option Addr) (n c : Nat) (ms : List Mb) : Prop where
  rd : ReadsM w B A ms
  len : ms.length = n
  sz : ∀ m ∈ ms, m.name.size ≤ 281474976710656 ∧ m.ts.length ≤ 1000000 ∧ ∀ s ∈ m.ts, s.size ≤ 281474976710656
  n1 : n ≤ 1000000
  cap : n ≤ c
theorem IsL.keep {w w' : World} {B B' : Nat} {A : Option Addr} {n c : Nat} {l : List Pt} (h : IsL w B A n c l) (k : ∀ (a : Addr) (v : Value), w.cell? a = some v → a.block < B → w'.cell? a = some v) (hB : B ≤ B') : IsL w' B' A n c l :=
  ⟨fun h0 => by
    obtain ⟨g, e, hg, hc⟩ := h.rd h0
    exact ⟨g, e, by omega, fun i s hs => ⟨k _ _ (hc i s hs).1 hg, k _ _ (hc i s hs).2 hg⟩⟩, h.len, h.nil, h.sz, h.n1, h.cap⟩
theorem IsL.below {w w' : World} {B : Nat} {A : Option Addr} {n c : Nat} {l : List Pt} (h : IsL w B A n c l) (hb : Below B w w') : IsL w' B A n c l := h.keep (fun _ _ q hq => (hb.cell hq).trans q) (Nat.le_refl _)
theorem IsM.keep {w w' : World} {B B' : Nat} {A : Option Addr} {n c : Nat} {l : List Mb} (h : IsM w B A n c l) (k : ∀ (a : Addr) (v : Value), w.cell? a = some v → a.block < B → w'.cell? a = some v) (hB : B ≤ B') : IsM w' B' A n c l :=
  ⟨h.rd.keep k hB, h.len, h.sz, h.n1, h.cap⟩
theorem IsM.below {w w' : World} {B : Nat} {A : Option Addr} {n c : Nat} {l : List Mb} (h : IsM w B A n c l) (hb : Below B w w') : IsM w' B A n c l := ⟨h.rd.below hb, h.len, h.sz, h.n1, h.cap⟩
theorem IsL.up {w w' : World} {B : Nat} {A : Option Addr} {n c : Nat} {l : List Pt} (h : IsL w B A n c l) (hB : B ≤ w.heap.size) (hb : Below w.heap.size w w') : IsL w' w'.heap.size A n c l := h.keep (fun _ _ q hq => (hb.cell (Nat.lt_of_lt_of_le hq hB)).trans q) (Nat.le_trans hB hb.size)
theorem IsM.up {w w' : World} {B : Nat} {A : Option Addr} {n c : Nat} {l : List Mb} (h : IsM w B A n c l) (hB : B ≤ w.heap.size) (hb : Below w.heap.size w w') : IsM w' w'.heap.size A n c l := h.keep (fun _ _ q hq => (hb.cell (Nat.lt_of_lt_of_le hq hB)).trans q) (Nat.le_trans hB hb.size)

def anyB (ts : List ByteArray) (t : ByteArray) : Bool := ts.any (fun s => decide (s = t))
theorem any_iff {ts : List ByteArray} {t : ByteArray} : anyB ts t = true ↔ t ∈ ts := by unfold anyB; simp
theorem contains_is (A : Option Addr) (cap n B : Nat) (ts : List ByteArray) (s : ByteArray) (v : Bool) (w : World) (hR : ReadsT w B A ts) (hn : ts.length = n) (hl : n ≤ maxLen) (HV : anyB ts s = v) :
    Calls Try.prog 26 #[.slice A n cap, .string s] w fun e w' => e = .returned (.bool v) ∧ w' = w := by
  subst HV
  subst hn
  by_cases h0 : 0 < ts.length
  · obtain ⟨g, rfl, _, hc⟩ := hR h0
    refine (Try.slices_Contains_string g 0 ts.length cap ts s w (Nat.le_refl _) hl (fun j hj => ?_)).mono fun e w' ⟨he, hw⟩ => ⟨he.trans ?_, hw⟩
    · rw [Nat.zero_add]
      refine hc j _ ?_
      rw [List.getD_eq_getElem?_getD, List.getElem?_eq_getElem hj]
      rfl
    · rw [List.take_length]
      congr 2
      rw [Bool.eq_iff_iff, Lib.containsS_iff]
      exact any_iff.symm
  · have : ts = [] := List.eq_nil_of_length_eq_zero (by omega)
    subst this
    exact (Try.slices_Contains_string_empty A cap s w).mono fun e w' ⟨he, hw⟩ => ⟨he, hw⟩

set_option maxRecDepth 100000 in
set_option maxHeartbeats 2000000 in
theorem wants_is (nm t : ByteArray) (ts : List ByteArray) (At : Option Addr) (ct n B : Nat) (v : Bool) (w : World) (hR : Hid (ReadsT w B At ts)) (hB : B ≤ w.heap.size) (hn : Hid (ts.length = n)) (hl : n ≤ 1000000) (HV : Hid (anyB ts t = v)) :
    Calls Try.prog 14 #[.agg #[.string nm, .slice At n ct], .string t] w fun e w' => e = .returned (.bool v) ∧ Below w.heap.size w w' := by
  have hb1 : Below w.heap.size w (w.alloc (.cells #[.string nm, .slice At n ct] 40)) := one_box' _
  have HR1 := Lib.hid (hR.out.below (hb1.mono hB))
  have HB1 := Lib.hid hb1
  clear hb1
  go_enter Try.func14, Try.ntmps14
  go_wp2_with (go_at_call 26; refine (contains_is At ct n B ts t v _ HR1.out hn.out (by unfold maxLen; omega) HV.out).mono ?_; rintro e w' ⟨rfl, rfl⟩)
  go_ret
  exact ⟨rfl, HB1.out⟩

set_option maxRecDepth 100000 in
set_option maxHeartbeats 2000000 in
theorem rwants_is (nm t : ByteArray) (ts : List ByteArray) (At : Option Addr) (ct n B : Nat) (v : Bool) (w : World) (hR : Hid (ReadsT w B At ts)) (hB : B ≤ w.heap.size) (hn : Hid (ts.length = n)) (hl : n ≤ 1000000) (HV : Hid (anyB ts t = v)) :
    Calls Try.prog 15 #[.agg #[.string nm, .slice At n ct], .string t] w fun e w' => e = .returned (.bool v) ∧ Below w.heap.size w w' := by
  have hb1 : Below w.heap.size w (w.alloc (.cells #[.string nm, .slice At n ct] 40)) := one_box' _
  have HR1 := Lib.hid (hR.out.below (hb1.mono hB))
  have HB1 := Lib.hid hb1
  clear hb1
  go_enter Try.func15, Try.ntmps15
  go_wp2_with fail
  have hr := heap_alloc_new w (.cells #[.string nm, .slice At n ct] 40)
  have c1 : (w.alloc (.cells #[.string nm, .slice At n ct] 40)).cell? ⟨w.heap.size, 1, none⟩ = some (.slice At n ct) := (cell_of_row _ _ 1 _ _ _ hr).trans rfl
  obtain ⟨w1, hw1⟩ : ∃ w1, w.alloc (.cells #[.string nm, .slice At n ct] 40) = w1 := ⟨_, rfl⟩
  rw [hw1] at HR1 HB1 c1 ⊢
  clear hr hw1
  go_loopw [5] (fun i wr => ∃ k : Nat, k ≤ n ∧ i = .int .i64 k ∧ Hid (anyB (ts.take k) t = false) ∧ wr = w1) (fun i _ => n - (intOf i).toNat)
  case atStart => exact ⟨0, by omega, rfl, Lib.hid rfl, rfl⟩
  case round =>
    obtain ⟨k, hk, rfl, hno, rfl⟩ := hrel
    by_cases hlt : k < n
    · obtain ⟨g, rfl, hg, hc⟩ := HR1.out (by rw [hn.out]; omega)
      obtain ⟨s, hs⟩ : ∃ s, ts[k]? = some s := ⟨_, List.getElem?_eq_getElem (by rw [hn.out]; exact hlt)⟩
      have d0 := hc k s hs
      have k0 : (0 : Int) ≤ (k : Int) := by omega
      have k1 : (k : Int) < (n : Int) := by omega
      have HS := Lib.hid hs
      clear hc hs
      by_cases hst : s = t
      · have HD : Hid (v = true) := Lib.hid (by rw [← HV.out]; exact any_iff.2 (hst ▸ List.mem_of_getElem? HS.out))
        have q : (s.toList == t.toList) = true := by rw [hst]; simp
        clear hst
        go_wp2_with fail
        go_ret
        exact ⟨congrArg Ending.returned (congrArg Value.bool HD.out.symm), HB1.out⟩
      · have HNX : Hid (anyB (ts.take (k + 1)) t = false) := Lib.hid (by
          unfold anyB at *
          rw [List.take_add_one, HS.out, List.any_append, hno.out]
          simpa using hst)
        have q : (s.toList == t.toList) = false := bytes_off hst
        clear hst
        go_wp2_with fail
        go_roundw
        case rel => exact ⟨k + 1, by omega, by go_num, HNX, trivial⟩
        case measure => simp [intOf]; omega
    · obtain rfl : k = n := by omega
      have HD : Hid (v = false) := Lib.hid (by rw [← HV.out, ← hno.out, List.take_of_length_le (by rw [hn.out]; exact Nat.le_refl _)])
      go_wp2_with fail
      go_ret
      exact ⟨congrArg Ending.returned (congrArg Value.bool HD.out.symm), HB1.out⟩

set_option maxRecDepth 100000 in
set_option maxHeartbeats 2000000 in
theorem ahead_is (A : Option Addr) (c n B j x : Nat) (ms : List Mb) (t : ByteArray) (w : World) (hM : Hid (IsM w B A n c ms)) (hB : B ≤ w.heap.size) (hj : j ≤ n) (HX : Hid ((ableTo ms t j).length = x)) :
    Calls Try.prog 19 #[.slice A n c, .int .i64 j, .string t] w fun e w' => e = .returned (.int .i64 x) ∧ Below w.heap.size w w' := by
  have hn1 := hM.out.n1
  go_enter Try.func19, Try.ntmps19
  go_wp2_with fail
  go_loopw [7, 8] (fun v i wr => ∃ k y : Nat, k ≤ j ∧ i = .int .i64 k ∧ v = .int .i64 y ∧ y ≤ k ∧ Hid ((ableTo ms t k).length = y) ∧ Hid (Below w.heap.size w wr)) (fun _ i _ => j - (intOf i).toNat)
  case atStart => exact ⟨0, 0, by omega, rfl, rfl, by omega, Lib.hid rfl, Lib.hid (Below.refl _ _)⟩
  case round =>
    obtain ⟨k, y, hk, rfl, rfl, hyk, HY, HB⟩ := hrel
    by_cases hlt : k < j
    · obtain ⟨g, rfl, hg, hc⟩ := hM.out.rd (by rw [hM.out.len]; omega)
      obtain ⟨⟨nm, ts⟩, hs⟩ : ∃ s, ms[k]? = some s := ⟨_, List.getElem?_eq_getElem (by rw [hM.out.len]; omega)⟩
      obtain ⟨d0, At, ct, d1, ht⟩ := hc k _ hs
      obtain ⟨z0, z1, z2⟩ := hM.out.sz _ (List.mem_of_getElem? hs)
      dsimp only at d0 d1 ht z1
      have d0 := (HB.out.cell (p := ⟨g, k * 2, none⟩) (by show g < _; omega)).trans d0
      have d1 := (HB.out.cell (p := ⟨g, k * 2 + 1, none⟩) (by show g < _; omega)).trans d1
      have HT := Lib.hid (ht.below (HB.out.mono hB))
      have k0 : (0 : Int) ≤ (k : Int) := by omega
      have k1 : (k : Int) < (n : Int) := by omega
      obtain ⟨tn, htn⟩ : ∃ tn, ts.length = tn := ⟨_, rfl⟩
      rw [htn] at z1 d1
      have HTN := Lib.hid htn
      obtain ⟨b, hb⟩ : ∃ b, anyB ts t = b := ⟨_, rfl⟩
      have HV := Lib.hid hb
      have hBr : B ≤ wr.heap.size := Nat.le_trans hB HB.out.size
      have HNX : Hid ((ableTo ms t (k + 1)).length = y + (if b = true then 1 else 0)) := Lib.hid (by
        rw [ableTo_next, List.length_append, HY.out, wantAt_at hs]
        show y + (if anyB ts t = true then [k] else []).length = _
        rw [hb]; cases b <;> rfl)
      clear hc hs hb ht htn
      cases b with
      | true =>
        go_wp2_with (go_at_call 15; refine (rwants_is nm t ts At ct tn B true _ HT hBr HTN z1 HV).mono ?_; rintro e w2 ⟨rfl, hb2⟩; have HB2 := Lib.hid (HB.out.trans (hb2.mono HB.out.size)); clear hb2)
        go_roundw
        case rel => exact ⟨k + 1, y + 1, by omega, by go_num, by go_num, by omega, by simpa using HNX, HB2⟩
        case measure => simp [intOf]; omega
      | false =>
        go_wp2_with (go_at_call 15; refine (rwants_is nm t ts At ct tn B false _ HT hBr HTN z1 HV).mono ?_; rintro e w2 ⟨rfl, hb2⟩; have HB2 := Lib.hid (HB.out.trans (hb2.mono HB.out.size)); clear hb2)
        go_roundw
        case rel => exact ⟨k + 1, y, by omega, by go_num, rfl, by omega, by simpa using HNX, HB2⟩
        case measure => simp [intOf]; omega
    · obtain rfl : k = j := by omega
      obtain rfl : y = x := by rw [← HY.out, HX.out]
      go_wp2_with fail
      go_ret
      exact ⟨rfl, HB.out⟩

/-- numbers in a row -/
def rowN (l : List Nat) : List Value := l.map (fun k : Nat => Value.int .i64 (k : Int))
theorem rowN_at {l : List Nat} {i k : Nat} (h : l[i]? = some k) : (rowN l)[i]? = some (.int .i64 (k : Int)) := by unfold rowN; rw [List.getElem?_map, h]; rfl
theorem intInfo : (Try.prog.info? 3).map (fun i => (i.zero, i.size, i.bytes)) = some (some (.int .i64 0), 1, 8) := by kernel_rfl
set_option maxRecDepth 100000 in
set_option maxHeartbeats 2000000 in
theorem wanting_is (A : Option Addr) (c n B : Nat) (ms : List Mb) (t : ByteArray) (ab : List Nat) (w : World) (hM : Hid (IsM w B A n c ms)) (hB : B ≤ w.heap.size) (HX : Hid (able ms t = ab)) :
    Calls Try.prog 28 #[.slice A n c, .string t] w fun e w' => ∃ A' c', e = .returned (.slice A' ab.length c') ∧ w'.ownsRow w.heap.size 3 1 (.slice A' ab.length c') ab.length (rowN ab) ∧ Below w.heap.size w w' := by
  obtain ⟨i0, hi0, hz0, hz1, hz2⟩ := info_parts intInfo
  have hn1 := hM.out.n1
  go_enter Try.func28, Try.ntmps28
  go_wp2_with fail
  go_loopw [5, 10] (fun v i wr => ∃ k y : Nat, k ≤ n ∧ i = .int .i64 k ∧ y ≤ k ∧ Hid ((ableTo ms t k).length = y) ∧ Hid (wr.ownsRow w.heap.size 3 1 v y (rowN (ableTo ms t k))) ∧ Hid (Below w.heap.size w wr)) (fun _ i _ => n - (intOf i).toNat)
  case atStart => exact ⟨0, 0, by omega, rfl, by omega, Lib.hid rfl, Lib.hid (World.ownsRow_nil _ _ _ _), Lib.hid (Below.refl _ _)⟩
  case round =>
    obtain ⟨k, y, hk, rfl, hyk, HY, HR, HB⟩ := hrel
    by_cases hlt : k < n
    · obtain ⟨g, rfl, hg, hc⟩ := hM.out.rd (by rw [hM.out.len]; omega)
      obtain ⟨⟨nm, ts⟩, hs⟩ : ∃ s, ms[k]? = some s := ⟨_, List.getElem?_eq_getElem (by rw [hM.out.len]; omega)⟩
      obtain ⟨d0, At, ct, d1, ht⟩ := hc k _ hs
      obtain ⟨z0, z1, z2⟩ := hM.out.sz _ (List.mem_of_getElem? hs)
      dsimp only at d0 d1 ht z1
      have d0 := (HB.out.cell (p := ⟨g, k * 2, none⟩) (by show g < _; omega)).trans d0
      have d1 := (HB.out.cell (p := ⟨g, k * 2 + 1, none⟩) (by show g < _; omega)).trans d1
      have HT0 := Lib.hid (ht.below (HB.out.mono hB))
      have k0 : (0 : Int) ≤ (k : Int) := by omega
      have k1 : (k : Int) < (n : Int) := by omega
      obtain ⟨tn, htn⟩ : ∃ tn, ts.length = tn := ⟨_, rfl⟩
      rw [htn] at z1 d1
      have HTN := Lib.hid htn
      obtain ⟨b, hb⟩ : ∃ b, anyB ts t = b := ⟨_, rfl⟩
      have HV := Lib.hid hb
      have hBr : B ≤ wr.heap.size := Nat.le_trans hB HB.out.size
      have HNX : Hid (ableTo ms t (k + 1) = ableTo ms t k ++ (if b = true then [k] else [])) := Lib.hid (by
        rw [ableTo_next, wantAt_at hs]
        show ableTo ms t k ++ (if anyB ts t = true then [k] else []) = _
        rw [hb])
      have hbA : Below wr.heap.size wr (wr.alloc (.cells #[.string nm, .slice At tn ct] 40)) := one_box' _
      have HT := Lib.hid (HT0.out.below (hbA.mono hBr))
      have hBA : B ≤ (wr.alloc (.cells #[.string nm, .slice At tn ct] 40)).heap.size := Nat.le_trans hBr hbA.size
      have HBA := Lib.hid (HB.out.trans (hbA.mono HB.out.size))
      clear hc hs hb ht htn hbA
      cases b with
      | true =>
        go_wp2_with (first
          | (go_at_call 14; refine (wants_is nm t ts At ct tn B true _ HT hBA HTN z1 HV).mono ?_; rintro e w2 ⟨rfl, hb2⟩; have HB2 := Lib.hid (HBA.out.trans (hb2.mono HBA.out.size)); have HR2 := Lib.hid (own_below (own_below HR.out (one_box' (.cells #[.string nm, .slice At tn ct] 40))) hb2); clear hb2)
          | (at_builtin; refine wpList_append_own _ rfl _ _ 46 rfl w.heap.size 3 i0 _ 1 8 Try.underlying46 hi0 hz0 hz1 hz2 rfl (by decide) _ _ _ rfl (HR2.out.alloc _) ⟨w2.heap.size, 0, none⟩ 1 1 [.int .i64 k] rfl rfl (cell_one_new _ _ _) (by simp [Value.oneCell']) (by unfold maxLen; omega) (by omega) (by have := HB2.out.size; simp; omega) ?_; intro v' w3 hown' hgrow _))
        go_roundw
        case rel =>
          refine ⟨k + 1, y + 1, by omega, by go_num, by omega, Lib.hid ?_, Lib.hid ?_, Lib.hid ?_⟩
          · rw [HNX.out, List.length_append, HY.out]; rfl
          · rw [HNX.out]
            have e : rowN (ableTo ms t k) ++ [.int .i64 (k : Int)] = rowN (ableTo ms t k ++ [k]) := by simp [rowN]
            rw [if_pos trivial, ← e]; exact hown'
          · exact (HB2.out.alloc HB2.out.size _).grown hgrow (by have := HB2.out.size; simp; omega) (fun j e => (HR2.out.lt j e).1)
        case measure => simp [intOf]; omega
      | false =>
        go_wp2_with (go_at_call 14; refine (wants_is nm t ts At ct tn B false _ HT hBA HTN z1 HV).mono ?_; rintro e w2 ⟨rfl, hb2⟩; have HB2 := Lib.hid (HBA.out.trans (hb2.mono HBA.out.size)); have HR2 := Lib.hid (own_below (own_below HR.out (one_box' (.cells #[.string nm, .slice At tn ct] 40))) hb2); clear hb2)
        go_roundw
        case rel => exact ⟨k + 1, y, by omega, by go_num, by omega, Lib.hid (by rw [HNX.out]; simpa using HY.out), Lib.hid (by rw [HNX.out]; simpa using HR2.out), HB2⟩
        case measure => simp [intOf]; omega
    · obtain rfl : k = n := by omega
      go_wp2_with fail
      have hr := HR.out
      have e1 : ableTo ms t k = ab := by rw [← HX.out]; unfold able; rw [hM.out.len]
      obtain rfl : y = ab.length := by rw [← HY.out, e1]
      rw [e1] at hr
      obtain ⟨A', c', rfl⟩ := own_len hr
      go_ret
      exact ⟨A', c', rfl, hr, HB.out⟩
end Go.Proofs.Ythongbobopampaa.L10
