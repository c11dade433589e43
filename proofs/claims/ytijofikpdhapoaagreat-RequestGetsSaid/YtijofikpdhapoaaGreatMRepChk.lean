/-
  Contracts: may a reply be? The program's own.
-/
import Derived.Test.YtijofikpdhapoaaGreatReqAlike
import Derived.Test.YtijofikpdhapoaaGreatMReqNames
import Derived.Test.YtijofikpdhapoaaGreatMRecAll
import Derived.Lib.Hide
import Derived.Test.YtijofikpdhapoaaGreatMSmall
namespace Go.Proofs.YtijofikpdhapoaaGreat.L4
open Go.RowKit
open L3

/-- a reply -/
structure Rp where
  e : Int
  off : Int
  n : Int
  gen : Int
  found : List Fd
  parts : List Pt
def Rp.zero : Rp := ⟨0, 0, 0, 0, [], []⟩
def badOff (f : Fd) : Bool := !numB f.o
def badN (p : Pt) : Bool := !numB p.n
def badRec (f : Fd) : Bool := f.r.chk != 0
def badTop (p : Pt) : Bool := !nameB p.t
def numsR (r : Rp) : Bool := numB r.e && numB r.off && numB r.n && numB r.gen && !r.found.any badOff && !r.parts.any badN
/-- what is wrong with a reply -/
def Rp.chk (r : Rp) : Int := if numsR r = false then 1 else if 64 < r.found.length ∨ 64 < r.parts.length then 2 else if r.found.any badRec || r.parts.any badTop then 40 else 0

/-- what reads as found, its texts being texts -/
def FSz (l : List Fd) : Prop := ∀ f ∈ l, f.r.key.size ≤ maxLen ∧ f.r.val.size ≤ maxLen
def PSz (l : List Pt) : Prop := ∀ f ∈ l, f.t.size ≤ maxLen
theorem any_next {α : Type} {l : List α} {k : Nat} {x : α} {f : α → Bool} (h : (l.take k).any f = false) (hx : l[k]? = some x) (hf : f x = false) : (l.take (k + 1)).any f = false := by
  rw [List.take_add_one, hx]
  simp [h, hf]
theorem any_hit {α : Type} {l : List α} {k : Nat} {x : α} {f : α → Bool} (hx : l[k]? = some x) (hf : f x = true) : l.any f = true := by
  rw [List.any_eq_true]
  exact ⟨x, List.mem_of_getElem? hx, hf⟩


set_option maxRecDepth 100000 in
set_option maxHeartbeats 1000000 in
theorem bad_off (f : Fd) (v : Bool) (w : World) (HV : Hid (badOff f = v)) :
    Calls Tryz.prog 78 #[.agg #[.int .i64 f.o, .bool f.r.hk, .string f.r.key, .bool f.r.tb, .string f.r.val]] w fun e w' => e = .returned (.bool v) ∧ Below w.heap.size w w' := by
  obtain ⟨b, hb⟩ : ∃ b, numB f.o = b := ⟨_, rfl⟩
  have HW := Lib.hid hb
  have HE : Hid ((!b) = v) := Lib.hid (by rw [← HV.out, ← hb]; rfl)
  clear hb
  go_enter Tryz.func78, Tryz.ntmps78
  go_wp2_with (go_at_call 77; refine (number_is _ _ _ HW).mono ?_; rintro e w1 ⟨rfl, rfl⟩)
  go_ret
  exact ⟨congrArg Ending.returned (congrArg Value.bool HE.out), one_box _⟩

set_option maxRecDepth 100000 in
set_option maxHeartbeats 1000000 in
theorem bad_n (f : Pt) (v : Bool) (w : World) (HV : Hid (badN f = v)) :
    Calls Tryz.prog 79 #[.agg #[.string f.t, .int .i64 f.n]] w fun e w' => e = .returned (.bool v) ∧ Below w.heap.size w w' := by
  obtain ⟨b, hb⟩ : ∃ b, numB f.n = b := ⟨_, rfl⟩
  have HW := Lib.hid hb
  have HE : Hid ((!b) = v) := Lib.hid (by rw [← HV.out, ← hb]; rfl)
  clear hb
  go_enter Tryz.func79, Tryz.ntmps79
  go_wp2_with (go_at_call 77; refine (number_is _ _ _ HW).mono ?_; rintro e w1 ⟨rfl, rfl⟩)
  go_ret
  exact ⟨congrArg Ending.returned (congrArg Value.bool HE.out), one_box _⟩

set_option maxRecDepth 100000 in
set_option maxHeartbeats 1000000 in
theorem bad_top (f : Pt) (v : Bool) (w : World) (hs : Hid (f.t.size ≤ maxLen)) (HV : Hid (badTop f = v)) :
    Calls Tryz.prog 66 #[.agg #[.string f.t, .int .i64 f.n]] w fun e w' => e = .returned (.bool v) ∧ Below w.heap.size w w' := by
  obtain ⟨b, hb⟩ : ∃ b, nameB f.t = b := ⟨_, rfl⟩
  have HW := Lib.hid hb
  have HE : Hid ((!b) = v) := Lib.hid (by rw [← HV.out, ← hb]; rfl)
  clear hb
  go_enter Tryz.func66, Tryz.ntmps66
  go_wp2_with (go_at_call 22; refine (name_is _ _ _ hs HW).mono ?_; rintro e w1 ⟨rfl, hb1⟩)
  go_ret
  exact ⟨congrArg Ending.returned (congrArg Value.bool HE.out), (one_box _).trans (hb1.mono (by simp))⟩
set_option maxRecDepth 100000 in
set_option maxHeartbeats 1000000 in
theorem bad_rec (f : Fd) (v : Bool) (w : World) (h1 : Hid (f.r.key.size ≤ maxLen)) (h2 : Hid (f.r.val.size ≤ maxLen)) (HV : Hid (badRec f = v)) :
    Calls Tryz.prog 64 #[.agg #[.int .i64 f.o, .bool f.r.hk, .string f.r.key, .bool f.r.tb, .string f.r.val]] w fun e w' => e = .returned (.bool v) ∧ Below w.heap.size w w' := by
  obtain ⟨b, hb⟩ : ∃ b, chk f.r.hk f.r.key f.r.tb f.r.val = b := ⟨_, rfl⟩
  have HE : Hid ((b != 0) = v) := Lib.hid (by rw [← HV.out, ← hb]; rfl)
  have HB := Lib.hid hb
  clear hb
  go_enter Tryz.func64, Tryz.ntmps64
  go_wp2_with (go_at_call 67; refine (check_any _ _ _ _ _ h1.out h2.out).mono ?_; rintro e w1 ⟨rfl, hb1⟩; rw [HB.out])
  go_ret
  exact ⟨congrArg Ending.returned (congrArg Value.bool HE.out), (one_box _).trans (hb1.mono (by simp))⟩


set_option maxRecDepth 100000 in
set_option maxHeartbeats 2000000 in
theorem off_index (A : Option Addr) (l : List Fd) (cap B : Nat) (w : World) (hR : Hid (ReadsF w B A l)) (hB : B ≤ w.heap.size) (hl : Hid (l.length ≤ maxLen)) :
    Calls Tryz.prog 80 #[.slice A l.length cap, .func (.func 78) #[] #[]] w fun e w' => (∃ i : Int, e = .returned (.int .i64 i) ∧ decide (0 ≤ i) = l.any badOff) ∧ Below w.heap.size w w' := by
  have hl1 := hl.out
  unfold maxLen at hl1
  go_enter Tryz.func80, Tryz.ntmps80
  go_wp2_with fail
  go_loopw [8] (fun i wr => ∃ k : Nat, k ≤ l.length ∧ i = .int .i64 k ∧ Hid ((l.take k).any badOff = false) ∧ Below w.heap.size w wr) (fun i _ => l.length - (intOf i).toNat)
  case atStart => exact ⟨0, by omega, rfl, Lib.hid (by simp), Below.refl _ _⟩
  case round =>
    obtain ⟨k, hk, rfl, hall, hbel⟩ := hrel
    by_cases hlt : k < l.length
    · obtain ⟨g, rfl, hg, hcells⟩ := hR.out (by omega)
      obtain ⟨x, hx⟩ : ∃ x, l[k]? = some x := ⟨l[k], List.getElem?_eq_getElem hlt⟩
      obtain ⟨c0, c1, c2, c3, c4⟩ := hcells k _ hx
      have d0 := (hbel.cell (p := ⟨g, k * 5, none⟩) (by show g < _; omega)).trans c0
      have d1 := (hbel.cell (p := ⟨g, k * 5 + 1, none⟩) (by show g < _; omega)).trans c1
      have d2 := (hbel.cell (p := ⟨g, k * 5 + 2, none⟩) (by show g < _; omega)).trans c2
      have d3 := (hbel.cell (p := ⟨g, k * 5 + 3, none⟩) (by show g < _; omega)).trans c3
      have d4 := (hbel.cell (p := ⟨g, k * 5 + 4, none⟩) (by show g < _; omega)).trans c4
      have HX := Lib.hid hx
      obtain ⟨v, hv⟩ : ∃ v, badOff x = v := ⟨_, rfl⟩
      have HV := Lib.hid hv
      have k0 : (0 : Int) ≤ (k : Int) := by omega
      have kl : (k : Int) < (l.length : Int) := by omega
      clear c0 c1 c2 c3 c4 hcells hx hv
      cases v with
      | false =>
        have HNX := Lib.hid (any_next hall.out HX.out HV.out)
        go_wp2_with (go_at_call 78; refine (bad_off x _ _ HV).mono ?_; rintro e w1 ⟨rfl, hb1⟩)
        go_roundw
        case rel => exact ⟨k + 1, by omega, by go_num, HNX, hbel.trans (hb1.mono hbel.size)⟩
        case measure => simp [intOf]; omega
      | true =>
        have HNX := Lib.hid (any_hit HX.out HV.out)
        go_wp2_with (go_at_call 78; refine (bad_off x _ _ HV).mono ?_; rintro e w1 ⟨rfl, hb1⟩)
        go_ret
        exact ⟨⟨k, rfl, by rw [HNX.out]; simp⟩, hbel.trans (hb1.mono hbel.size)⟩
    · obtain rfl : k = l.length := by omega
      have h3 := hall.out
      rw [List.take_length] at h3
      have HT := Lib.hid h3
      clear h3
      go_wp2_with fail
      go_ret
      exact ⟨⟨-1, rfl, by rw [HT.out]; rfl⟩, hbel⟩
set_option maxRecDepth 100000 in
set_option maxHeartbeats 2000000 in
theorem off_any (A : Option Addr) (l : List Fd) (cap B : Nat) (v : Bool) (w : World) (hR : Hid (ReadsF w B A l)) (hB : B ≤ w.heap.size) (hl : Hid (l.length ≤ maxLen)) (HV : Hid (l.any badOff = v)) :
    Calls Tryz.prog 63 #[.slice A l.length cap, .func (.func 78) #[] #[]] w fun e w' => e = .returned (.bool v) ∧ Below w.heap.size w w' := by
  go_enter Tryz.func63, Tryz.ntmps63
  go_wp2_with (go_at_call 80; refine (off_index _ _ _ B _ hR hB hl).mono ?_; rintro e w1 ⟨⟨i, rfl, hi⟩, hb1⟩; have HI := Lib.hid hi; clear hi)
  go_ret
  exact ⟨congrArg Ending.returned (congrArg Value.bool (HI.out.trans HV.out)), hb1⟩


set_option maxRecDepth 100000 in
set_option maxHeartbeats 2000000 in
theorem rec_index (A : Option Addr) (l : List Fd) (cap B : Nat) (w : World) (hR : Hid (ReadsF w B A l)) (hB : B ≤ w.heap.size) (hl : Hid (l.length ≤ maxLen)) (hs : Hid (FSz l)) :
    Calls Tryz.prog 80 #[.slice A l.length cap, .func (.func 64) #[] #[]] w fun e w' => (∃ i : Int, e = .returned (.int .i64 i) ∧ decide (0 ≤ i) = l.any badRec) ∧ Below w.heap.size w w' := by
  have hl1 := hl.out
  unfold maxLen at hl1
  go_enter Tryz.func80, Tryz.ntmps80
  go_wp2_with fail
  go_loopw [8] (fun i wr => ∃ k : Nat, k ≤ l.length ∧ i = .int .i64 k ∧ Hid ((l.take k).any badRec = false) ∧ Below w.heap.size w wr) (fun i _ => l.length - (intOf i).toNat)
  case atStart => exact ⟨0, by omega, rfl, Lib.hid (by simp), Below.refl _ _⟩
  case round =>
    obtain ⟨k, hk, rfl, hall, hbel⟩ := hrel
    by_cases hlt : k < l.length
    · obtain ⟨g, rfl, hg, hcells⟩ := hR.out (by omega)
      obtain ⟨x, hx⟩ : ∃ x, l[k]? = some x := ⟨l[k], List.getElem?_eq_getElem hlt⟩
      obtain ⟨c0, c1, c2, c3, c4⟩ := hcells k _ hx
      have d0 := (hbel.cell (p := ⟨g, k * 5, none⟩) (by show g < _; omega)).trans c0
      have d1 := (hbel.cell (p := ⟨g, k * 5 + 1, none⟩) (by show g < _; omega)).trans c1
      have d2 := (hbel.cell (p := ⟨g, k * 5 + 2, none⟩) (by show g < _; omega)).trans c2
      have d3 := (hbel.cell (p := ⟨g, k * 5 + 3, none⟩) (by show g < _; omega)).trans c3
      have d4 := (hbel.cell (p := ⟨g, k * 5 + 4, none⟩) (by show g < _; omega)).trans c4
      have HX := Lib.hid hx
      have Z := hs.out _ (List.mem_of_getElem? hx)
      have Z1 := Lib.hid Z.1
      have Z2 := Lib.hid Z.2
      obtain ⟨v, hv⟩ : ∃ v, badRec x = v := ⟨_, rfl⟩
      have HV := Lib.hid hv
      have k0 : (0 : Int) ≤ (k : Int) := by omega
      have kl : (k : Int) < (l.length : Int) := by omega
      clear c0 c1 c2 c3 c4 hcells hx hv Z
      cases v with
      | false =>
        have HNX := Lib.hid (any_next hall.out HX.out HV.out)
        go_wp2_with (go_at_call 64; refine (bad_rec x _ _ Z1 Z2 HV).mono ?_; rintro e w1 ⟨rfl, hb1⟩)
        go_roundw
        case rel => exact ⟨k + 1, by omega, by go_num, HNX, hbel.trans (hb1.mono hbel.size)⟩
        case measure => simp [intOf]; omega
      | true =>
        have HNX := Lib.hid (any_hit HX.out HV.out)
        go_wp2_with (go_at_call 64; refine (bad_rec x _ _ Z1 Z2 HV).mono ?_; rintro e w1 ⟨rfl, hb1⟩)
        go_ret
        exact ⟨⟨k, rfl, by rw [HNX.out]; simp⟩, hbel.trans (hb1.mono hbel.size)⟩
    · obtain rfl : k = l.length := by omega
      have h3 := hall.out
      rw [List.take_length] at h3
      have HT := Lib.hid h3
      clear h3
      go_wp2_with fail
      go_ret
      exact ⟨⟨-1, rfl, by rw [HT.out]; rfl⟩, hbel⟩
set_option maxRecDepth 100000 in
set_option maxHeartbeats 2000000 in
theorem rec_any (A : Option Addr) (l : List Fd) (cap B : Nat) (v : Bool) (w : World) (hR : Hid (ReadsF w B A l)) (hB : B ≤ w.heap.size) (hl : Hid (l.length ≤ maxLen)) (hs : Hid (FSz l)) (HV : Hid (l.any badRec = v)) :
    Calls Tryz.prog 63 #[.slice A l.length cap, .func (.func 64) #[] #[]] w fun e w' => e = .returned (.bool v) ∧ Below w.heap.size w w' := by
  go_enter Tryz.func63, Tryz.ntmps63
  go_wp2_with (go_at_call 80; refine (rec_index _ _ _ B _ hR hB hl hs).mono ?_; rintro e w1 ⟨⟨i, rfl, hi⟩, hb1⟩; have HI := Lib.hid hi; clear hi)
  go_ret
  exact ⟨congrArg Ending.returned (congrArg Value.bool (HI.out.trans HV.out)), hb1⟩


set_option maxRecDepth 100000 in
set_option maxHeartbeats 2000000 in
theorem num_index (A : Option Addr) (l : List Pt) (cap B : Nat) (w : World) (hR : Hid (ReadsP w B A l)) (hB : B ≤ w.heap.size) (hl : Hid (l.length ≤ maxLen)) :
    Calls Tryz.prog 81 #[.slice A l.length cap, .func (.func 79) #[] #[]] w fun e w' => (∃ i : Int, e = .returned (.int .i64 i) ∧ decide (0 ≤ i) = l.any badN) ∧ Below w.heap.size w w' := by
  have hl1 := hl.out
  unfold maxLen at hl1
  go_enter Tryz.func81, Tryz.ntmps81
  go_wp2_with fail
  go_loopw [8] (fun i wr => ∃ k : Nat, k ≤ l.length ∧ i = .int .i64 k ∧ Hid ((l.take k).any badN = false) ∧ Below w.heap.size w wr) (fun i _ => l.length - (intOf i).toNat)
  case atStart => exact ⟨0, by omega, rfl, Lib.hid (by simp), Below.refl _ _⟩
  case round =>
    obtain ⟨k, hk, rfl, hall, hbel⟩ := hrel
    by_cases hlt : k < l.length
    · obtain ⟨g, rfl, hg, hcells⟩ := hR.out (by omega)
      obtain ⟨x, hx⟩ : ∃ x, l[k]? = some x := ⟨l[k], List.getElem?_eq_getElem hlt⟩
      obtain ⟨c0, c1⟩ := hcells k _ hx
      have d0 := (hbel.cell (p := ⟨g, k * 2, none⟩) (by show g < _; omega)).trans c0
      have d1 := (hbel.cell (p := ⟨g, k * 2 + 1, none⟩) (by show g < _; omega)).trans c1
      have HX := Lib.hid hx
      obtain ⟨v, hv⟩ : ∃ v, badN x = v := ⟨_, rfl⟩
      have HV := Lib.hid hv
      have k0 : (0 : Int) ≤ (k : Int) := by omega
      have kl : (k : Int) < (l.length : Int) := by omega
      clear c0 c1 hcells hx hv
      cases v with
      | false =>
        have HNX := Lib.hid (any_next hall.out HX.out HV.out)
        go_wp2_with (go_at_call 79; refine (bad_n x _ _ HV).mono ?_; rintro e w1 ⟨rfl, hb1⟩)
        go_roundw
        case rel => exact ⟨k + 1, by omega, by go_num, HNX, hbel.trans (hb1.mono hbel.size)⟩
        case measure => simp [intOf]; omega
      | true =>
        have HNX := Lib.hid (any_hit HX.out HV.out)
        go_wp2_with (go_at_call 79; refine (bad_n x _ _ HV).mono ?_; rintro e w1 ⟨rfl, hb1⟩)
        go_ret
        exact ⟨⟨k, rfl, by rw [HNX.out]; simp⟩, hbel.trans (hb1.mono hbel.size)⟩
    · obtain rfl : k = l.length := by omega
      have h3 := hall.out
      rw [List.take_length] at h3
      have HT := Lib.hid h3
      clear h3
      go_wp2_with fail
      go_ret
      exact ⟨⟨-1, rfl, by rw [HT.out]; rfl⟩, hbel⟩
set_option maxRecDepth 100000 in
set_option maxHeartbeats 2000000 in
theorem num_any (A : Option Addr) (l : List Pt) (cap B : Nat) (v : Bool) (w : World) (hR : Hid (ReadsP w B A l)) (hB : B ≤ w.heap.size) (hl : Hid (l.length ≤ maxLen)) (HV : Hid (l.any badN = v)) :
    Calls Tryz.prog 65 #[.slice A l.length cap, .func (.func 79) #[] #[]] w fun e w' => e = .returned (.bool v) ∧ Below w.heap.size w w' := by
  go_enter Tryz.func65, Tryz.ntmps65
  go_wp2_with (go_at_call 81; refine (num_index _ _ _ B _ hR hB hl).mono ?_; rintro e w1 ⟨⟨i, rfl, hi⟩, hb1⟩; have HI := Lib.hid hi; clear hi)
  go_ret
  exact ⟨congrArg Ending.returned (congrArg Value.bool (HI.out.trans HV.out)), hb1⟩


set_option maxRecDepth 100000 in
set_option maxHeartbeats 2000000 in
theorem top_index (A : Option Addr) (l : List Pt) (cap B : Nat) (w : World) (hR : Hid (ReadsP w B A l)) (hB : B ≤ w.heap.size) (hl : Hid (l.length ≤ maxLen)) (hs : Hid (PSz l)) :
    Calls Tryz.prog 81 #[.slice A l.length cap, .func (.func 66) #[] #[]] w fun e w' => (∃ i : Int, e = .returned (.int .i64 i) ∧ decide (0 ≤ i) = l.any badTop) ∧ Below w.heap.size w w' := by
  have hl1 := hl.out
  unfold maxLen at hl1
  go_enter Tryz.func81, Tryz.ntmps81
  go_wp2_with fail
  go_loopw [8] (fun i wr => ∃ k : Nat, k ≤ l.length ∧ i = .int .i64 k ∧ Hid ((l.take k).any badTop = false) ∧ Below w.heap.size w wr) (fun i _ => l.length - (intOf i).toNat)
  case atStart => exact ⟨0, by omega, rfl, Lib.hid (by simp), Below.refl _ _⟩
  case round =>
    obtain ⟨k, hk, rfl, hall, hbel⟩ := hrel
    by_cases hlt : k < l.length
    · obtain ⟨g, rfl, hg, hcells⟩ := hR.out (by omega)
      obtain ⟨x, hx⟩ : ∃ x, l[k]? = some x := ⟨l[k], List.getElem?_eq_getElem hlt⟩
      obtain ⟨c0, c1⟩ := hcells k _ hx
      have d0 := (hbel.cell (p := ⟨g, k * 2, none⟩) (by show g < _; omega)).trans c0
      have d1 := (hbel.cell (p := ⟨g, k * 2 + 1, none⟩) (by show g < _; omega)).trans c1
      have HX := Lib.hid hx
      have Z := hs.out _ (List.mem_of_getElem? hx)
      have Z1 := Lib.hid Z
      obtain ⟨v, hv⟩ : ∃ v, badTop x = v := ⟨_, rfl⟩
      have HV := Lib.hid hv
      have k0 : (0 : Int) ≤ (k : Int) := by omega
      have kl : (k : Int) < (l.length : Int) := by omega
      clear c0 c1 hcells hx hv Z
      cases v with
      | false =>
        have HNX := Lib.hid (any_next hall.out HX.out HV.out)
        go_wp2_with (go_at_call 66; refine (bad_top x _ _ Z1 HV).mono ?_; rintro e w1 ⟨rfl, hb1⟩)
        go_roundw
        case rel => exact ⟨k + 1, by omega, by go_num, HNX, hbel.trans (hb1.mono hbel.size)⟩
        case measure => simp [intOf]; omega
      | true =>
        have HNX := Lib.hid (any_hit HX.out HV.out)
        go_wp2_with (go_at_call 66; refine (bad_top x _ _ Z1 HV).mono ?_; rintro e w1 ⟨rfl, hb1⟩)
        go_ret
        exact ⟨⟨k, rfl, by rw [HNX.out]; simp⟩, hbel.trans (hb1.mono hbel.size)⟩
    · obtain rfl : k = l.length := by omega
      have h3 := hall.out
      rw [List.take_length] at h3
      have HT := Lib.hid h3
      clear h3
      go_wp2_with fail
      go_ret
      exact ⟨⟨-1, rfl, by rw [HT.out]; rfl⟩, hbel⟩
set_option maxRecDepth 100000 in
set_option maxHeartbeats 2000000 in
theorem top_any (A : Option Addr) (l : List Pt) (cap B : Nat) (v : Bool) (w : World) (hR : Hid (ReadsP w B A l)) (hB : B ≤ w.heap.size) (hl : Hid (l.length ≤ maxLen)) (hs : Hid (PSz l)) (HV : Hid (l.any badTop = v)) :
    Calls Tryz.prog 65 #[.slice A l.length cap, .func (.func 66) #[] #[]] w fun e w' => e = .returned (.bool v) ∧ Below w.heap.size w w' := by
  go_enter Tryz.func65, Tryz.ntmps65
  go_wp2_with (go_at_call 81; refine (top_index _ _ _ B _ hR hB hl hs).mono ?_; rintro e w1 ⟨⟨i, rfl, hi⟩, hb1⟩; have HI := Lib.hid hi; clear hi)
  go_ret
  exact ⟨congrArg Ending.returned (congrArg Value.bool (HI.out.trans HV.out)), hb1⟩


end Go.Proofs.YtijofikpdhapoaaGreat.L4
/-
  Contracts: may a reply be? The program's own, whole.
-/
namespace Go.Proofs.YtijofikpdhapoaaGreat.L4
open Go.RowKit
open L3

theorem rw_cell {w : World} {g j : Nat} {cs : Array Value} {t : TypeId} {v : Value} (hg : w.heap[g]? = some (.cells cs t (0, 0))) (hv : cs[j]? = some v) : w.cell? ⟨g, j, none⟩ = some v := (cell_of_row w g j cs t _ hg).trans hv


/-- the first four are numbers, so far -/
def four (r : Rp) : Nat → Bool
  | 0 => true
  | 1 => numB r.e
  | 2 => numB r.e && numB r.off
  | 3 => numB r.e && numB r.off && numB r.n
  | _ => numB r.e && numB r.off && numB r.n && numB r.gen
set_option maxRecDepth 100000 in
set_option maxHeartbeats 4000000 in
theorem nums_is (r : Rp) (FA PA : Option Addr) (fc pc B : Nat) (w : World) (hB : B ≤ w.heap.size) (hF : Hid (ReadsF w B FA r.found)) (hP : Hid (ReadsP w B PA r.parts)) (zF : Hid (r.found.length ≤ maxLen)) (zP : Hid (r.parts.length ≤ maxLen)) (v : Bool) (HV : Hid (numsR r = v)) :
    Calls Tryz.prog 62 #[.agg #[.int .i64 r.e, .int .i64 r.off, .int .i64 r.n, .int .i64 r.gen, .slice FA r.found.length fc, .slice PA r.parts.length pc]] w fun e w' => e = .returned (.bool v) ∧ Below w.heap.size w w' := by
  have i0 : ∀ w, (Instr.index 128 (.agg #[.int .i64 r.e, .int .i64 r.off, .int .i64 r.n, .int .i64 r.gen]) (.int .i64 0)).run Tryz.prog w = .ok (.int .i64 r.e) w := fun _ => by kernel_rfl
  have i1 : ∀ w, (Instr.index 128 (.agg #[.int .i64 r.e, .int .i64 r.off, .int .i64 r.n, .int .i64 r.gen]) (.int .i64 1)).run Tryz.prog w = .ok (.int .i64 r.off) w := fun _ => by kernel_rfl
  have i2 : ∀ w, (Instr.index 128 (.agg #[.int .i64 r.e, .int .i64 r.off, .int .i64 r.n, .int .i64 r.gen]) (.int .i64 2)).run Tryz.prog w = .ok (.int .i64 r.n) w := fun _ => by kernel_rfl
  have i3 : ∀ w, (Instr.index 128 (.agg #[.int .i64 r.e, .int .i64 r.off, .int .i64 r.n, .int .i64 r.gen]) (.int .i64 3)).run Tryz.prog w = .ok (.int .i64 r.gen) w := fun _ => by kernel_rfl
  have r0 := Lib.hid (heap_alloc_new w (.cells #[.int .i64 r.e, .int .i64 r.off, .int .i64 r.n, .int .i64 r.gen, .slice FA r.found.length fc, .slice PA r.parts.length pc] 59 (0, 0)))
  go_enter Tryz.func62, Tryz.ntmps62
  go_wp2_with fail
  go_loopw [14] (fun i wr => ∃ k : Nat, k ≤ 4 ∧ i = .int .i64 k ∧ Hid (four r k = true) ∧ wr = w.alloc (.cells #[.int .i64 r.e, .int .i64 r.off, .int .i64 r.n, .int .i64 r.gen, .slice FA r.found.length fc, .slice PA r.parts.length pc] 59 (0, 0))) (fun i _ => 4 - (intOf i).toNat)
  case atStart => exact ⟨0, by omega, rfl, Lib.hid rfl, rfl⟩
  case round =>
    obtain ⟨k, hk, rfl, hall, rfl⟩ := hrel
    have hk4 : k = 0 ∨ k = 1 ∨ k = 2 ∨ k = 3 ∨ k = 4 := by omega
    rcases hk4 with rfl | rfl | rfl | rfl | rfl
    · obtain ⟨b, hb⟩ : ∃ b, numB r.e = b := ⟨_, rfl⟩
      have HW := Lib.hid hb
      clear hb
      cases b with
      | true =>
        have HN : Hid (four r 1 = true) := Lib.hid (by have h := hall.out; have q := HW.out; exact q)
        go_wp2_with (go_at_call 77; refine (number_is _ _ _ HW).mono ?_; rintro e w1 ⟨rfl, rfl⟩)
        go_roundw
        case rel => exact ⟨1, by omega, by go_num, HN, by first | rfl | trivial⟩
        case measure => simp [intOf]
      | false =>
        have HD : Hid (v = false) := Lib.hid (by rw [← HV.out]; have q := HW.out; simp [numsR, q])
        go_wp2_with (go_at_call 77; refine (number_is _ _ _ HW).mono ?_; rintro e w1 ⟨rfl, rfl⟩)
        go_ret
        exact ⟨congrArg Ending.returned (congrArg Value.bool HD.out.symm), one_box _⟩
    · obtain ⟨b, hb⟩ : ∃ b, numB r.off = b := ⟨_, rfl⟩
      have HW := Lib.hid hb
      clear hb
      cases b with
      | true =>
        have HN : Hid (four r 2 = true) := Lib.hid (by have h := hall.out; have q := HW.out; simp only [four, Bool.and_eq_true] at h ⊢; simp [h, q])
        go_wp2_with (go_at_call 77; refine (number_is _ _ _ HW).mono ?_; rintro e w1 ⟨rfl, rfl⟩)
        go_roundw
        case rel => exact ⟨2, by omega, by go_num, HN, by first | rfl | trivial⟩
        case measure => simp [intOf]
      | false =>
        have HD : Hid (v = false) := Lib.hid (by rw [← HV.out]; have q := HW.out; simp [numsR, q])
        go_wp2_with (go_at_call 77; refine (number_is _ _ _ HW).mono ?_; rintro e w1 ⟨rfl, rfl⟩)
        go_ret
        exact ⟨congrArg Ending.returned (congrArg Value.bool HD.out.symm), one_box _⟩
    · obtain ⟨b, hb⟩ : ∃ b, numB r.n = b := ⟨_, rfl⟩
      have HW := Lib.hid hb
      clear hb
      cases b with
      | true =>
        have HN : Hid (four r 3 = true) := Lib.hid (by have h := hall.out; have q := HW.out; simp only [four, Bool.and_eq_true] at h ⊢; simp [h, q])
        go_wp2_with (go_at_call 77; refine (number_is _ _ _ HW).mono ?_; rintro e w1 ⟨rfl, rfl⟩)
        go_roundw
        case rel => exact ⟨3, by omega, by go_num, HN, by first | rfl | trivial⟩
        case measure => simp [intOf]
      | false =>
        have HD : Hid (v = false) := Lib.hid (by rw [← HV.out]; have q := HW.out; simp [numsR, q])
        go_wp2_with (go_at_call 77; refine (number_is _ _ _ HW).mono ?_; rintro e w1 ⟨rfl, rfl⟩)
        go_ret
        exact ⟨congrArg Ending.returned (congrArg Value.bool HD.out.symm), one_box _⟩
    · obtain ⟨b, hb⟩ : ∃ b, numB r.gen = b := ⟨_, rfl⟩
      have HW := Lib.hid hb
      clear hb
      cases b with
      | true =>
        have HN : Hid (four r 4 = true) := Lib.hid (by have h := hall.out; have q := HW.out; simp only [four, Bool.and_eq_true] at h ⊢; simp [h, q])
        go_wp2_with (go_at_call 77; refine (number_is _ _ _ HW).mono ?_; rintro e w1 ⟨rfl, rfl⟩)
        go_roundw
        case rel => exact ⟨4, by omega, by go_num, HN, by first | rfl | trivial⟩
        case measure => simp [intOf]
      | false =>
        have HD : Hid (v = false) := Lib.hid (by rw [← HV.out]; have q := HW.out; simp [numsR, q])
        go_wp2_with (go_at_call 77; refine (number_is _ _ _ HW).mono ?_; rintro e w1 ⟨rfl, rfl⟩)
        go_ret
        exact ⟨congrArg Ending.returned (congrArg Value.bool HD.out.symm), one_box _⟩
    · obtain ⟨a, ha⟩ : ∃ a, r.found.any badOff = a := ⟨_, rfl⟩
      obtain ⟨b, hb⟩ : ∃ b, r.parts.any badN = b := ⟨_, rfl⟩
      have HA := Lib.hid ha
      have HB := Lib.hid hb
      have HD : Hid ((!a && !b) = v) := Lib.hid (by rw [← HV.out]; have q := hall.out; simp only [four] at q; simp only [numsR]; rw [q, ha, hb]; simp)
      have x4 : (w.alloc (.cells #[.int .i64 r.e, .int .i64 r.off, .int .i64 r.n, .int .i64 r.gen, .slice FA r.found.length fc, .slice PA r.parts.length pc] 59 (0, 0))).cell? ⟨w.heap.size, 4, none⟩ = some (.slice FA r.found.length fc) := rw_cell r0.out rfl
      have x5 : (w.alloc (.cells #[.int .i64 r.e, .int .i64 r.off, .int .i64 r.n, .int .i64 r.gen, .slice FA r.found.length fc, .slice PA r.parts.length pc] 59 (0, 0))).cell? ⟨w.heap.size, 5, none⟩ = some (.slice PA r.parts.length pc) := rw_cell r0.out rfl
      clear ha hb i0 i1 i2 i3
      rw [show ((4 : Nat) : Int) = 4 from rfl]
      cases a with
      | true =>
        go_wp2_with (go_at_call 63; refine (off_any _ _ _ w.heap.size _ _ (Lib.hid ((hF.out.mono hB).below (one_box _))) (by simp) zF HA).mono ?_; rintro e w1 ⟨rfl, hb1⟩)
        go_ret
        exact ⟨congrArg Ending.returned (congrArg Value.bool HD.out), (one_box _).trans (hb1.mono (by simp))⟩
      | false =>
        cases b
        all_goals
          go_wp2_with (first
            | (go_at_call 63; refine (off_any _ _ _ w.heap.size _ _ (Lib.hid ((hF.out.mono hB).below (one_box _))) (by simp) zF HA).mono ?_; rintro e w1 ⟨rfl, hb1⟩; have HB1 := Lib.hid ((one_box (.cells #[.int .i64 r.e, .int .i64 r.off, .int .i64 r.n, .int .i64 r.gen, .slice FA r.found.length fc, .slice PA r.parts.length pc] 59 (0, 0))).trans (hb1.mono (by simp))); have y5 := rw_cell (j := 5) ((hb1.block w.heap.size (by simp)).trans r0.out) rfl; clear x4 x5)
            | (go_at_call 65; refine (num_any _ _ _ w.heap.size _ _ (Lib.hid ((hP.out.mono hB).below HB1.out)) HB1.out.size zP HB).mono ?_; rintro e w2 ⟨rfl, hb2⟩))
          go_ret
          exact ⟨congrArg Ending.returned (congrArg Value.bool HD.out), acc HB1.out hb2⟩


set_option maxRecDepth 100000 in
set_option maxHeartbeats 8000000 in
theorem checkr_is (r : Rp) (FA PA : Option Addr) (fc pc B : Nat) (w : World) (hB : B ≤ w.heap.size) (hF : Hid (ReadsF w B FA r.found)) (hP : Hid (ReadsP w B PA r.parts)) (zF : Hid (r.found.length ≤ maxLen)) (zP : Hid (r.parts.length ≤ maxLen)) (sF : Hid (FSz r.found)) (sP : Hid (PSz r.parts)) (x : Int) (HC : Hid (r.chk = x)) :
    Calls Tryz.prog 37 #[.agg #[.int .i64 r.e, .int .i64 r.off, .int .i64 r.n, .int .i64 r.gen, .slice FA r.found.length fc, .slice PA r.parts.length pc]] w fun e w' => e = .returned (.int .i64 x) ∧ Below w.heap.size w w' := by
  obtain ⟨v1, e1⟩ : ∃ v, numsR r = v := ⟨_, rfl⟩
  obtain ⟨v3, e3⟩ : ∃ v, r.found.any badRec = v := ⟨_, rfl⟩
  obtain ⟨v4, e4⟩ : ∃ v, r.parts.any badTop = v := ⟨_, rfl⟩
  have H1 := Lib.hid e1
  have H3 := Lib.hid e3
  have H4 := Lib.hid e4
  have hx := HC.out
  unfold Rp.chk at hx
  rw [e1, e3, e4] at hx
  clear e1 e3 e4 HC
  cases v1 with
  | false =>
    have HX : Hid (1 = x) := Lib.hid (by rw [← hx]; rfl)
    clear hx
    go_enter Tryz.func37, Tryz.ntmps37
    go_wp2_with (first
      | (go_at_call 62; refine (nums_is r FA PA fc pc w.heap.size _ (by simp) (Lib.hid ((hF.out.mono hB).below (one_box _))) (Lib.hid ((hP.out.mono hB).below (one_box _))) zF zP _ H1).mono ?_; rintro e w1 ⟨rfl, hb1⟩; have HB1 := Lib.hid ((one_box (.cells #[.int .i64 r.e, .int .i64 r.off, .int .i64 r.n, .int .i64 r.gen, .slice FA r.found.length fc, .slice PA r.parts.length pc] 59 (0, 0))).trans (hb1.mono (by simp))); have r1 := (hb1.block w.heap.size (by simp)).trans (heap_alloc_new w (.cells #[.int .i64 r.e, .int .i64 r.off, .int .i64 r.n, .int .i64 r.gen, .slice FA r.found.length fc, .slice PA r.parts.length pc] 59 (0, 0))); have x0 := rw_cell (j := 0) r1 rfl; have x1 := rw_cell (j := 1) r1 rfl; have x2 := rw_cell (j := 2) r1 rfl; have x3 := rw_cell (j := 3) r1 rfl; have x4 := rw_cell (j := 4) r1 rfl; have x5 := rw_cell (j := 5) r1 rfl; have R1 := Lib.hid r1; clear r1 hb1))
    go_ret
    exact ⟨congrArg Ending.returned (congrArg (Value.int .i64) (Eq.trans (by simp [*]) HX.out)), HB1.out⟩
  | true =>
    have hc : 64 < r.found.length ∨ (¬ 64 < r.found.length ∧ 64 < r.parts.length) ∨ (¬ 64 < r.found.length ∧ ¬ 64 < r.parts.length) := by omega
    rcases hc with c | ⟨c, d⟩ | ⟨c, d⟩
    · have HX : Hid (2 = x) := Lib.hid (by rw [← hx]; simp [c])
      have c1 : (64 : Int) < (r.found.length : Int) := by omega
      clear hx c
      go_enter Tryz.func37, Tryz.ntmps37
      go_wp2_with (first
        | (go_at_call 62; refine (nums_is r FA PA fc pc w.heap.size _ (by simp) (Lib.hid ((hF.out.mono hB).below (one_box _))) (Lib.hid ((hP.out.mono hB).below (one_box _))) zF zP _ H1).mono ?_; rintro e w1 ⟨rfl, hb1⟩; have HB1 := Lib.hid ((one_box (.cells #[.int .i64 r.e, .int .i64 r.off, .int .i64 r.n, .int .i64 r.gen, .slice FA r.found.length fc, .slice PA r.parts.length pc] 59 (0, 0))).trans (hb1.mono (by simp))); have r1 := (hb1.block w.heap.size (by simp)).trans (heap_alloc_new w (.cells #[.int .i64 r.e, .int .i64 r.off, .int .i64 r.n, .int .i64 r.gen, .slice FA r.found.length fc, .slice PA r.parts.length pc] 59 (0, 0))); have x0 := rw_cell (j := 0) r1 rfl; have x1 := rw_cell (j := 1) r1 rfl; have x2 := rw_cell (j := 2) r1 rfl; have x3 := rw_cell (j := 3) r1 rfl; have x4 := rw_cell (j := 4) r1 rfl; have x5 := rw_cell (j := 5) r1 rfl; have R1 := Lib.hid r1; clear r1 hb1))
      go_ret
      exact ⟨congrArg Ending.returned (congrArg (Value.int .i64) (Eq.trans (by simp [*]) HX.out)), HB1.out⟩
    · have HX : Hid (2 = x) := Lib.hid (by rw [← hx]; simp [d])
      have c1 : ¬ (64 : Int) < (r.found.length : Int) := by omega
      have d1 : (64 : Int) < (r.parts.length : Int) := by omega
      clear hx c d
      go_enter Tryz.func37, Tryz.ntmps37
      go_wp2_with (first
        | (go_at_call 62; refine (nums_is r FA PA fc pc w.heap.size _ (by simp) (Lib.hid ((hF.out.mono hB).below (one_box _))) (Lib.hid ((hP.out.mono hB).below (one_box _))) zF zP _ H1).mono ?_; rintro e w1 ⟨rfl, hb1⟩; have HB1 := Lib.hid ((one_box (.cells #[.int .i64 r.e, .int .i64 r.off, .int .i64 r.n, .int .i64 r.gen, .slice FA r.found.length fc, .slice PA r.parts.length pc] 59 (0, 0))).trans (hb1.mono (by simp))); have r1 := (hb1.block w.heap.size (by simp)).trans (heap_alloc_new w (.cells #[.int .i64 r.e, .int .i64 r.off, .int .i64 r.n, .int .i64 r.gen, .slice FA r.found.length fc, .slice PA r.parts.length pc] 59 (0, 0))); have x0 := rw_cell (j := 0) r1 rfl; have x1 := rw_cell (j := 1) r1 rfl; have x2 := rw_cell (j := 2) r1 rfl; have x3 := rw_cell (j := 3) r1 rfl; have x4 := rw_cell (j := 4) r1 rfl; have x5 := rw_cell (j := 5) r1 rfl; have R1 := Lib.hid r1; clear r1 hb1))
      go_ret
      exact ⟨congrArg Ending.returned (congrArg (Value.int .i64) (Eq.trans (by simp [*]) HX.out)), HB1.out⟩
    · have hx2 : (if (v3 || v4) = true then (40 : Int) else 0) = x := by rw [← hx]; simp [c, d]
      have c1 : ¬ (64 : Int) < (r.found.length : Int) := by omega
      have d1 : ¬ (64 : Int) < (r.parts.length : Int) := by omega
      clear hx c d
      cases v3 with
      | true =>
        have HX : Hid (40 = x) := Lib.hid (by rw [← hx2]; rfl)
        clear hx2
        go_enter Tryz.func37, Tryz.ntmps37
        go_wp2_with (first
          | (go_at_call 62; refine (nums_is r FA PA fc pc w.heap.size _ (by simp) (Lib.hid ((hF.out.mono hB).below (one_box _))) (Lib.hid ((hP.out.mono hB).below (one_box _))) zF zP _ H1).mono ?_; rintro e w1 ⟨rfl, hb1⟩; have HB1 := Lib.hid ((one_box (.cells #[.int .i64 r.e, .int .i64 r.off, .int .i64 r.n, .int .i64 r.gen, .slice FA r.found.length fc, .slice PA r.parts.length pc] 59 (0, 0))).trans (hb1.mono (by simp))); have r1 := (hb1.block w.heap.size (by simp)).trans (heap_alloc_new w (.cells #[.int .i64 r.e, .int .i64 r.off, .int .i64 r.n, .int .i64 r.gen, .slice FA r.found.length fc, .slice PA r.parts.length pc] 59 (0, 0))); have x0 := rw_cell (j := 0) r1 rfl; have x1 := rw_cell (j := 1) r1 rfl; have x2 := rw_cell (j := 2) r1 rfl; have x3 := rw_cell (j := 3) r1 rfl; have x4 := rw_cell (j := 4) r1 rfl; have x5 := rw_cell (j := 5) r1 rfl; have R1 := Lib.hid r1; clear r1 hb1)
          | (go_at_call 63; refine (rec_any _ _ _ w.heap.size _ _ (Lib.hid ((hF.out.mono hB).below HB1.out)) HB1.out.size zF sF H3).mono ?_; rintro e w2 ⟨rfl, hb2⟩; have HB2 := Lib.hid (acc HB1.out hb2); have r2 := (hb2.block w.heap.size (Array.getElem?_eq_some_iff.1 R1.out).1).trans R1.out; clear x0 x1 x2 x3 x4 x5; have x0 := rw_cell (j := 0) r2 rfl; have x1 := rw_cell (j := 1) r2 rfl; have x2 := rw_cell (j := 2) r2 rfl; have x3 := rw_cell (j := 3) r2 rfl; have x4 := rw_cell (j := 4) r2 rfl; have x5 := rw_cell (j := 5) r2 rfl; clear r2 hb2))
        go_ret
        exact ⟨congrArg Ending.returned (congrArg (Value.int .i64) (Eq.trans (by simp [*]) HX.out)), HB2.out⟩
      | false =>
        cases v4 with
        | true =>
          have HX : Hid (40 = x) := Lib.hid (by rw [← hx2]; rfl)
          clear hx2
          go_enter Tryz.func37, Tryz.ntmps37
          go_wp2_with (first
            | (go_at_call 62; refine (nums_is r FA PA fc pc w.heap.size _ (by simp) (Lib.hid ((hF.out.mono hB).below (one_box _))) (Lib.hid ((hP.out.mono hB).below (one_box _))) zF zP _ H1).mono ?_; rintro e w1 ⟨rfl, hb1⟩; have HB1 := Lib.hid ((one_box (.cells #[.int .i64 r.e, .int .i64 r.off, .int .i64 r.n, .int .i64 r.gen, .slice FA r.found.length fc, .slice PA r.parts.length pc] 59 (0, 0))).trans (hb1.mono (by simp))); have r1 := (hb1.block w.heap.size (by simp)).trans (heap_alloc_new w (.cells #[.int .i64 r.e, .int .i64 r.off, .int .i64 r.n, .int .i64 r.gen, .slice FA r.found.length fc, .slice PA r.parts.length pc] 59 (0, 0))); have x0 := rw_cell (j := 0) r1 rfl; have x1 := rw_cell (j := 1) r1 rfl; have x2 := rw_cell (j := 2) r1 rfl; have x3 := rw_cell (j := 3) r1 rfl; have x4 := rw_cell (j := 4) r1 rfl; have x5 := rw_cell (j := 5) r1 rfl; have R1 := Lib.hid r1; clear r1 hb1)
            | (go_at_call 63; refine (rec_any _ _ _ w.heap.size _ _ (Lib.hid ((hF.out.mono hB).below HB1.out)) HB1.out.size zF sF H3).mono ?_; rintro e w2 ⟨rfl, hb2⟩; have HB2 := Lib.hid (acc HB1.out hb2); have r2 := (hb2.block w.heap.size (Array.getElem?_eq_some_iff.1 R1.out).1).trans R1.out; clear x0 x1 x2 x3 x4 x5; have x0 := rw_cell (j := 0) r2 rfl; have x1 := rw_cell (j := 1) r2 rfl; have x2 := rw_cell (j := 2) r2 rfl; have x3 := rw_cell (j := 3) r2 rfl; have x4 := rw_cell (j := 4) r2 rfl; have x5 := rw_cell (j := 5) r2 rfl; clear r2 hb2)
            | (go_at_call 65; refine (top_any _ _ _ w.heap.size _ _ (Lib.hid ((hP.out.mono hB).below HB2.out)) HB2.out.size zP sP H4).mono ?_; rintro e w3 ⟨rfl, hb3⟩; have HB3 := Lib.hid (acc HB2.out hb3)))
          go_ret
          exact ⟨congrArg Ending.returned (congrArg (Value.int .i64) (Eq.trans (by simp [*]) HX.out)), HB3.out⟩
        | false =>
          have HX : Hid (0 = x) := Lib.hid (by rw [← hx2]; rfl)
          clear hx2
          go_enter Tryz.func37, Tryz.ntmps37
          go_wp2_with (first
            | (go_at_call 62; refine (nums_is r FA PA fc pc w.heap.size _ (by simp) (Lib.hid ((hF.out.mono hB).below (one_box _))) (Lib.hid ((hP.out.mono hB).below (one_box _))) zF zP _ H1).mono ?_; rintro e w1 ⟨rfl, hb1⟩; have HB1 := Lib.hid ((one_box (.cells #[.int .i64 r.e, .int .i64 r.off, .int .i64 r.n, .int .i64 r.gen, .slice FA r.found.length fc, .slice PA r.parts.length pc] 59 (0, 0))).trans (hb1.mono (by simp))); have r1 := (hb1.block w.heap.size (by simp)).trans (heap_alloc_new w (.cells #[.int .i64 r.e, .int .i64 r.off, .int .i64 r.n, .int .i64 r.gen, .slice FA r.found.length fc, .slice PA r.parts.length pc] 59 (0, 0))); have x0 := rw_cell (j := 0) r1 rfl; have x1 := rw_cell (j := 1) r1 rfl; have x2 := rw_cell (j := 2) r1 rfl; have x3 := rw_cell (j := 3) r1 rfl; have x4 := rw_cell (j := 4) r1 rfl; have x5 := rw_cell (j := 5) r1 rfl; have R1 := Lib.hid r1; clear r1 hb1)
            | (go_at_call 63; refine (rec_any _ _ _ w.heap.size _ _ (Lib.hid ((hF.out.mono hB).below HB1.out)) HB1.out.size zF sF H3).mono ?_; rintro e w2 ⟨rfl, hb2⟩; have HB2 := Lib.hid (acc HB1.out hb2); have r2 := (hb2.block w.heap.size (Array.getElem?_eq_some_iff.1 R1.out).1).trans R1.out; clear x0 x1 x2 x3 x4 x5; have x0 := rw_cell (j := 0) r2 rfl; have x1 := rw_cell (j := 1) r2 rfl; have x2 := rw_cell (j := 2) r2 rfl; have x3 := rw_cell (j := 3) r2 rfl; have x4 := rw_cell (j := 4) r2 rfl; have x5 := rw_cell (j := 5) r2 rfl; clear r2 hb2)
            | (go_at_call 65; refine (top_any _ _ _ w.heap.size _ _ (Lib.hid ((hP.out.mono hB).below HB2.out)) HB2.out.size zP sP H4).mono ?_; rintro e w3 ⟨rfl, hb3⟩; have HB3 := Lib.hid (acc HB2.out hb3)))
          go_ret
          exact ⟨congrArg Ending.returned (congrArg (Value.int .i64) (Eq.trans (by simp [*]) HX.out)), HB3.out⟩


end Go.Proofs.YtijofikpdhapoaaGreat.L4
/-
  Visitors, in general: what a call through the interface of visitors keeps.
-/
namespace Go.Proofs.YtijofikpdhapoaaGreat.L4
open Go.RowKit
open L3

/-- which cells a kind has, in its order -/
def hasK : Nat → List Nat
  | 0 => [1, 3]
  | 1 => [3]
  | 2 => [1, 2, 5]
  | 3 => [1, 2, 4, 3]
  | 4 => [1, 2, 4]
  | 5 => [1, 2]
  | 6 => [9, 10, 3, 12, 13]
  | 7 => [9, 10, 11]
  | 8 => [9, 10, 11]
  | 9 => [9, 10, 11]
  | 10 => [9, 10, 11, 1, 2, 4]
  | 11 => [9, 1, 2]
  | 12 => [3]
  | _ => []

/-- all old blocks but the visitor's own stay, and stay not its own -/
def Kp (own : World → Nat → Prop) (w w' : World) : Prop := w.heap.size ≤ w'.heap.size ∧ ∀ b, b < w.heap.size → ¬ own w b → w'.heap[b]? = w.heap[b]? ∧ ¬ own w' b

/-- a visitor: what it is like, which blocks it writes, what a field does to it, how great it may be -/
structure Vis where
  S : Type
  Inv : S → World → Prop
  own : World → Nat → Prop
  step : Nat → S → S
  G : S → Prop

structure Fits (V : Vis) : Prop where
  stab : ∀ st w w', V.Inv st w → Below w.heap.size w w' → V.Inv st w'
  ownB : ∀ st w w' b, V.Inv st w → Below w.heap.size w w' → b < w.heap.size → V.own w' b → V.own w b
  box : ∀ st w cs, V.Inv st w → ¬ V.own (w.alloc (.cells cs 29 (0, 0))) w.heap.size

def Vis.post (V : Vis) (st : V.S) (w : World) (e : Ending) (w' : World) : Prop := e = .returned (.tuple #[]) ∧ V.Inv st w' ∧ Kp V.own w w'
def Vis.at (V : Vis) (st : V.S) (w : World) (b0 : Nat) (row : Obj) (wc : World) : Prop := V.Inv st wc ∧ wc.heap[b0]? = some row ∧ ¬ V.own wc b0 ∧ Kp V.own w wc

theorem Kp.trans {own : World → Nat → Prop} {a b c : World} (h : Kp own a b) (k : Kp own b c) : Kp own a c :=
  ⟨Nat.le_trans h.1 k.1, fun i hi hn => by
    obtain ⟨h1, h2⟩ := h.2 i hi hn
    obtain ⟨k1, k2⟩ := k.2 i (Nat.lt_of_lt_of_le hi h.1) h2
    exact ⟨k1.trans h1, k2⟩⟩
theorem Fits.kp {V : Vis} (F : Fits V) {st : V.S} {w w' : World} (h : V.Inv st w) (hb : Below w.heap.size w w') : Kp V.own w w' :=
  ⟨hb.size, fun i hi hn => ⟨hb.block i hi, fun q => hn (F.ownB _ _ _ _ h hb hi q)⟩⟩
theorem at_start {V : Vis} (F : Fits V) {st : V.S} {w : World} {cs : Array Value} (h : V.Inv st w) : V.at st w w.heap.size (.cells cs 29 (0, 0)) (w.alloc (.cells cs 29 (0, 0))) := by
  have hb : Below w.heap.size w (w.alloc (.cells cs 29 (0, 0))) := one_box _
  exact ⟨F.stab _ _ _ h hb, heap_alloc_new w _, F.box _ _ _ h, F.kp h hb⟩
theorem at_next {V : Vis} (F : Fits V) {st st' : V.S} {w wc wd w1 : World} {b0 : Nat} {row : Obj} (h : V.at st w b0 row wc) (hd : Below wc.heap.size wc wd) (hI : V.Inv st' w1) (hk : Kp V.own wd w1) : V.at st' w b0 row w1 := by
  obtain ⟨h1, h2, h3, h4⟩ := h
  have k0 := (F.kp h1 hd).trans hk
  have hb0 : b0 < wc.heap.size := (Array.getElem?_eq_some_iff.1 h2).1
  obtain ⟨q1, q2⟩ := k0.2 b0 hb0 h3
  exact ⟨hI, q1.trans h2, q2, h4.trans k0⟩
theorem at_inv {V : Vis} (F : Fits V) {st : V.S} {w wc wd : World} {b0 : Nat} {row : Obj} (h : V.at st w b0 row wc) (hd : Below wc.heap.size wc wd) : V.Inv st wd := F.stab _ _ _ h.1 hd
theorem drew_cell {w : World} {a : Addr} {v : Value} (h : w.cell? a = some v) : w.drew.cell? a = some v := h

end Go.Proofs.YtijofikpdhapoaaGreat.L4
