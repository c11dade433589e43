/-
  Contracts: has a command nothing that its kind has not? The document's.
-/
import Derived.Test.YtijofikpdhapoaaGreatMReqNames
import Derived.Outline
namespace Go.Proofs.YtijofikpdhapoaaGreat.L4
open Go.RowKit
open L3

theorem len_nil (l : List ByteArray) : ((l.length : Int) == 0) = decide (l = []) := by
  cases l with
  | nil => rfl
  | cons a t =>
    have h : ((((a :: t).length : Nat) : Int) == 0) = false := by
      rw [beq_eq_false_iff_ne]
      simp
      omega
    rw [h]
    simp
theorem has_size (k : Nat) : (hasS k).size ≤ maxLen := by
  have h : (hasS k).size ≤ 5 := by
    unfold hasS
    split <;> decide
  unfold maxLen
  omega
theorem among_p (s : ByteArray) (v : Bool) (w : World) (hs : Hid (s.size ≤ maxLen)) (HV : Hid (amB s 112 = v)) : Calls Tryz.prog 52 #[.string s, .int .u8 112] w fun e w' => e = .returned (.bool v) ∧ w = w' := ramong_is s 112 v w hs.out HV
theorem among_t (s : ByteArray) (v : Bool) (w : World) (hs : Hid (s.size ≤ maxLen)) (HV : Hid (amB s 116 = v)) : Calls Tryz.prog 52 #[.string s, .int .u8 116] w fun e w' => e = .returned (.bool v) ∧ w = w' := ramong_is s 116 v w hs.out HV
theorem among_n (s : ByteArray) (v : Bool) (w : World) (hs : Hid (s.size ≤ maxLen)) (HV : Hid (amB s 110 = v)) : Calls Tryz.prog 52 #[.string s, .int .u8 110] w fun e w' => e = .returned (.bool v) ∧ w = w' := ramong_is s 110 v w hs.out HV
theorem among_o (s : ByteArray) (v : Bool) (w : World) (hs : Hid (s.size ≤ maxLen)) (HV : Hid (amB s 111 = v)) : Calls Tryz.prog 52 #[.string s, .int .u8 111] w fun e w' => e = .returned (.bool v) ∧ w = w' := ramong_is s 111 v w hs.out HV
theorem among_b (s : ByteArray) (v : Bool) (w : World) (hs : Hid (s.size ≤ maxLen)) (HV : Hid (amB s 98 = v)) : Calls Tryz.prog 52 #[.string s, .int .u8 98] w fun e w' => e = .returned (.bool v) ∧ w = w' := ramong_is s 98 v w hs.out HV
theorem among_g (s : ByteArray) (v : Bool) (w : World) (hs : Hid (s.size ≤ maxLen)) (HV : Hid (amB s 103 = v)) : Calls Tryz.prog 52 #[.string s, .int .u8 103] w fun e w' => e = .returned (.bool v) ∧ w = w' := ramong_is s 103 v w hs.out HV
theorem among_m (s : ByteArray) (v : Bool) (w : World) (hs : Hid (s.size ≤ maxLen)) (HV : Hid (amB s 109 = v)) : Calls Tryz.prog 52 #[.string s, .int .u8 109] w fun e w' => e = .returned (.bool v) ∧ w = w' := ramong_is s 109 v w hs.out HV
theorem among_e (s : ByteArray) (v : Bool) (w : World) (hs : Hid (s.size ≤ maxLen)) (HV : Hid (amB s 101 = v)) : Calls Tryz.prog 52 #[.string s, .int .u8 101] w fun e w' => e = .returned (.bool v) ∧ w = w' := ramong_is s 101 v w hs.out HV
theorem among_r (s : ByteArray) (v : Bool) (w : World) (hs : Hid (s.size ≤ maxLen)) (HV : Hid (amB s 114 = v)) : Calls Tryz.prog 52 #[.string s, .int .u8 114] w fun e w' => e = .returned (.bool v) ∧ w = w' := ramong_is s 114 v w hs.out HV
theorem among_l (s : ByteArray) (v : Bool) (w : World) (hs : Hid (s.size ≤ maxLen)) (HV : Hid (amB s 108 = v)) : Calls Tryz.prog 52 #[.string s, .int .u8 108] w fun e w' => e = .returned (.bool v) ∧ w = w' := ramong_is s 108 v w hs.out HV
theorem rhas_s (k : Nat) (s : ByteArray) (w : World) (hk : k ≤ 12) (hs : Hid (hasS k = s)) : Calls Tryz.prog 9 #[.int .i64 k] w fun e w' => e = .returned (.string s) ∧ Below w.heap.size w w' := by
  have h := rhas_is k w hk
  rw [hs.out] at h
  exact h

/-- has a command nothing that its kind has not? -/
def onlyB (kind : Nat) (topic : ByteArray) (pn n off bp be bq : Int) (nr : Nat) (group member : ByteArray) (gen : Int) (robin : Bool) (nt : Nat) : Bool :=
  (amB (hasS kind) 112 || amB (hasS kind) 116 || topic.toList.isEmpty) && (amB (hasS kind) 112 || pn == 0) && (amB (hasS kind) 110 || n == 0) && (amB (hasS kind) 111 || off == 0) &&
  (amB (hasS kind) 98 || (bp == 0 && be == 0 && bq == 0 && decide (nr = 0))) && (amB (hasS kind) 103 || group.toList.isEmpty) && (amB (hasS kind) 109 || member.toList.isEmpty) && (amB (hasS kind) 101 || gen == 0) &&
  (amB (hasS kind) 114 || (!robin && decide (nt = 0)))

set_option maxRecDepth 100000 in
set_option maxHeartbeats 8000000 in
theorem only_0 (topic : ByteArray) (pn : Int) (n : Int) (off : Int) (bp : Int) (be : Int) (bq : Int) (recs : List R) (group : ByteArray) (member : ByteArray) (gen : Int) (robin : Bool) (tops : List ByteArray) (RA TA : Option Addr) (rc tc : Nat) (w : World) (hl : Hid (recs.length ≤ maxLen)) (ht : Hid (tops.length ≤ maxLen)) :
    Calls Tryz.prog 51 #[.agg #[.int .i64 0, .string topic, .int .i64 pn, .int .i64 n, .int .i64 off, .int .i64 bp, .int .i64 be, .int .i64 bq, .slice RA recs.length rc, .string group, .string member, .int .i64 gen, .bool robin, .slice TA tops.length tc]] w fun e w' => e = .returned (.bool (onlyB 0 topic pn n off bp be bq recs.length group member gen robin tops.length)) ∧ Below w.heap.size w w' := by
  have hl1 : recs.length ≤ 9223372036854775807 := hl.out
  have ht1 : tops.length ≤ 9223372036854775807 := ht.out
  obtain ⟨s, hs⟩ : ∃ s, hasS 0 = s := ⟨_, rfl⟩
  have HS := Lib.hid hs
  have SZ : Hid (s.size ≤ maxLen) := Lib.hid (by rw [← hs]; exact has_size _)
  have Ap : Hid (amB s 112 = false) := Lib.hid (by rw [← hs]; decide)
  have At : Hid (amB s 116 = true) := Lib.hid (by rw [← hs]; decide)
  have An : Hid (amB s 110 = true) := Lib.hid (by rw [← hs]; decide)
  have Ao : Hid (amB s 111 = false) := Lib.hid (by rw [← hs]; decide)
  have Ab : Hid (amB s 98 = false) := Lib.hid (by rw [← hs]; decide)
  have Ag : Hid (amB s 103 = false) := Lib.hid (by rw [← hs]; decide)
  have Am : Hid (amB s 109 = false) := Lib.hid (by rw [← hs]; decide)
  have Ae : Hid (amB s 101 = false) := Lib.hid (by rw [← hs]; decide)
  have Ar : Hid (amB s 114 = false) := Lib.hid (by rw [← hs]; decide)
  have Al : Hid (amB s 108 = false) := Lib.hid (by rw [← hs]; decide)
  have HO : Hid (onlyB 0 topic pn n off bp be bq recs.length group member gen robin tops.length = (pn == 0 && off == 0 && (bp == 0 && be == 0 && bq == 0 && decide (recs.length = 0)) && group.toList.isEmpty && member.toList.isEmpty && gen == 0 && (!robin && decide (tops.length = 0)))) := Lib.hid (by unfold onlyB; rw [hs, Ap.out, At.out, An.out, Ao.out, Ab.out, Ag.out, Am.out, Ae.out, Ar.out]; simp)
  clear hs
  go_enter Tryz.func51, Tryz.ntmps51
  go_wp2_with (first
    | (go_at_call 9; refine (rhas_s 0 _ _ (by decide) HS).mono ?_; rintro e w1 ⟨rfl, hb1⟩; have r0 := Lib.hid ((hb1.block w.heap.size (by simp)).trans (heap_alloc_new w _)); have hB1 := Lib.hid ((one_box _).trans (hb1.mono (by simp))); have x1 := (cell_of_row _ _ 1 _ _ _ r0.out).trans rfl; have x2 := (cell_of_row _ _ 2 _ _ _ r0.out).trans rfl; have x3 := (cell_of_row _ _ 3 _ _ _ r0.out).trans rfl; have x4 := (cell_of_row _ _ 4 _ _ _ r0.out).trans rfl; have x5 := (cell_of_row _ _ 5 _ _ _ r0.out).trans rfl; have x6 := (cell_of_row _ _ 6 _ _ _ r0.out).trans rfl; have x7 := (cell_of_row _ _ 7 _ _ _ r0.out).trans rfl; have x8 := (cell_of_row _ _ 8 _ _ _ r0.out).trans rfl; have x9 := (cell_of_row _ _ 9 _ _ _ r0.out).trans rfl; have x10 := (cell_of_row _ _ 10 _ _ _ r0.out).trans rfl; have x11 := (cell_of_row _ _ 11 _ _ _ r0.out).trans rfl; have x12 := (cell_of_row _ _ 12 _ _ _ r0.out).trans rfl; have x13 := (cell_of_row _ _ 13 _ _ _ r0.out).trans rfl)
    | (go_at_call 52; (with_reducible refine (among_p _ _ _ SZ Ap).mono ?_); rintro e w' ⟨rfl, rfl⟩)
    | (go_at_call 52; (with_reducible refine (among_t _ _ _ SZ At).mono ?_); rintro e w' ⟨rfl, rfl⟩)
    | (go_at_call 52; (with_reducible refine (among_n _ _ _ SZ An).mono ?_); rintro e w' ⟨rfl, rfl⟩)
    | (go_at_call 52; (with_reducible refine (among_o _ _ _ SZ Ao).mono ?_); rintro e w' ⟨rfl, rfl⟩)
    | (go_at_call 52; (with_reducible refine (among_b _ _ _ SZ Ab).mono ?_); rintro e w' ⟨rfl, rfl⟩)
    | (go_at_call 52; (with_reducible refine (among_g _ _ _ SZ Ag).mono ?_); rintro e w' ⟨rfl, rfl⟩)
    | (go_at_call 52; (with_reducible refine (among_m _ _ _ SZ Am).mono ?_); rintro e w' ⟨rfl, rfl⟩)
    | (go_at_call 52; (with_reducible refine (among_e _ _ _ SZ Ae).mono ?_); rintro e w' ⟨rfl, rfl⟩)
    | (go_at_call 52; (with_reducible refine (among_r _ _ _ SZ Ar).mono ?_); rintro e w' ⟨rfl, rfl⟩)
    | (go_at_call 52; (with_reducible refine (among_l _ _ _ SZ Al).mono ?_); rintro e w' ⟨rfl, rfl⟩))
  all_goals
    clear x1 x2 x3 x4 x5 x6 x7 x8 x9 x10 x11 x12 x13 r0 HS SZ Ap At An Ao Ab Ag Am Ae Ar Al
    go_ret
    refine ⟨congrArg Ending.returned (congrArg Value.bool (Eq.trans ?_ HO.out.symm)), hB1.out⟩
    clear HO hB1 hl ht hl1 ht1
    first
      | (simp [*]; done)
      | (simp_all; done)
      | (simp_all; rintro rfl; simp_all; done)
      | (simp_all; exact len_nil tops)

set_option maxRecDepth 100000 in
set_option maxHeartbeats 8000000 in
theorem only_1 (topic : ByteArray) (pn : Int) (n : Int) (off : Int) (bp : Int) (be : Int) (bq : Int) (recs : List R) (group : ByteArray) (member : ByteArray) (gen : Int) (robin : Bool) (tops : List ByteArray) (RA TA : Option Addr) (rc tc : Nat) (w : World) (hl : Hid (recs.length ≤ maxLen)) (ht : Hid (tops.length ≤ maxLen)) :
    Calls Tryz.prog 51 #[.agg #[.int .i64 1, .string topic, .int .i64 pn, .int .i64 n, .int .i64 off, .int .i64 bp, .int .i64 be, .int .i64 bq, .slice RA recs.length rc, .string group, .string member, .int .i64 gen, .bool robin, .slice TA tops.length tc]] w fun e w' => e = .returned (.bool (onlyB 1 topic pn n off bp be bq recs.length group member gen robin tops.length)) ∧ Below w.heap.size w w' := by
  have hl1 : recs.length ≤ 9223372036854775807 := hl.out
  have ht1 : tops.length ≤ 9223372036854775807 := ht.out
  obtain ⟨s, hs⟩ : ∃ s, hasS 1 = s := ⟨_, rfl⟩
  have HS := Lib.hid hs
  have SZ : Hid (s.size ≤ maxLen) := Lib.hid (by rw [← hs]; exact has_size _)
  have Ap : Hid (amB s 112 = false) := Lib.hid (by rw [← hs]; decide)
  have At : Hid (amB s 116 = false) := Lib.hid (by rw [← hs]; decide)
  have An : Hid (amB s 110 = true) := Lib.hid (by rw [← hs]; decide)
  have Ao : Hid (amB s 111 = false) := Lib.hid (by rw [← hs]; decide)
  have Ab : Hid (amB s 98 = false) := Lib.hid (by rw [← hs]; decide)
  have Ag : Hid (amB s 103 = false) := Lib.hid (by rw [← hs]; decide)
  have Am : Hid (amB s 109 = false) := Lib.hid (by rw [← hs]; decide)
  have Ae : Hid (amB s 101 = false) := Lib.hid (by rw [← hs]; decide)
  have Ar : Hid (amB s 114 = false) := Lib.hid (by rw [← hs]; decide)
  have Al : Hid (amB s 108 = false) := Lib.hid (by rw [← hs]; decide)
  have HO : Hid (onlyB 1 topic pn n off bp be bq recs.length group member gen robin tops.length = (topic.toList.isEmpty && pn == 0 && off == 0 && (bp == 0 && be == 0 && bq == 0 && decide (recs.length = 0)) && group.toList.isEmpty && member.toList.isEmpty && gen == 0 && (!robin && decide (tops.length = 0)))) := Lib.hid (by unfold onlyB; rw [hs, Ap.out, At.out, An.out, Ao.out, Ab.out, Ag.out, Am.out, Ae.out, Ar.out]; simp)
  clear hs
  go_enter Tryz.func51, Tryz.ntmps51
  go_wp2_with (first
    | (go_at_call 9; refine (rhas_s 1 _ _ (by decide) HS).mono ?_; rintro e w1 ⟨rfl, hb1⟩; have r0 := Lib.hid ((hb1.block w.heap.size (by simp)).trans (heap_alloc_new w _)); have hB1 := Lib.hid ((one_box _).trans (hb1.mono (by simp))); have x1 := (cell_of_row _ _ 1 _ _ _ r0.out).trans rfl; have x2 := (cell_of_row _ _ 2 _ _ _ r0.out).trans rfl; have x3 := (cell_of_row _ _ 3 _ _ _ r0.out).trans rfl; have x4 := (cell_of_row _ _ 4 _ _ _ r0.out).trans rfl; have x5 := (cell_of_row _ _ 5 _ _ _ r0.out).trans rfl; have x6 := (cell_of_row _ _ 6 _ _ _ r0.out).trans rfl; have x7 := (cell_of_row _ _ 7 _ _ _ r0.out).trans rfl; have x8 := (cell_of_row _ _ 8 _ _ _ r0.out).trans rfl; have x9 := (cell_of_row _ _ 9 _ _ _ r0.out).trans rfl; have x10 := (cell_of_row _ _ 10 _ _ _ r0.out).trans rfl; have x11 := (cell_of_row _ _ 11 _ _ _ r0.out).trans rfl; have x12 := (cell_of_row _ _ 12 _ _ _ r0.out).trans rfl; have x13 := (cell_of_row _ _ 13 _ _ _ r0.out).trans rfl)
    | (go_at_call 52; (with_reducible refine (among_p _ _ _ SZ Ap).mono ?_); rintro e w' ⟨rfl, rfl⟩)
    | (go_at_call 52; (with_reducible refine (among_t _ _ _ SZ At).mono ?_); rintro e w' ⟨rfl, rfl⟩)
    | (go_at_call 52; (with_reducible refine (among_n _ _ _ SZ An).mono ?_); rintro e w' ⟨rfl, rfl⟩)
    | (go_at_call 52; (with_reducible refine (among_o _ _ _ SZ Ao).mono ?_); rintro e w' ⟨rfl, rfl⟩)
    | (go_at_call 52; (with_reducible refine (among_b _ _ _ SZ Ab).mono ?_); rintro e w' ⟨rfl, rfl⟩)
    | (go_at_call 52; (with_reducible refine (among_g _ _ _ SZ Ag).mono ?_); rintro e w' ⟨rfl, rfl⟩)
    | (go_at_call 52; (with_reducible refine (among_m _ _ _ SZ Am).mono ?_); rintro e w' ⟨rfl, rfl⟩)
    | (go_at_call 52; (with_reducible refine (among_e _ _ _ SZ Ae).mono ?_); rintro e w' ⟨rfl, rfl⟩)
    | (go_at_call 52; (with_reducible refine (among_r _ _ _ SZ Ar).mono ?_); rintro e w' ⟨rfl, rfl⟩)
    | (go_at_call 52; (with_reducible refine (among_l _ _ _ SZ Al).mono ?_); rintro e w' ⟨rfl, rfl⟩))
  all_goals
    clear x1 x2 x3 x4 x5 x6 x7 x8 x9 x10 x11 x12 x13 r0 HS SZ Ap At An Ao Ab Ag Am Ae Ar Al
    go_ret
    refine ⟨congrArg Ending.returned (congrArg Value.bool (Eq.trans ?_ HO.out.symm)), hB1.out⟩
    clear HO hB1 hl ht hl1 ht1
    first
      | (simp [*]; done)
      | (simp_all; done)
      | (simp_all; rintro rfl; simp_all; done)
      | (simp_all; exact len_nil tops)

set_option maxRecDepth 100000 in
set_option maxHeartbeats 8000000 in
theorem only_2 (topic : ByteArray) (pn : Int) (n : Int) (off : Int) (bp : Int) (be : Int) (bq : Int) (recs : List R) (group : ByteArray) (member : ByteArray) (gen : Int) (robin : Bool) (tops : List ByteArray) (RA TA : Option Addr) (rc tc : Nat) (w : World) (hl : Hid (recs.length ≤ maxLen)) (ht : Hid (tops.length ≤ maxLen)) :
    Calls Tryz.prog 51 #[.agg #[.int .i64 2, .string topic, .int .i64 pn, .int .i64 n, .int .i64 off, .int .i64 bp, .int .i64 be, .int .i64 bq, .slice RA recs.length rc, .string group, .string member, .int .i64 gen, .bool robin, .slice TA tops.length tc]] w fun e w' => e = .returned (.bool (onlyB 2 topic pn n off bp be bq recs.length group member gen robin tops.length)) ∧ Below w.heap.size w w' := by
  have hl1 : recs.length ≤ 9223372036854775807 := hl.out
  have ht1 : tops.length ≤ 9223372036854775807 := ht.out
  obtain ⟨s, hs⟩ : ∃ s, hasS 2 = s := ⟨_, rfl⟩
  have HS := Lib.hid hs
  have SZ : Hid (s.size ≤ maxLen) := Lib.hid (by rw [← hs]; exact has_size _)
  have Ap : Hid (amB s 112 = true) := Lib.hid (by rw [← hs]; decide)
  have At : Hid (amB s 116 = false) := Lib.hid (by rw [← hs]; decide)
  have An : Hid (amB s 110 = false) := Lib.hid (by rw [← hs]; decide)
  have Ao : Hid (amB s 111 = false) := Lib.hid (by rw [← hs]; decide)
  have Ab : Hid (amB s 98 = true) := Lib.hid (by rw [← hs]; decide)
  have Ag : Hid (amB s 103 = false) := Lib.hid (by rw [← hs]; decide)
  have Am : Hid (amB s 109 = false) := Lib.hid (by rw [← hs]; decide)
  have Ae : Hid (amB s 101 = false) := Lib.hid (by rw [← hs]; decide)
  have Ar : Hid (amB s 114 = false) := Lib.hid (by rw [← hs]; decide)
  have Al : Hid (amB s 108 = false) := Lib.hid (by rw [← hs]; decide)
  have HO : Hid (onlyB 2 topic pn n off bp be bq recs.length group member gen robin tops.length = (n == 0 && off == 0 && group.toList.isEmpty && member.toList.isEmpty && gen == 0 && (!robin && decide (tops.length = 0)))) := Lib.hid (by unfold onlyB; rw [hs, Ap.out, At.out, An.out, Ao.out, Ab.out, Ag.out, Am.out, Ae.out, Ar.out]; simp)
  clear hs
  go_enter Tryz.func51, Tryz.ntmps51
  go_wp2_with (first
    | (go_at_call 9; refine (rhas_s 2 _ _ (by decide) HS).mono ?_; rintro e w1 ⟨rfl, hb1⟩; have r0 := Lib.hid ((hb1.block w.heap.size (by simp)).trans (heap_alloc_new w _)); have hB1 := Lib.hid ((one_box _).trans (hb1.mono (by simp))); have x1 := (cell_of_row _ _ 1 _ _ _ r0.out).trans rfl; have x2 := (cell_of_row _ _ 2 _ _ _ r0.out).trans rfl; have x3 := (cell_of_row _ _ 3 _ _ _ r0.out).trans rfl; have x4 := (cell_of_row _ _ 4 _ _ _ r0.out).trans rfl; have x5 := (cell_of_row _ _ 5 _ _ _ r0.out).trans rfl; have x6 := (cell_of_row _ _ 6 _ _ _ r0.out).trans rfl; have x7 := (cell_of_row _ _ 7 _ _ _ r0.out).trans rfl; have x8 := (cell_of_row _ _ 8 _ _ _ r0.out).trans rfl; have x9 := (cell_of_row _ _ 9 _ _ _ r0.out).trans rfl; have x10 := (cell_of_row _ _ 10 _ _ _ r0.out).trans rfl; have x11 := (cell_of_row _ _ 11 _ _ _ r0.out).trans rfl; have x12 := (cell_of_row _ _ 12 _ _ _ r0.out).trans rfl; have x13 := (cell_of_row _ _ 13 _ _ _ r0.out).trans rfl)
    | (go_at_call 52; (with_reducible refine (among_p _ _ _ SZ Ap).mono ?_); rintro e w' ⟨rfl, rfl⟩)
    | (go_at_call 52; (with_reducible refine (among_t _ _ _ SZ At).mono ?_); rintro e w' ⟨rfl, rfl⟩)
    | (go_at_call 52; (with_reducible refine (among_n _ _ _ SZ An).mono ?_); rintro e w' ⟨rfl, rfl⟩)
    | (go_at_call 52; (with_reducible refine (among_o _ _ _ SZ Ao).mono ?_); rintro e w' ⟨rfl, rfl⟩)
    | (go_at_call 52; (with_reducible refine (among_b _ _ _ SZ Ab).mono ?_); rintro e w' ⟨rfl, rfl⟩)
    | (go_at_call 52; (with_reducible refine (among_g _ _ _ SZ Ag).mono ?_); rintro e w' ⟨rfl, rfl⟩)
    | (go_at_call 52; (with_reducible refine (among_m _ _ _ SZ Am).mono ?_); rintro e w' ⟨rfl, rfl⟩)
    | (go_at_call 52; (with_reducible refine (among_e _ _ _ SZ Ae).mono ?_); rintro e w' ⟨rfl, rfl⟩)
    | (go_at_call 52; (with_reducible refine (among_r _ _ _ SZ Ar).mono ?_); rintro e w' ⟨rfl, rfl⟩)
    | (go_at_call 52; (with_reducible refine (among_l _ _ _ SZ Al).mono ?_); rintro e w' ⟨rfl, rfl⟩))
  all_goals
    clear x1 x2 x3 x4 x5 x6 x7 x8 x9 x10 x11 x12 x13 r0 HS SZ Ap At An Ao Ab Ag Am Ae Ar Al
    go_ret
    refine ⟨congrArg Ending.returned (congrArg Value.bool (Eq.trans ?_ HO.out.symm)), hB1.out⟩
    clear HO hB1 hl ht hl1 ht1
    first
      | (simp [*]; done)
      | (simp_all; done)
      | (simp_all; rintro rfl; simp_all; done)
      | (simp_all; exact len_nil tops)

set_option maxRecDepth 100000 in
set_option maxHeartbeats 8000000 in
theorem only_3 (topic : ByteArray) (pn : Int) (n : Int) (off : Int) (bp : Int) (be : Int) (bq : Int) (recs : List R) (group : ByteArray) (member : ByteArray) (gen : Int) (robin : Bool) (tops : List ByteArray) (RA TA : Option Addr) (rc tc : Nat) (w : World) (hl : Hid (recs.length ≤ maxLen)) (ht : Hid (tops.length ≤ maxLen)) :
    Calls Tryz.prog 51 #[.agg #[.int .i64 3, .string topic, .int .i64 pn, .int .i64 n, .int .i64 off, .int .i64 bp, .int .i64 be, .int .i64 bq, .slice RA recs.length rc, .string group, .string member, .int .i64 gen, .bool robin, .slice TA tops.length tc]] w fun e w' => e = .returned (.bool (onlyB 3 topic pn n off bp be bq recs.length group member gen robin tops.length)) ∧ Below w.heap.size w w' := by
  have hl1 : recs.length ≤ 9223372036854775807 := hl.out
  have ht1 : tops.length ≤ 9223372036854775807 := ht.out
  obtain ⟨s, hs⟩ : ∃ s, hasS 3 = s := ⟨_, rfl⟩
  have HS := Lib.hid hs
  have SZ : Hid (s.size ≤ maxLen) := Lib.hid (by rw [← hs]; exact has_size _)
  have Ap : Hid (amB s 112 = true) := Lib.hid (by rw [← hs]; decide)
  have At : Hid (amB s 116 = false) := Lib.hid (by rw [← hs]; decide)
  have An : Hid (amB s 110 = true) := Lib.hid (by rw [← hs]; decide)
  have Ao : Hid (amB s 111 = true) := Lib.hid (by rw [← hs]; decide)
  have Ab : Hid (amB s 98 = false) := Lib.hid (by rw [← hs]; decide)
  have Ag : Hid (amB s 103 = false) := Lib.hid (by rw [← hs]; decide)
  have Am : Hid (amB s 109 = false) := Lib.hid (by rw [← hs]; decide)
  have Ae : Hid (amB s 101 = false) := Lib.hid (by rw [← hs]; decide)
  have Ar : Hid (amB s 114 = false) := Lib.hid (by rw [← hs]; decide)
  have Al : Hid (amB s 108 = false) := Lib.hid (by rw [← hs]; decide)
  have HO : Hid (onlyB 3 topic pn n off bp be bq recs.length group member gen robin tops.length = ((bp == 0 && be == 0 && bq == 0 && decide (recs.length = 0)) && group.toList.isEmpty && member.toList.isEmpty && gen == 0 && (!robin && decide (tops.length = 0)))) := Lib.hid (by unfold onlyB; rw [hs, Ap.out, At.out, An.out, Ao.out, Ab.out, Ag.out, Am.out, Ae.out, Ar.out]; simp)
  clear hs
  go_enter Tryz.func51, Tryz.ntmps51
  go_wp2_with (first
    | (go_at_call 9; refine (rhas_s 3 _ _ (by decide) HS).mono ?_; rintro e w1 ⟨rfl, hb1⟩; have r0 := Lib.hid ((hb1.block w.heap.size (by simp)).trans (heap_alloc_new w _)); have hB1 := Lib.hid ((one_box _).trans (hb1.mono (by simp))); have x1 := (cell_of_row _ _ 1 _ _ _ r0.out).trans rfl; have x2 := (cell_of_row _ _ 2 _ _ _ r0.out).trans rfl; have x3 := (cell_of_row _ _ 3 _ _ _ r0.out).trans rfl; have x4 := (cell_of_row _ _ 4 _ _ _ r0.out).trans rfl; have x5 := (cell_of_row _ _ 5 _ _ _ r0.out).trans rfl; have x6 := (cell_of_row _ _ 6 _ _ _ r0.out).trans rfl; have x7 := (cell_of_row _ _ 7 _ _ _ r0.out).trans rfl; have x8 := (cell_of_row _ _ 8 _ _ _ r0.out).trans rfl; have x9 := (cell_of_row _ _ 9 _ _ _ r0.out).trans rfl; have x10 := (cell_of_row _ _ 10 _ _ _ r0.out).trans rfl; have x11 := (cell_of_row _ _ 11 _ _ _ r0.out).trans rfl; have x12 := (cell_of_row _ _ 12 _ _ _ r0.out).trans rfl; have x13 := (cell_of_row _ _ 13 _ _ _ r0.out).trans rfl)
    | (go_at_call 52; (with_reducible refine (among_p _ _ _ SZ Ap).mono ?_); rintro e w' ⟨rfl, rfl⟩)
    | (go_at_call 52; (with_reducible refine (among_t _ _ _ SZ At).mono ?_); rintro e w' ⟨rfl, rfl⟩)
    | (go_at_call 52; (with_reducible refine (among_n _ _ _ SZ An).mono ?_); rintro e w' ⟨rfl, rfl⟩)
    | (go_at_call 52; (with_reducible refine (among_o _ _ _ SZ Ao).mono ?_); rintro e w' ⟨rfl, rfl⟩)
    | (go_at_call 52; (with_reducible refine (among_b _ _ _ SZ Ab).mono ?_); rintro e w' ⟨rfl, rfl⟩)
    | (go_at_call 52; (with_reducible refine (among_g _ _ _ SZ Ag).mono ?_); rintro e w' ⟨rfl, rfl⟩)
    | (go_at_call 52; (with_reducible refine (among_m _ _ _ SZ Am).mono ?_); rintro e w' ⟨rfl, rfl⟩)
    | (go_at_call 52; (with_reducible refine (among_e _ _ _ SZ Ae).mono ?_); rintro e w' ⟨rfl, rfl⟩)
    | (go_at_call 52; (with_reducible refine (among_r _ _ _ SZ Ar).mono ?_); rintro e w' ⟨rfl, rfl⟩)
    | (go_at_call 52; (with_reducible refine (among_l _ _ _ SZ Al).mono ?_); rintro e w' ⟨rfl, rfl⟩))
  all_goals
    clear x1 x2 x3 x4 x5 x6 x7 x8 x9 x10 x11 x12 x13 r0 HS SZ Ap At An Ao Ab Ag Am Ae Ar Al
    go_ret
    refine ⟨congrArg Ending.returned (congrArg Value.bool (Eq.trans ?_ HO.out.symm)), hB1.out⟩
    clear HO hB1 hl ht hl1 ht1
    first
      | (simp [*]; done)
      | (simp_all; done)
      | (simp_all; rintro rfl; simp_all; done)
      | (simp_all; exact len_nil tops)

set_option maxRecDepth 100000 in
set_option maxHeartbeats 8000000 in
theorem only_4 (topic : ByteArray) (pn : Int) (n : Int) (off : Int) (bp : Int) (be : Int) (bq : Int) (recs : List R) (group : ByteArray) (member : ByteArray) (gen : Int) (robin : Bool) (tops : List ByteArray) (RA TA : Option Addr) (rc tc : Nat) (w : World) (hl : Hid (recs.length ≤ maxLen)) (ht : Hid (tops.length ≤ maxLen)) :
    Calls Tryz.prog 51 #[.agg #[.int .i64 4, .string topic, .int .i64 pn, .int .i64 n, .int .i64 off, .int .i64 bp, .int .i64 be, .int .i64 bq, .slice RA recs.length rc, .string group, .string member, .int .i64 gen, .bool robin, .slice TA tops.length tc]] w fun e w' => e = .returned (.bool (onlyB 4 topic pn n off bp be bq recs.length group member gen robin tops.length)) ∧ Below w.heap.size w w' := by
  have hl1 : recs.length ≤ 9223372036854775807 := hl.out
  have ht1 : tops.length ≤ 9223372036854775807 := ht.out
  obtain ⟨s, hs⟩ : ∃ s, hasS 4 = s := ⟨_, rfl⟩
  have HS := Lib.hid hs
  have SZ : Hid (s.size ≤ maxLen) := Lib.hid (by rw [← hs]; exact has_size _)
  have Ap : Hid (amB s 112 = true) := Lib.hid (by rw [← hs]; decide)
  have At : Hid (amB s 116 = false) := Lib.hid (by rw [← hs]; decide)
  have An : Hid (amB s 110 = false) := Lib.hid (by rw [← hs]; decide)
  have Ao : Hid (amB s 111 = true) := Lib.hid (by rw [← hs]; decide)
  have Ab : Hid (amB s 98 = false) := Lib.hid (by rw [← hs]; decide)
  have Ag : Hid (amB s 103 = false) := Lib.hid (by rw [← hs]; decide)
  have Am : Hid (amB s 109 = false) := Lib.hid (by rw [← hs]; decide)
  have Ae : Hid (amB s 101 = false) := Lib.hid (by rw [← hs]; decide)
  have Ar : Hid (amB s 114 = false) := Lib.hid (by rw [← hs]; decide)
  have Al : Hid (amB s 108 = false) := Lib.hid (by rw [← hs]; decide)
  have HO : Hid (onlyB 4 topic pn n off bp be bq recs.length group member gen robin tops.length = (n == 0 && (bp == 0 && be == 0 && bq == 0 && decide (recs.length = 0)) && group.toList.isEmpty && member.toList.isEmpty && gen == 0 && (!robin && decide (tops.length = 0)))) := Lib.hid (by unfold onlyB; rw [hs, Ap.out, At.out, An.out, Ao.out, Ab.out, Ag.out, Am.out, Ae.out, Ar.out]; simp)
  clear hs
  go_enter Tryz.func51, Tryz.ntmps51
  go_wp2_with (first
    | (go_at_call 9; refine (rhas_s 4 _ _ (by decide) HS).mono ?_; rintro e w1 ⟨rfl, hb1⟩; have r0 := Lib.hid ((hb1.block w.heap.size (by simp)).trans (heap_alloc_new w _)); have hB1 := Lib.hid ((one_box _).trans (hb1.mono (by simp))); have x1 := (cell_of_row _ _ 1 _ _ _ r0.out).trans rfl; have x2 := (cell_of_row _ _ 2 _ _ _ r0.out).trans rfl; have x3 := (cell_of_row _ _ 3 _ _ _ r0.out).trans rfl; have x4 := (cell_of_row _ _ 4 _ _ _ r0.out).trans rfl; have x5 := (cell_of_row _ _ 5 _ _ _ r0.out).trans rfl; have x6 := (cell_of_row _ _ 6 _ _ _ r0.out).trans rfl; have x7 := (cell_of_row _ _ 7 _ _ _ r0.out).trans rfl; have x8 := (cell_of_row _ _ 8 _ _ _ r0.out).trans rfl; have x9 := (cell_of_row _ _ 9 _ _ _ r0.out).trans rfl; have x10 := (cell_of_row _ _ 10 _ _ _ r0.out).trans rfl; have x11 := (cell_of_row _ _ 11 _ _ _ r0.out).trans rfl; have x12 := (cell_of_row _ _ 12 _ _ _ r0.out).trans rfl; have x13 := (cell_of_row _ _ 13 _ _ _ r0.out).trans rfl)
    | (go_at_call 52; (with_reducible refine (among_p _ _ _ SZ Ap).mono ?_); rintro e w' ⟨rfl, rfl⟩)
    | (go_at_call 52; (with_reducible refine (among_t _ _ _ SZ At).mono ?_); rintro e w' ⟨rfl, rfl⟩)
    | (go_at_call 52; (with_reducible refine (among_n _ _ _ SZ An).mono ?_); rintro e w' ⟨rfl, rfl⟩)
    | (go_at_call 52; (with_reducible refine (among_o _ _ _ SZ Ao).mono ?_); rintro e w' ⟨rfl, rfl⟩)
    | (go_at_call 52; (with_reducible refine (among_b _ _ _ SZ Ab).mono ?_); rintro e w' ⟨rfl, rfl⟩)
    | (go_at_call 52; (with_reducible refine (among_g _ _ _ SZ Ag).mono ?_); rintro e w' ⟨rfl, rfl⟩)
    | (go_at_call 52; (with_reducible refine (among_m _ _ _ SZ Am).mono ?_); rintro e w' ⟨rfl, rfl⟩)
    | (go_at_call 52; (with_reducible refine (among_e _ _ _ SZ Ae).mono ?_); rintro e w' ⟨rfl, rfl⟩)
    | (go_at_call 52; (with_reducible refine (among_r _ _ _ SZ Ar).mono ?_); rintro e w' ⟨rfl, rfl⟩)
    | (go_at_call 52; (with_reducible refine (among_l _ _ _ SZ Al).mono ?_); rintro e w' ⟨rfl, rfl⟩))
  all_goals
    clear x1 x2 x3 x4 x5 x6 x7 x8 x9 x10 x11 x12 x13 r0 HS SZ Ap At An Ao Ab Ag Am Ae Ar Al
    go_ret
    refine ⟨congrArg Ending.returned (congrArg Value.bool (Eq.trans ?_ HO.out.symm)), hB1.out⟩
    clear HO hB1 hl ht hl1 ht1
    first
      | (simp [*]; done)
      | (simp_all; done)
      | (simp_all; rintro rfl; simp_all; done)
      | (simp_all; exact len_nil tops)

set_option maxRecDepth 100000 in
set_option maxHeartbeats 8000000 in
theorem only_5 (topic : ByteArray) (pn : Int) (n : Int) (off : Int) (bp : Int) (be : Int) (bq : Int) (recs : List R) (group : ByteArray) (member : ByteArray) (gen : Int) (robin : Bool) (tops : List ByteArray) (RA TA : Option Addr) (rc tc : Nat) (w : World) (hl : Hid (recs.length ≤ maxLen)) (ht : Hid (tops.length ≤ maxLen)) :
    Calls Tryz.prog 51 #[.agg #[.int .i64 5, .string topic, .int .i64 pn, .int .i64 n, .int .i64 off, .int .i64 bp, .int .i64 be, .int .i64 bq, .slice RA recs.length rc, .string group, .string member, .int .i64 gen, .bool robin, .slice TA tops.length tc]] w fun e w' => e = .returned (.bool (onlyB 5 topic pn n off bp be bq recs.length group member gen robin tops.length)) ∧ Below w.heap.size w w' := by
  have hl1 : recs.length ≤ 9223372036854775807 := hl.out
  have ht1 : tops.length ≤ 9223372036854775807 := ht.out
  obtain ⟨s, hs⟩ : ∃ s, hasS 5 = s := ⟨_, rfl⟩
  have HS := Lib.hid hs
  have SZ : Hid (s.size ≤ maxLen) := Lib.hid (by rw [← hs]; exact has_size _)
  have Ap : Hid (amB s 112 = true) := Lib.hid (by rw [← hs]; decide)
  have At : Hid (amB s 116 = false) := Lib.hid (by rw [← hs]; decide)
  have An : Hid (amB s 110 = false) := Lib.hid (by rw [← hs]; decide)
  have Ao : Hid (amB s 111 = false) := Lib.hid (by rw [← hs]; decide)
  have Ab : Hid (amB s 98 = false) := Lib.hid (by rw [← hs]; decide)
  have Ag : Hid (amB s 103 = false) := Lib.hid (by rw [← hs]; decide)
  have Am : Hid (amB s 109 = false) := Lib.hid (by rw [← hs]; decide)
  have Ae : Hid (amB s 101 = false) := Lib.hid (by rw [← hs]; decide)
  have Ar : Hid (amB s 114 = false) := Lib.hid (by rw [← hs]; decide)
  have Al : Hid (amB s 108 = false) := Lib.hid (by rw [← hs]; decide)
  have HO : Hid (onlyB 5 topic pn n off bp be bq recs.length group member gen robin tops.length = (n == 0 && off == 0 && (bp == 0 && be == 0 && bq == 0 && decide (recs.length = 0)) && group.toList.isEmpty && member.toList.isEmpty && gen == 0 && (!robin && decide (tops.length = 0)))) := Lib.hid (by unfold onlyB; rw [hs, Ap.out, At.out, An.out, Ao.out, Ab.out, Ag.out, Am.out, Ae.out, Ar.out]; simp)
  clear hs
  go_enter Tryz.func51, Tryz.ntmps51
  go_wp2_with (first
    | (go_at_call 9; refine (rhas_s 5 _ _ (by decide) HS).mono ?_; rintro e w1 ⟨rfl, hb1⟩; have r0 := Lib.hid ((hb1.block w.heap.size (by simp)).trans (heap_alloc_new w _)); have hB1 := Lib.hid ((one_box _).trans (hb1.mono (by simp))); have x1 := (cell_of_row _ _ 1 _ _ _ r0.out).trans rfl; have x2 := (cell_of_row _ _ 2 _ _ _ r0.out).trans rfl; have x3 := (cell_of_row _ _ 3 _ _ _ r0.out).trans rfl; have x4 := (cell_of_row _ _ 4 _ _ _ r0.out).trans rfl; have x5 := (cell_of_row _ _ 5 _ _ _ r0.out).trans rfl; have x6 := (cell_of_row _ _ 6 _ _ _ r0.out).trans rfl; have x7 := (cell_of_row _ _ 7 _ _ _ r0.out).trans rfl; have x8 := (cell_of_row _ _ 8 _ _ _ r0.out).trans rfl; have x9 := (cell_of_row _ _ 9 _ _ _ r0.out).trans rfl; have x10 := (cell_of_row _ _ 10 _ _ _ r0.out).trans rfl; have x11 := (cell_of_row _ _ 11 _ _ _ r0.out).trans rfl; have x12 := (cell_of_row _ _ 12 _ _ _ r0.out).trans rfl; have x13 := (cell_of_row _ _ 13 _ _ _ r0.out).trans rfl)
    | (go_at_call 52; (with_reducible refine (among_p _ _ _ SZ Ap).mono ?_); rintro e w' ⟨rfl, rfl⟩)
    | (go_at_call 52; (with_reducible refine (among_t _ _ _ SZ At).mono ?_); rintro e w' ⟨rfl, rfl⟩)
    | (go_at_call 52; (with_reducible refine (among_n _ _ _ SZ An).mono ?_); rintro e w' ⟨rfl, rfl⟩)
    | (go_at_call 52; (with_reducible refine (among_o _ _ _ SZ Ao).mono ?_); rintro e w' ⟨rfl, rfl⟩)
    | (go_at_call 52; (with_reducible refine (among_b _ _ _ SZ Ab).mono ?_); rintro e w' ⟨rfl, rfl⟩)
    | (go_at_call 52; (with_reducible refine (among_g _ _ _ SZ Ag).mono ?_); rintro e w' ⟨rfl, rfl⟩)
    | (go_at_call 52; (with_reducible refine (among_m _ _ _ SZ Am).mono ?_); rintro e w' ⟨rfl, rfl⟩)
    | (go_at_call 52; (with_reducible refine (among_e _ _ _ SZ Ae).mono ?_); rintro e w' ⟨rfl, rfl⟩)
    | (go_at_call 52; (with_reducible refine (among_r _ _ _ SZ Ar).mono ?_); rintro e w' ⟨rfl, rfl⟩)
    | (go_at_call 52; (with_reducible refine (among_l _ _ _ SZ Al).mono ?_); rintro e w' ⟨rfl, rfl⟩))
  all_goals
    clear x1 x2 x3 x4 x5 x6 x7 x8 x9 x10 x11 x12 x13 r0 HS SZ Ap At An Ao Ab Ag Am Ae Ar Al
    go_ret
    refine ⟨congrArg Ending.returned (congrArg Value.bool (Eq.trans ?_ HO.out.symm)), hB1.out⟩
    clear HO hB1 hl ht hl1 ht1
    first
      | (simp [*]; done)
      | (simp_all; done)
      | (simp_all; rintro rfl; simp_all; done)
      | (simp_all; exact len_nil tops)

set_option maxRecDepth 100000 in
set_option maxHeartbeats 8000000 in
theorem only_6 (topic : ByteArray) (pn : Int) (n : Int) (off : Int) (bp : Int) (be : Int) (bq : Int) (recs : List R) (group : ByteArray) (member : ByteArray) (gen : Int) (robin : Bool) (tops : List ByteArray) (RA TA : Option Addr) (rc tc : Nat) (w : World) (hl : Hid (recs.length ≤ maxLen)) (ht : Hid (tops.length ≤ maxLen)) :
    Calls Tryz.prog 51 #[.agg #[.int .i64 6, .string topic, .int .i64 pn, .int .i64 n, .int .i64 off, .int .i64 bp, .int .i64 be, .int .i64 bq, .slice RA recs.length rc, .string group, .string member, .int .i64 gen, .bool robin, .slice TA tops.length tc]] w fun e w' => e = .returned (.bool (onlyB 6 topic pn n off bp be bq recs.length group member gen robin tops.length)) ∧ Below w.heap.size w w' := by
  have hl1 : recs.length ≤ 9223372036854775807 := hl.out
  have ht1 : tops.length ≤ 9223372036854775807 := ht.out
  obtain ⟨s, hs⟩ : ∃ s, hasS 6 = s := ⟨_, rfl⟩
  have HS := Lib.hid hs
  have SZ : Hid (s.size ≤ maxLen) := Lib.hid (by rw [← hs]; exact has_size _)
  have Ap : Hid (amB s 112 = false) := Lib.hid (by rw [← hs]; decide)
  have At : Hid (amB s 116 = false) := Lib.hid (by rw [← hs]; decide)
  have An : Hid (amB s 110 = true) := Lib.hid (by rw [← hs]; decide)
  have Ao : Hid (amB s 111 = false) := Lib.hid (by rw [← hs]; decide)
  have Ab : Hid (amB s 98 = false) := Lib.hid (by rw [← hs]; decide)
  have Ag : Hid (amB s 103 = true) := Lib.hid (by rw [← hs]; decide)
  have Am : Hid (amB s 109 = true) := Lib.hid (by rw [← hs]; decide)
  have Ae : Hid (amB s 101 = false) := Lib.hid (by rw [← hs]; decide)
  have Ar : Hid (amB s 114 = true) := Lib.hid (by rw [← hs]; decide)
  have Al : Hid (amB s 108 = true) := Lib.hid (by rw [← hs]; decide)
  have HO : Hid (onlyB 6 topic pn n off bp be bq recs.length group member gen robin tops.length = (topic.toList.isEmpty && pn == 0 && off == 0 && (bp == 0 && be == 0 && bq == 0 && decide (recs.length = 0)) && gen == 0)) := Lib.hid (by unfold onlyB; rw [hs, Ap.out, At.out, An.out, Ao.out, Ab.out, Ag.out, Am.out, Ae.out, Ar.out]; simp)
  clear hs
  go_enter Tryz.func51, Tryz.ntmps51
  go_wp2_with (first
    | (go_at_call 9; refine (rhas_s 6 _ _ (by decide) HS).mono ?_; rintro e w1 ⟨rfl, hb1⟩; have r0 := Lib.hid ((hb1.block w.heap.size (by simp)).trans (heap_alloc_new w _)); have hB1 := Lib.hid ((one_box _).trans (hb1.mono (by simp))); have x1 := (cell_of_row _ _ 1 _ _ _ r0.out).trans rfl; have x2 := (cell_of_row _ _ 2 _ _ _ r0.out).trans rfl; have x3 := (cell_of_row _ _ 3 _ _ _ r0.out).trans rfl; have x4 := (cell_of_row _ _ 4 _ _ _ r0.out).trans rfl; have x5 := (cell_of_row _ _ 5 _ _ _ r0.out).trans rfl; have x6 := (cell_of_row _ _ 6 _ _ _ r0.out).trans rfl; have x7 := (cell_of_row _ _ 7 _ _ _ r0.out).trans rfl; have x8 := (cell_of_row _ _ 8 _ _ _ r0.out).trans rfl; have x9 := (cell_of_row _ _ 9 _ _ _ r0.out).trans rfl; have x10 := (cell_of_row _ _ 10 _ _ _ r0.out).trans rfl; have x11 := (cell_of_row _ _ 11 _ _ _ r0.out).trans rfl; have x12 := (cell_of_row _ _ 12 _ _ _ r0.out).trans rfl; have x13 := (cell_of_row _ _ 13 _ _ _ r0.out).trans rfl)
    | (go_at_call 52; (with_reducible refine (among_p _ _ _ SZ Ap).mono ?_); rintro e w' ⟨rfl, rfl⟩)
    | (go_at_call 52; (with_reducible refine (among_t _ _ _ SZ At).mono ?_); rintro e w' ⟨rfl, rfl⟩)
    | (go_at_call 52; (with_reducible refine (among_n _ _ _ SZ An).mono ?_); rintro e w' ⟨rfl, rfl⟩)
    | (go_at_call 52; (with_reducible refine (among_o _ _ _ SZ Ao).mono ?_); rintro e w' ⟨rfl, rfl⟩)
    | (go_at_call 52; (with_reducible refine (among_b _ _ _ SZ Ab).mono ?_); rintro e w' ⟨rfl, rfl⟩)
    | (go_at_call 52; (with_reducible refine (among_g _ _ _ SZ Ag).mono ?_); rintro e w' ⟨rfl, rfl⟩)
    | (go_at_call 52; (with_reducible refine (among_m _ _ _ SZ Am).mono ?_); rintro e w' ⟨rfl, rfl⟩)
    | (go_at_call 52; (with_reducible refine (among_e _ _ _ SZ Ae).mono ?_); rintro e w' ⟨rfl, rfl⟩)
    | (go_at_call 52; (with_reducible refine (among_r _ _ _ SZ Ar).mono ?_); rintro e w' ⟨rfl, rfl⟩)
    | (go_at_call 52; (with_reducible refine (among_l _ _ _ SZ Al).mono ?_); rintro e w' ⟨rfl, rfl⟩))
  all_goals
    clear x1 x2 x3 x4 x5 x6 x7 x8 x9 x10 x11 x12 x13 r0 HS SZ Ap At An Ao Ab Ag Am Ae Ar Al
    go_ret
    refine ⟨congrArg Ending.returned (congrArg Value.bool (Eq.trans ?_ HO.out.symm)), hB1.out⟩
    clear HO hB1 hl ht hl1 ht1
    first
      | (simp [*]; done)
      | (simp_all; done)
      | (simp_all; rintro rfl; simp_all; done)
      | (simp_all; exact len_nil tops)

set_option maxRecDepth 100000 in
set_option maxHeartbeats 8000000 in
theorem only_7 (topic : ByteArray) (pn : Int) (n : Int) (off : Int) (bp : Int) (be : Int) (bq : Int) (recs : List R) (group : ByteArray) (member : ByteArray) (gen : Int) (robin : Bool) (tops : List ByteArray) (RA TA : Option Addr) (rc tc : Nat) (w : World) (hl : Hid (recs.length ≤ maxLen)) (ht : Hid (tops.length ≤ maxLen)) :
    Calls Tryz.prog 51 #[.agg #[.int .i64 7, .string topic, .int .i64 pn, .int .i64 n, .int .i64 off, .int .i64 bp, .int .i64 be, .int .i64 bq, .slice RA recs.length rc, .string group, .string member, .int .i64 gen, .bool robin, .slice TA tops.length tc]] w fun e w' => e = .returned (.bool (onlyB 7 topic pn n off bp be bq recs.length group member gen robin tops.length)) ∧ Below w.heap.size w w' := by
  have hl1 : recs.length ≤ 9223372036854775807 := hl.out
  have ht1 : tops.length ≤ 9223372036854775807 := ht.out
  obtain ⟨s, hs⟩ : ∃ s, hasS 7 = s := ⟨_, rfl⟩
  have HS := Lib.hid hs
  have SZ : Hid (s.size ≤ maxLen) := Lib.hid (by rw [← hs]; exact has_size _)
  have Ap : Hid (amB s 112 = false) := Lib.hid (by rw [← hs]; decide)
  have At : Hid (amB s 116 = false) := Lib.hid (by rw [← hs]; decide)
  have An : Hid (amB s 110 = false) := Lib.hid (by rw [← hs]; decide)
  have Ao : Hid (amB s 111 = false) := Lib.hid (by rw [← hs]; decide)
  have Ab : Hid (amB s 98 = false) := Lib.hid (by rw [← hs]; decide)
  have Ag : Hid (amB s 103 = true) := Lib.hid (by rw [← hs]; decide)
  have Am : Hid (amB s 109 = true) := Lib.hid (by rw [← hs]; decide)
  have Ae : Hid (amB s 101 = true) := Lib.hid (by rw [← hs]; decide)
  have Ar : Hid (amB s 114 = false) := Lib.hid (by rw [← hs]; decide)
  have Al : Hid (amB s 108 = false) := Lib.hid (by rw [← hs]; decide)
  have HO : Hid (onlyB 7 topic pn n off bp be bq recs.length group member gen robin tops.length = (topic.toList.isEmpty && pn == 0 && n == 0 && off == 0 && (bp == 0 && be == 0 && bq == 0 && decide (recs.length = 0)) && (!robin && decide (tops.length = 0)))) := Lib.hid (by unfold onlyB; rw [hs, Ap.out, At.out, An.out, Ao.out, Ab.out, Ag.out, Am.out, Ae.out, Ar.out]; simp)
  clear hs
  go_enter Tryz.func51, Tryz.ntmps51
  go_wp2_with (first
    | (go_at_call 9; refine (rhas_s 7 _ _ (by decide) HS).mono ?_; rintro e w1 ⟨rfl, hb1⟩; have r0 := Lib.hid ((hb1.block w.heap.size (by simp)).trans (heap_alloc_new w _)); have hB1 := Lib.hid ((one_box _).trans (hb1.mono (by simp))); have x1 := (cell_of_row _ _ 1 _ _ _ r0.out).trans rfl; have x2 := (cell_of_row _ _ 2 _ _ _ r0.out).trans rfl; have x3 := (cell_of_row _ _ 3 _ _ _ r0.out).trans rfl; have x4 := (cell_of_row _ _ 4 _ _ _ r0.out).trans rfl; have x5 := (cell_of_row _ _ 5 _ _ _ r0.out).trans rfl; have x6 := (cell_of_row _ _ 6 _ _ _ r0.out).trans rfl; have x7 := (cell_of_row _ _ 7 _ _ _ r0.out).trans rfl; have x8 := (cell_of_row _ _ 8 _ _ _ r0.out).trans rfl; have x9 := (cell_of_row _ _ 9 _ _ _ r0.out).trans rfl; have x10 := (cell_of_row _ _ 10 _ _ _ r0.out).trans rfl; have x11 := (cell_of_row _ _ 11 _ _ _ r0.out).trans rfl; have x12 := (cell_of_row _ _ 12 _ _ _ r0.out).trans rfl; have x13 := (cell_of_row _ _ 13 _ _ _ r0.out).trans rfl)
    | (go_at_call 52; (with_reducible refine (among_p _ _ _ SZ Ap).mono ?_); rintro e w' ⟨rfl, rfl⟩)
    | (go_at_call 52; (with_reducible refine (among_t _ _ _ SZ At).mono ?_); rintro e w' ⟨rfl, rfl⟩)
    | (go_at_call 52; (with_reducible refine (among_n _ _ _ SZ An).mono ?_); rintro e w' ⟨rfl, rfl⟩)
    | (go_at_call 52; (with_reducible refine (among_o _ _ _ SZ Ao).mono ?_); rintro e w' ⟨rfl, rfl⟩)
    | (go_at_call 52; (with_reducible refine (among_b _ _ _ SZ Ab).mono ?_); rintro e w' ⟨rfl, rfl⟩)
    | (go_at_call 52; (with_reducible refine (among_g _ _ _ SZ Ag).mono ?_); rintro e w' ⟨rfl, rfl⟩)
    | (go_at_call 52; (with_reducible refine (among_m _ _ _ SZ Am).mono ?_); rintro e w' ⟨rfl, rfl⟩)
    | (go_at_call 52; (with_reducible refine (among_e _ _ _ SZ Ae).mono ?_); rintro e w' ⟨rfl, rfl⟩)
    | (go_at_call 52; (with_reducible refine (among_r _ _ _ SZ Ar).mono ?_); rintro e w' ⟨rfl, rfl⟩)
    | (go_at_call 52; (with_reducible refine (among_l _ _ _ SZ Al).mono ?_); rintro e w' ⟨rfl, rfl⟩))
  all_goals
    clear x1 x2 x3 x4 x5 x6 x7 x8 x9 x10 x11 x12 x13 r0 HS SZ Ap At An Ao Ab Ag Am Ae Ar Al
    go_ret
    refine ⟨congrArg Ending.returned (congrArg Value.bool (Eq.trans ?_ HO.out.symm)), hB1.out⟩
    clear HO hB1 hl ht hl1 ht1
    first
      | (simp [*]; done)
      | (simp_all; done)
      | (simp_all; rintro rfl; simp_all; done)
      | (simp_all; exact len_nil tops)

set_option maxRecDepth 100000 in
set_option maxHeartbeats 8000000 in
theorem only_8 (topic : ByteArray) (pn : Int) (n : Int) (off : Int) (bp : Int) (be : Int) (bq : Int) (recs : List R) (group : ByteArray) (member : ByteArray) (gen : Int) (robin : Bool) (tops : List ByteArray) (RA TA : Option Addr) (rc tc : Nat) (w : World) (hl : Hid (recs.length ≤ maxLen)) (ht : Hid (tops.length ≤ maxLen)) :
    Calls Tryz.prog 51 #[.agg #[.int .i64 8, .string topic, .int .i64 pn, .int .i64 n, .int .i64 off, .int .i64 bp, .int .i64 be, .int .i64 bq, .slice RA recs.length rc, .string group, .string member, .int .i64 gen, .bool robin, .slice TA tops.length tc]] w fun e w' => e = .returned (.bool (onlyB 8 topic pn n off bp be bq recs.length group member gen robin tops.length)) ∧ Below w.heap.size w w' := by
  have hl1 : recs.length ≤ 9223372036854775807 := hl.out
  have ht1 : tops.length ≤ 9223372036854775807 := ht.out
  obtain ⟨s, hs⟩ : ∃ s, hasS 8 = s := ⟨_, rfl⟩
  have HS := Lib.hid hs
  have SZ : Hid (s.size ≤ maxLen) := Lib.hid (by rw [← hs]; exact has_size _)
  have Ap : Hid (amB s 112 = false) := Lib.hid (by rw [← hs]; decide)
  have At : Hid (amB s 116 = false) := Lib.hid (by rw [← hs]; decide)
  have An : Hid (amB s 110 = false) := Lib.hid (by rw [← hs]; decide)
  have Ao : Hid (amB s 111 = false) := Lib.hid (by rw [← hs]; decide)
  have Ab : Hid (amB s 98 = false) := Lib.hid (by rw [← hs]; decide)
  have Ag : Hid (amB s 103 = true) := Lib.hid (by rw [← hs]; decide)
  have Am : Hid (amB s 109 = true) := Lib.hid (by rw [← hs]; decide)
  have Ae : Hid (amB s 101 = true) := Lib.hid (by rw [← hs]; decide)
  have Ar : Hid (amB s 114 = false) := Lib.hid (by rw [← hs]; decide)
  have Al : Hid (amB s 108 = false) := Lib.hid (by rw [← hs]; decide)
  have HO : Hid (onlyB 8 topic pn n off bp be bq recs.length group member gen robin tops.length = (topic.toList.isEmpty && pn == 0 && n == 0 && off == 0 && (bp == 0 && be == 0 && bq == 0 && decide (recs.length = 0)) && (!robin && decide (tops.length = 0)))) := Lib.hid (by unfold onlyB; rw [hs, Ap.out, At.out, An.out, Ao.out, Ab.out, Ag.out, Am.out, Ae.out, Ar.out]; simp)
  clear hs
  go_enter Tryz.func51, Tryz.ntmps51
  go_wp2_with (first
    | (go_at_call 9; refine (rhas_s 8 _ _ (by decide) HS).mono ?_; rintro e w1 ⟨rfl, hb1⟩; have r0 := Lib.hid ((hb1.block w.heap.size (by simp)).trans (heap_alloc_new w _)); have hB1 := Lib.hid ((one_box _).trans (hb1.mono (by simp))); have x1 := (cell_of_row _ _ 1 _ _ _ r0.out).trans rfl; have x2 := (cell_of_row _ _ 2 _ _ _ r0.out).trans rfl; have x3 := (cell_of_row _ _ 3 _ _ _ r0.out).trans rfl; have x4 := (cell_of_row _ _ 4 _ _ _ r0.out).trans rfl; have x5 := (cell_of_row _ _ 5 _ _ _ r0.out).trans rfl; have x6 := (cell_of_row _ _ 6 _ _ _ r0.out).trans rfl; have x7 := (cell_of_row _ _ 7 _ _ _ r0.out).trans rfl; have x8 := (cell_of_row _ _ 8 _ _ _ r0.out).trans rfl; have x9 := (cell_of_row _ _ 9 _ _ _ r0.out).trans rfl; have x10 := (cell_of_row _ _ 10 _ _ _ r0.out).trans rfl; have x11 := (cell_of_row _ _ 11 _ _ _ r0.out).trans rfl; have x12 := (cell_of_row _ _ 12 _ _ _ r0.out).trans rfl; have x13 := (cell_of_row _ _ 13 _ _ _ r0.out).trans rfl)
    | (go_at_call 52; (with_reducible refine (among_p _ _ _ SZ Ap).mono ?_); rintro e w' ⟨rfl, rfl⟩)
    | (go_at_call 52; (with_reducible refine (among_t _ _ _ SZ At).mono ?_); rintro e w' ⟨rfl, rfl⟩)
    | (go_at_call 52; (with_reducible refine (among_n _ _ _ SZ An).mono ?_); rintro e w' ⟨rfl, rfl⟩)
    | (go_at_call 52; (with_reducible refine (among_o _ _ _ SZ Ao).mono ?_); rintro e w' ⟨rfl, rfl⟩)
    | (go_at_call 52; (with_reducible refine (among_b _ _ _ SZ Ab).mono ?_); rintro e w' ⟨rfl, rfl⟩)
    | (go_at_call 52; (with_reducible refine (among_g _ _ _ SZ Ag).mono ?_); rintro e w' ⟨rfl, rfl⟩)
    | (go_at_call 52; (with_reducible refine (among_m _ _ _ SZ Am).mono ?_); rintro e w' ⟨rfl, rfl⟩)
    | (go_at_call 52; (with_reducible refine (among_e _ _ _ SZ Ae).mono ?_); rintro e w' ⟨rfl, rfl⟩)
    | (go_at_call 52; (with_reducible refine (among_r _ _ _ SZ Ar).mono ?_); rintro e w' ⟨rfl, rfl⟩)
    | (go_at_call 52; (with_reducible refine (among_l _ _ _ SZ Al).mono ?_); rintro e w' ⟨rfl, rfl⟩))
  all_goals
    clear x1 x2 x3 x4 x5 x6 x7 x8 x9 x10 x11 x12 x13 r0 HS SZ Ap At An Ao Ab Ag Am Ae Ar Al
    go_ret
    refine ⟨congrArg Ending.returned (congrArg Value.bool (Eq.trans ?_ HO.out.symm)), hB1.out⟩
    clear HO hB1 hl ht hl1 ht1
    first
      | (simp [*]; done)
      | (simp_all; done)
      | (simp_all; rintro rfl; simp_all; done)
      | (simp_all; exact len_nil tops)

set_option maxRecDepth 100000 in
set_option maxHeartbeats 8000000 in
theorem only_9 (topic : ByteArray) (pn : Int) (n : Int) (off : Int) (bp : Int) (be : Int) (bq : Int) (recs : List R) (group : ByteArray) (member : ByteArray) (gen : Int) (robin : Bool) (tops : List ByteArray) (RA TA : Option Addr) (rc tc : Nat) (w : World) (hl : Hid (recs.length ≤ maxLen)) (ht : Hid (tops.length ≤ maxLen)) :
    Calls Tryz.prog 51 #[.agg #[.int .i64 9, .string topic, .int .i64 pn, .int .i64 n, .int .i64 off, .int .i64 bp, .int .i64 be, .int .i64 bq, .slice RA recs.length rc, .string group, .string member, .int .i64 gen, .bool robin, .slice TA tops.length tc]] w fun e w' => e = .returned (.bool (onlyB 9 topic pn n off bp be bq recs.length group member gen robin tops.length)) ∧ Below w.heap.size w w' := by
  have hl1 : recs.length ≤ 9223372036854775807 := hl.out
  have ht1 : tops.length ≤ 9223372036854775807 := ht.out
  obtain ⟨s, hs⟩ : ∃ s, hasS 9 = s := ⟨_, rfl⟩
  have HS := Lib.hid hs
  have SZ : Hid (s.size ≤ maxLen) := Lib.hid (by rw [← hs]; exact has_size _)
  have Ap : Hid (amB s 112 = false) := Lib.hid (by rw [← hs]; decide)
  have At : Hid (amB s 116 = false) := Lib.hid (by rw [← hs]; decide)
  have An : Hid (amB s 110 = false) := Lib.hid (by rw [← hs]; decide)
  have Ao : Hid (amB s 111 = false) := Lib.hid (by rw [← hs]; decide)
  have Ab : Hid (amB s 98 = false) := Lib.hid (by rw [← hs]; decide)
  have Ag : Hid (amB s 103 = true) := Lib.hid (by rw [← hs]; decide)
  have Am : Hid (amB s 109 = true) := Lib.hid (by rw [← hs]; decide)
  have Ae : Hid (amB s 101 = true) := Lib.hid (by rw [← hs]; decide)
  have Ar : Hid (amB s 114 = false) := Lib.hid (by rw [← hs]; decide)
  have Al : Hid (amB s 108 = false) := Lib.hid (by rw [← hs]; decide)
  have HO : Hid (onlyB 9 topic pn n off bp be bq recs.length group member gen robin tops.length = (topic.toList.isEmpty && pn == 0 && n == 0 && off == 0 && (bp == 0 && be == 0 && bq == 0 && decide (recs.length = 0)) && (!robin && decide (tops.length = 0)))) := Lib.hid (by unfold onlyB; rw [hs, Ap.out, At.out, An.out, Ao.out, Ab.out, Ag.out, Am.out, Ae.out, Ar.out]; simp)
  clear hs
  go_enter Tryz.func51, Tryz.ntmps51
  go_wp2_with (first
    | (go_at_call 9; refine (rhas_s 9 _ _ (by decide) HS).mono ?_; rintro e w1 ⟨rfl, hb1⟩; have r0 := Lib.hid ((hb1.block w.heap.size (by simp)).trans (heap_alloc_new w _)); have hB1 := Lib.hid ((one_box _).trans (hb1.mono (by simp))); have x1 := (cell_of_row _ _ 1 _ _ _ r0.out).trans rfl; have x2 := (cell_of_row _ _ 2 _ _ _ r0.out).trans rfl; have x3 := (cell_of_row _ _ 3 _ _ _ r0.out).trans rfl; have x4 := (cell_of_row _ _ 4 _ _ _ r0.out).trans rfl; have x5 := (cell_of_row _ _ 5 _ _ _ r0.out).trans rfl; have x6 := (cell_of_row _ _ 6 _ _ _ r0.out).trans rfl; have x7 := (cell_of_row _ _ 7 _ _ _ r0.out).trans rfl; have x8 := (cell_of_row _ _ 8 _ _ _ r0.out).trans rfl; have x9 := (cell_of_row _ _ 9 _ _ _ r0.out).trans rfl; have x10 := (cell_of_row _ _ 10 _ _ _ r0.out).trans rfl; have x11 := (cell_of_row _ _ 11 _ _ _ r0.out).trans rfl; have x12 := (cell_of_row _ _ 12 _ _ _ r0.out).trans rfl; have x13 := (cell_of_row _ _ 13 _ _ _ r0.out).trans rfl)
    | (go_at_call 52; (with_reducible refine (among_p _ _ _ SZ Ap).mono ?_); rintro e w' ⟨rfl, rfl⟩)
    | (go_at_call 52; (with_reducible refine (among_t _ _ _ SZ At).mono ?_); rintro e w' ⟨rfl, rfl⟩)
    | (go_at_call 52; (with_reducible refine (among_n _ _ _ SZ An).mono ?_); rintro e w' ⟨rfl, rfl⟩)
    | (go_at_call 52; (with_reducible refine (among_o _ _ _ SZ Ao).mono ?_); rintro e w' ⟨rfl, rfl⟩)
    | (go_at_call 52; (with_reducible refine (among_b _ _ _ SZ Ab).mono ?_); rintro e w' ⟨rfl, rfl⟩)
    | (go_at_call 52; (with_reducible refine (among_g _ _ _ SZ Ag).mono ?_); rintro e w' ⟨rfl, rfl⟩)
    | (go_at_call 52; (with_reducible refine (among_m _ _ _ SZ Am).mono ?_); rintro e w' ⟨rfl, rfl⟩)
    | (go_at_call 52; (with_reducible refine (among_e _ _ _ SZ Ae).mono ?_); rintro e w' ⟨rfl, rfl⟩)
    | (go_at_call 52; (with_reducible refine (among_r _ _ _ SZ Ar).mono ?_); rintro e w' ⟨rfl, rfl⟩)
    | (go_at_call 52; (with_reducible refine (among_l _ _ _ SZ Al).mono ?_); rintro e w' ⟨rfl, rfl⟩))
  all_goals
    clear x1 x2 x3 x4 x5 x6 x7 x8 x9 x10 x11 x12 x13 r0 HS SZ Ap At An Ao Ab Ag Am Ae Ar Al
    go_ret
    refine ⟨congrArg Ending.returned (congrArg Value.bool (Eq.trans ?_ HO.out.symm)), hB1.out⟩
    clear HO hB1 hl ht hl1 ht1
    first
      | (simp [*]; done)
      | (simp_all; done)
      | (simp_all; rintro rfl; simp_all; done)
      | (simp_all; exact len_nil tops)

set_option maxRecDepth 100000 in
set_option maxHeartbeats 8000000 in
theorem only_10 (topic : ByteArray) (pn : Int) (n : Int) (off : Int) (bp : Int) (be : Int) (bq : Int) (recs : List R) (group : ByteArray) (member : ByteArray) (gen : Int) (robin : Bool) (tops : List ByteArray) (RA TA : Option Addr) (rc tc : Nat) (w : World) (hl : Hid (recs.length ≤ maxLen)) (ht : Hid (tops.length ≤ maxLen)) :
    Calls Tryz.prog 51 #[.agg #[.int .i64 10, .string topic, .int .i64 pn, .int .i64 n, .int .i64 off, .int .i64 bp, .int .i64 be, .int .i64 bq, .slice RA recs.length rc, .string group, .string member, .int .i64 gen, .bool robin, .slice TA tops.length tc]] w fun e w' => e = .returned (.bool (onlyB 10 topic pn n off bp be bq recs.length group member gen robin tops.length)) ∧ Below w.heap.size w w' := by
  have hl1 : recs.length ≤ 9223372036854775807 := hl.out
  have ht1 : tops.length ≤ 9223372036854775807 := ht.out
  obtain ⟨s, hs⟩ : ∃ s, hasS 10 = s := ⟨_, rfl⟩
  have HS := Lib.hid hs
  have SZ : Hid (s.size ≤ maxLen) := Lib.hid (by rw [← hs]; exact has_size _)
  have Ap : Hid (amB s 112 = true) := Lib.hid (by rw [← hs]; decide)
  have At : Hid (amB s 116 = false) := Lib.hid (by rw [← hs]; decide)
  have An : Hid (amB s 110 = false) := Lib.hid (by rw [← hs]; decide)
  have Ao : Hid (amB s 111 = true) := Lib.hid (by rw [← hs]; decide)
  have Ab : Hid (amB s 98 = false) := Lib.hid (by rw [← hs]; decide)
  have Ag : Hid (amB s 103 = true) := Lib.hid (by rw [← hs]; decide)
  have Am : Hid (amB s 109 = true) := Lib.hid (by rw [← hs]; decide)
  have Ae : Hid (amB s 101 = true) := Lib.hid (by rw [← hs]; decide)
  have Ar : Hid (amB s 114 = false) := Lib.hid (by rw [← hs]; decide)
  have Al : Hid (amB s 108 = false) := Lib.hid (by rw [← hs]; decide)
  have HO : Hid (onlyB 10 topic pn n off bp be bq recs.length group member gen robin tops.length = (n == 0 && (bp == 0 && be == 0 && bq == 0 && decide (recs.length = 0)) && (!robin && decide (tops.length = 0)))) := Lib.hid (by unfold onlyB; rw [hs, Ap.out, At.out, An.out, Ao.out, Ab.out, Ag.out, Am.out, Ae.out, Ar.out]; simp)
  clear hs
  go_enter Tryz.func51, Tryz.ntmps51
  go_wp2_with (first
    | (go_at_call 9; refine (rhas_s 10 _ _ (by decide) HS).mono ?_; rintro e w1 ⟨rfl, hb1⟩; have r0 := Lib.hid ((hb1.block w.heap.size (by simp)).trans (heap_alloc_new w _)); have hB1 := Lib.hid ((one_box _).trans (hb1.mono (by simp))); have x1 := (cell_of_row _ _ 1 _ _ _ r0.out).trans rfl; have x2 := (cell_of_row _ _ 2 _ _ _ r0.out).trans rfl; have x3 := (cell_of_row _ _ 3 _ _ _ r0.out).trans rfl; have x4 := (cell_of_row _ _ 4 _ _ _ r0.out).trans rfl; have x5 := (cell_of_row _ _ 5 _ _ _ r0.out).trans rfl; have x6 := (cell_of_row _ _ 6 _ _ _ r0.out).trans rfl; have x7 := (cell_of_row _ _ 7 _ _ _ r0.out).trans rfl; have x8 := (cell_of_row _ _ 8 _ _ _ r0.out).trans rfl; have x9 := (cell_of_row _ _ 9 _ _ _ r0.out).trans rfl; have x10 := (cell_of_row _ _ 10 _ _ _ r0.out).trans rfl; have x11 := (cell_of_row _ _ 11 _ _ _ r0.out).trans rfl; have x12 := (cell_of_row _ _ 12 _ _ _ r0.out).trans rfl; have x13 := (cell_of_row _ _ 13 _ _ _ r0.out).trans rfl)
    | (go_at_call 52; (with_reducible refine (among_p _ _ _ SZ Ap).mono ?_); rintro e w' ⟨rfl, rfl⟩)
    | (go_at_call 52; (with_reducible refine (among_t _ _ _ SZ At).mono ?_); rintro e w' ⟨rfl, rfl⟩)
    | (go_at_call 52; (with_reducible refine (among_n _ _ _ SZ An).mono ?_); rintro e w' ⟨rfl, rfl⟩)
    | (go_at_call 52; (with_reducible refine (among_o _ _ _ SZ Ao).mono ?_); rintro e w' ⟨rfl, rfl⟩)
    | (go_at_call 52; (with_reducible refine (among_b _ _ _ SZ Ab).mono ?_); rintro e w' ⟨rfl, rfl⟩)
    | (go_at_call 52; (with_reducible refine (among_g _ _ _ SZ Ag).mono ?_); rintro e w' ⟨rfl, rfl⟩)
    | (go_at_call 52; (with_reducible refine (among_m _ _ _ SZ Am).mono ?_); rintro e w' ⟨rfl, rfl⟩)
    | (go_at_call 52; (with_reducible refine (among_e _ _ _ SZ Ae).mono ?_); rintro e w' ⟨rfl, rfl⟩)
    | (go_at_call 52; (with_reducible refine (among_r _ _ _ SZ Ar).mono ?_); rintro e w' ⟨rfl, rfl⟩)
    | (go_at_call 52; (with_reducible refine (among_l _ _ _ SZ Al).mono ?_); rintro e w' ⟨rfl, rfl⟩))
  all_goals
    clear x1 x2 x3 x4 x5 x6 x7 x8 x9 x10 x11 x12 x13 r0 HS SZ Ap At An Ao Ab Ag Am Ae Ar Al
    go_ret
    refine ⟨congrArg Ending.returned (congrArg Value.bool (Eq.trans ?_ HO.out.symm)), hB1.out⟩
    clear HO hB1 hl ht hl1 ht1
    first
      | (simp [*]; done)
      | (simp_all; done)
      | (simp_all; rintro rfl; simp_all; done)
      | (simp_all; exact len_nil tops)

set_option maxRecDepth 100000 in
set_option maxHeartbeats 8000000 in
theorem only_11 (topic : ByteArray) (pn : Int) (n : Int) (off : Int) (bp : Int) (be : Int) (bq : Int) (recs : List R) (group : ByteArray) (member : ByteArray) (gen : Int) (robin : Bool) (tops : List ByteArray) (RA TA : Option Addr) (rc tc : Nat) (w : World) (hl : Hid (recs.length ≤ maxLen)) (ht : Hid (tops.length ≤ maxLen)) :
    Calls Tryz.prog 51 #[.agg #[.int .i64 11, .string topic, .int .i64 pn, .int .i64 n, .int .i64 off, .int .i64 bp, .int .i64 be, .int .i64 bq, .slice RA recs.length rc, .string group, .string member, .int .i64 gen, .bool robin, .slice TA tops.length tc]] w fun e w' => e = .returned (.bool (onlyB 11 topic pn n off bp be bq recs.length group member gen robin tops.length)) ∧ Below w.heap.size w w' := by
  have hl1 : recs.length ≤ 9223372036854775807 := hl.out
  have ht1 : tops.length ≤ 9223372036854775807 := ht.out
  obtain ⟨s, hs⟩ : ∃ s, hasS 11 = s := ⟨_, rfl⟩
  have HS := Lib.hid hs
  have SZ : Hid (s.size ≤ maxLen) := Lib.hid (by rw [← hs]; exact has_size _)
  have Ap : Hid (amB s 112 = true) := Lib.hid (by rw [← hs]; decide)
  have At : Hid (amB s 116 = false) := Lib.hid (by rw [← hs]; decide)
  have An : Hid (amB s 110 = false) := Lib.hid (by rw [← hs]; decide)
  have Ao : Hid (amB s 111 = false) := Lib.hid (by rw [← hs]; decide)
  have Ab : Hid (amB s 98 = false) := Lib.hid (by rw [← hs]; decide)
  have Ag : Hid (amB s 103 = true) := Lib.hid (by rw [← hs]; decide)
  have Am : Hid (amB s 109 = false) := Lib.hid (by rw [← hs]; decide)
  have Ae : Hid (amB s 101 = false) := Lib.hid (by rw [← hs]; decide)
  have Ar : Hid (amB s 114 = false) := Lib.hid (by rw [← hs]; decide)
  have Al : Hid (amB s 108 = false) := Lib.hid (by rw [← hs]; decide)
  have HO : Hid (onlyB 11 topic pn n off bp be bq recs.length group member gen robin tops.length = (n == 0 && off == 0 && (bp == 0 && be == 0 && bq == 0 && decide (recs.length = 0)) && member.toList.isEmpty && gen == 0 && (!robin && decide (tops.length = 0)))) := Lib.hid (by unfold onlyB; rw [hs, Ap.out, At.out, An.out, Ao.out, Ab.out, Ag.out, Am.out, Ae.out, Ar.out]; simp)
  clear hs
  go_enter Tryz.func51, Tryz.ntmps51
  go_wp2_with (first
    | (go_at_call 9; refine (rhas_s 11 _ _ (by decide) HS).mono ?_; rintro e w1 ⟨rfl, hb1⟩; have r0 := Lib.hid ((hb1.block w.heap.size (by simp)).trans (heap_alloc_new w _)); have hB1 := Lib.hid ((one_box _).trans (hb1.mono (by simp))); have x1 := (cell_of_row _ _ 1 _ _ _ r0.out).trans rfl; have x2 := (cell_of_row _ _ 2 _ _ _ r0.out).trans rfl; have x3 := (cell_of_row _ _ 3 _ _ _ r0.out).trans rfl; have x4 := (cell_of_row _ _ 4 _ _ _ r0.out).trans rfl; have x5 := (cell_of_row _ _ 5 _ _ _ r0.out).trans rfl; have x6 := (cell_of_row _ _ 6 _ _ _ r0.out).trans rfl; have x7 := (cell_of_row _ _ 7 _ _ _ r0.out).trans rfl; have x8 := (cell_of_row _ _ 8 _ _ _ r0.out).trans rfl; have x9 := (cell_of_row _ _ 9 _ _ _ r0.out).trans rfl; have x10 := (cell_of_row _ _ 10 _ _ _ r0.out).trans rfl; have x11 := (cell_of_row _ _ 11 _ _ _ r0.out).trans rfl; have x12 := (cell_of_row _ _ 12 _ _ _ r0.out).trans rfl; have x13 := (cell_of_row _ _ 13 _ _ _ r0.out).trans rfl)
    | (go_at_call 52; (with_reducible refine (among_p _ _ _ SZ Ap).mono ?_); rintro e w' ⟨rfl, rfl⟩)
    | (go_at_call 52; (with_reducible refine (among_t _ _ _ SZ At).mono ?_); rintro e w' ⟨rfl, rfl⟩)
    | (go_at_call 52; (with_reducible refine (among_n _ _ _ SZ An).mono ?_); rintro e w' ⟨rfl, rfl⟩)
    | (go_at_call 52; (with_reducible refine (among_o _ _ _ SZ Ao).mono ?_); rintro e w' ⟨rfl, rfl⟩)
    | (go_at_call 52; (with_reducible refine (among_b _ _ _ SZ Ab).mono ?_); rintro e w' ⟨rfl, rfl⟩)
    | (go_at_call 52; (with_reducible refine (among_g _ _ _ SZ Ag).mono ?_); rintro e w' ⟨rfl, rfl⟩)
    | (go_at_call 52; (with_reducible refine (among_m _ _ _ SZ Am).mono ?_); rintro e w' ⟨rfl, rfl⟩)
    | (go_at_call 52; (with_reducible refine (among_e _ _ _ SZ Ae).mono ?_); rintro e w' ⟨rfl, rfl⟩)
    | (go_at_call 52; (with_reducible refine (among_r _ _ _ SZ Ar).mono ?_); rintro e w' ⟨rfl, rfl⟩)
    | (go_at_call 52; (with_reducible refine (among_l _ _ _ SZ Al).mono ?_); rintro e w' ⟨rfl, rfl⟩))
  all_goals
    clear x1 x2 x3 x4 x5 x6 x7 x8 x9 x10 x11 x12 x13 r0 HS SZ Ap At An Ao Ab Ag Am Ae Ar Al
    go_ret
    refine ⟨congrArg Ending.returned (congrArg Value.bool (Eq.trans ?_ HO.out.symm)), hB1.out⟩
    clear HO hB1 hl ht hl1 ht1
    first
      | (simp [*]; done)
      | (simp_all; done)
      | (simp_all; rintro rfl; simp_all; done)
      | (simp_all; exact len_nil tops)

set_option maxRecDepth 100000 in
set_option maxHeartbeats 8000000 in
theorem only_12 (topic : ByteArray) (pn : Int) (n : Int) (off : Int) (bp : Int) (be : Int) (bq : Int) (recs : List R) (group : ByteArray) (member : ByteArray) (gen : Int) (robin : Bool) (tops : List ByteArray) (RA TA : Option Addr) (rc tc : Nat) (w : World) (hl : Hid (recs.length ≤ maxLen)) (ht : Hid (tops.length ≤ maxLen)) :
    Calls Tryz.prog 51 #[.agg #[.int .i64 12, .string topic, .int .i64 pn, .int .i64 n, .int .i64 off, .int .i64 bp, .int .i64 be, .int .i64 bq, .slice RA recs.length rc, .string group, .string member, .int .i64 gen, .bool robin, .slice TA tops.length tc]] w fun e w' => e = .returned (.bool (onlyB 12 topic pn n off bp be bq recs.length group member gen robin tops.length)) ∧ Below w.heap.size w w' := by
  have hl1 : recs.length ≤ 9223372036854775807 := hl.out
  have ht1 : tops.length ≤ 9223372036854775807 := ht.out
  obtain ⟨s, hs⟩ : ∃ s, hasS 12 = s := ⟨_, rfl⟩
  have HS := Lib.hid hs
  have SZ : Hid (s.size ≤ maxLen) := Lib.hid (by rw [← hs]; exact has_size _)
  have Ap : Hid (amB s 112 = false) := Lib.hid (by rw [← hs]; decide)
  have At : Hid (amB s 116 = false) := Lib.hid (by rw [← hs]; decide)
  have An : Hid (amB s 110 = true) := Lib.hid (by rw [← hs]; decide)
  have Ao : Hid (amB s 111 = false) := Lib.hid (by rw [← hs]; decide)
  have Ab : Hid (amB s 98 = false) := Lib.hid (by rw [← hs]; decide)
  have Ag : Hid (amB s 103 = false) := Lib.hid (by rw [← hs]; decide)
  have Am : Hid (amB s 109 = false) := Lib.hid (by rw [← hs]; decide)
  have Ae : Hid (amB s 101 = false) := Lib.hid (by rw [← hs]; decide)
  have Ar : Hid (amB s 114 = false) := Lib.hid (by rw [← hs]; decide)
  have Al : Hid (amB s 108 = false) := Lib.hid (by rw [← hs]; decide)
  have HO : Hid (onlyB 12 topic pn n off bp be bq recs.length group member gen robin tops.length = (topic.toList.isEmpty && pn == 0 && off == 0 && (bp == 0 && be == 0 && bq == 0 && decide (recs.length = 0)) && group.toList.isEmpty && member.toList.isEmpty && gen == 0 && (!robin && decide (tops.length = 0)))) := Lib.hid (by unfold onlyB; rw [hs, Ap.out, At.out, An.out, Ao.out, Ab.out, Ag.out, Am.out, Ae.out, Ar.out]; simp)
  clear hs
  go_enter Tryz.func51, Tryz.ntmps51
  go_wp2_with (first
    | (go_at_call 9; refine (rhas_s 12 _ _ (by decide) HS).mono ?_; rintro e w1 ⟨rfl, hb1⟩; have r0 := Lib.hid ((hb1.block w.heap.size (by simp)).trans (heap_alloc_new w _)); have hB1 := Lib.hid ((one_box _).trans (hb1.mono (by simp))); have x1 := (cell_of_row _ _ 1 _ _ _ r0.out).trans rfl; have x2 := (cell_of_row _ _ 2 _ _ _ r0.out).trans rfl; have x3 := (cell_of_row _ _ 3 _ _ _ r0.out).trans rfl; have x4 := (cell_of_row _ _ 4 _ _ _ r0.out).trans rfl; have x5 := (cell_of_row _ _ 5 _ _ _ r0.out).trans rfl; have x6 := (cell_of_row _ _ 6 _ _ _ r0.out).trans rfl; have x7 := (cell_of_row _ _ 7 _ _ _ r0.out).trans rfl; have x8 := (cell_of_row _ _ 8 _ _ _ r0.out).trans rfl; have x9 := (cell_of_row _ _ 9 _ _ _ r0.out).trans rfl; have x10 := (cell_of_row _ _ 10 _ _ _ r0.out).trans rfl; have x11 := (cell_of_row _ _ 11 _ _ _ r0.out).trans rfl; have x12 := (cell_of_row _ _ 12 _ _ _ r0.out).trans rfl; have x13 := (cell_of_row _ _ 13 _ _ _ r0.out).trans rfl)
    | (go_at_call 52; (with_reducible refine (among_p _ _ _ SZ Ap).mono ?_); rintro e w' ⟨rfl, rfl⟩)
    | (go_at_call 52; (with_reducible refine (among_t _ _ _ SZ At).mono ?_); rintro e w' ⟨rfl, rfl⟩)
    | (go_at_call 52; (with_reducible refine (among_n _ _ _ SZ An).mono ?_); rintro e w' ⟨rfl, rfl⟩)
    | (go_at_call 52; (with_reducible refine (among_o _ _ _ SZ Ao).mono ?_); rintro e w' ⟨rfl, rfl⟩)
    | (go_at_call 52; (with_reducible refine (among_b _ _ _ SZ Ab).mono ?_); rintro e w' ⟨rfl, rfl⟩)
    | (go_at_call 52; (with_reducible refine (among_g _ _ _ SZ Ag).mono ?_); rintro e w' ⟨rfl, rfl⟩)
    | (go_at_call 52; (with_reducible refine (among_m _ _ _ SZ Am).mono ?_); rintro e w' ⟨rfl, rfl⟩)
    | (go_at_call 52; (with_reducible refine (among_e _ _ _ SZ Ae).mono ?_); rintro e w' ⟨rfl, rfl⟩)
    | (go_at_call 52; (with_reducible refine (among_r _ _ _ SZ Ar).mono ?_); rintro e w' ⟨rfl, rfl⟩)
    | (go_at_call 52; (with_reducible refine (among_l _ _ _ SZ Al).mono ?_); rintro e w' ⟨rfl, rfl⟩))
  all_goals
    clear x1 x2 x3 x4 x5 x6 x7 x8 x9 x10 x11 x12 x13 r0 HS SZ Ap At An Ao Ab Ag Am Ae Ar Al
    go_ret
    refine ⟨congrArg Ending.returned (congrArg Value.bool (Eq.trans ?_ HO.out.symm)), hB1.out⟩
    clear HO hB1 hl ht hl1 ht1
    first
      | (simp [*]; done)
      | (simp_all; done)
      | (simp_all; rintro rfl; simp_all; done)
      | (simp_all; exact len_nil tops)

theorem ronly_is (kind : Nat) (topic : ByteArray) (pn : Int) (n : Int) (off : Int) (bp : Int) (be : Int) (bq : Int) (recs : List R) (group : ByteArray) (member : ByteArray) (gen : Int) (robin : Bool) (tops : List ByteArray) (RA TA : Option Addr) (rc tc : Nat) (v : Bool) (w : World) (hk : kind ≤ 12) (hl : Hid (recs.length ≤ maxLen)) (ht : Hid (tops.length ≤ maxLen)) (HV : Hid (onlyB kind topic pn n off bp be bq recs.length group member gen robin tops.length = v)) :
    Calls Tryz.prog 51 #[.agg #[.int .i64 kind, .string topic, .int .i64 pn, .int .i64 n, .int .i64 off, .int .i64 bp, .int .i64 be, .int .i64 bq, .slice RA recs.length rc, .string group, .string member, .int .i64 gen, .bool robin, .slice TA tops.length tc]] w fun e w' => e = .returned (.bool v) ∧ Below w.heap.size w w' := by
  rw [← HV.out]
  have hc : kind = 0 ∨ kind = 1 ∨ kind = 2 ∨ kind = 3 ∨ kind = 4 ∨ kind = 5 ∨ kind = 6 ∨ kind = 7 ∨ kind = 8 ∨ kind = 9 ∨ kind = 10 ∨ kind = 11 ∨ kind = 12 := by omega
  rcases hc with rfl | rfl | rfl | rfl | rfl | rfl | rfl | rfl | rfl | rfl | rfl | rfl | rfl
  · exact only_0 topic pn n off bp be bq recs group member gen robin tops RA TA rc tc w hl ht
  · exact only_1 topic pn n off bp be bq recs group member gen robin tops RA TA rc tc w hl ht
  · exact only_2 topic pn n off bp be bq recs group member gen robin tops RA TA rc tc w hl ht
  · exact only_3 topic pn n off bp be bq recs group member gen robin tops RA TA rc tc w hl ht
  · exact only_4 topic pn n off bp be bq recs group member gen robin tops RA TA rc tc w hl ht
  · exact only_5 topic pn n off bp be bq recs group member gen robin tops RA TA rc tc w hl ht
  · exact only_6 topic pn n off bp be bq recs group member gen robin tops RA TA rc tc w hl ht
  · exact only_7 topic pn n off bp be bq recs group member gen robin tops RA TA rc tc w hl ht
  · exact only_8 topic pn n off bp be bq recs group member gen robin tops RA TA rc tc w hl ht
  · exact only_9 topic pn n off bp be bq recs group member gen robin tops RA TA rc tc w hl ht
  · exact only_10 topic pn n off bp be bq recs group member gen robin tops RA TA rc tc w hl ht
  · exact only_11 topic pn n off bp be bq recs group member gen robin tops RA TA rc tc w hl ht
  · exact only_12 topic pn n off bp be bq recs group member gen robin tops RA TA rc tc w hl ht

end Go.Proofs.YtijofikpdhapoaaGreat.L4
