/-
  Proved: what is put is got as it was, whatever stands ahead and behind; what is got, put, is the bytes that it was got of (of batches of at most 20 records of 80 and 600 bytes, 1500 bytes); and the fixed calls answer as they must. No condition.
-/
import Derived.Test.YtinhinghakkfoaaRows
import Derived.WalkKit
import Derived.ProofKit
import Derived.OpenShut
import Derived.ShutString
import Derived.ChangeOld
import Derived.Below
import Derived.Test.YtinhinghakkfoaaRecFixed
import Derived.Test.YtinhinghakkfoaaRecOpen
import Derived.Test.YtinhinghakkfoaaRecBound
import Derived.Test.YtinhinghakkfoaaRecLaw
namespace Go.Proofs.Ytinhinghakkfoaa.recordBack
open Go.ChangeShapes Go.WideShapes Go.ChangeAt Go.RowKit
open Go.ChangeMaps (open_string shut_string)
open L3

theorem own : ownKnob Try.prog.godebug = none := by kernel_rfl
theorem laidOut : laidOutB Try.prog = true := by kernel_rfl

theorem box_set {w1 : World} {H : Nat} {a b c d v0 v1 v2 v3 : Value} {T : TypeId} (h : w1.heap[H]? = some (.cells #[a, b, c, d] T (0, 0))) :
    ((((w1.setCell ⟨H, 0, none⟩ v0).setCell ⟨H, 1, none⟩ v1).setCell ⟨H, 2, none⟩ v2).setCell ⟨H, 3, none⟩ v3).heap[H]? = some (.cells #[v0, v1, v2, v3] T (0, 0)) :=
  heap_setCell_same _ H 3 _ _ v3 (heap_setCell_same _ H 2 _ _ v2 (heap_setCell_same _ H 1 _ _ v1 (heap_setCell_same _ H 0 _ _ v0 h)))
theorem own_set {w : World} {base k G : Nat} {T : TypeId} {m : Nat} {V : Value} {xs : List Value} (h : w.ownsRow base T m V k xs) (hG : G < base) (v0 v1 v2 v3 : Value) :
    ((((w.setCell ⟨G, 0, none⟩ v0).setCell ⟨G, 1, none⟩ v1).setCell ⟨G, 2, none⟩ v2).setCell ⟨G, 3, none⟩ v3).ownsRow base T m V k xs :=
  ownsRow_setCell_below (ownsRow_setCell_below (ownsRow_setCell_below (ownsRow_setCell_below h (a := ⟨G, 0, none⟩) hG v0) (a := ⟨G, 1, none⟩) hG v1) (a := ⟨G, 2, none⟩) hG v2) (a := ⟨G, 3, none⟩) hG v3
theorem below_set {w w1 : World} (h : Below w.heap.size w w1) (v0 v1 v2 v3 : Value) :
    Below w.heap.size w ((((w1.setCell ⟨w.heap.size, 0, none⟩ v0).setCell ⟨w.heap.size, 1, none⟩ v1).setCell ⟨w.heap.size, 2, none⟩ v2).setCell ⟨w.heap.size, 3, none⟩ v3) :=
  (((h.setCell (p := ⟨w.heap.size, 0, none⟩) (Nat.le_refl _) v0).setCell (p := ⟨w.heap.size, 1, none⟩) (Nat.le_refl _) v1).setCell (p := ⟨w.heap.size, 2, none⟩) (Nat.le_refl _) v2).setCell (p := ⟨w.heap.size, 3, none⟩) (Nat.le_refl _) v3

theorem acc_alloc {W w : World} (h : Below W.heap.size W w) (o : Obj) : Below W.heap.size W (w.alloc o) := h.alloc h.size _
/-- what is told of a batch at a place -/
def PPost (p e q : Int) (l : List R) (to x : Int) (w : World) (e' : Ending) (w' : World) : Prop :=
  ∃ A cap, e' = .returned (.tuple #[.agg #[.int .i64 p, .int .i64 e, .int .i64 q, .slice A l.length cap], .int .i64 to, .int .i64 x]) ∧ Hid (Reads w' w'.heap.size A l) ∧ Below w.heap.size w w'
def PIs (s : ByteArray) (a : Int) (b : Bt) (p e q : Int) (l : List R) (to x : Int) : Prop := parse s a = (b, to, x) ∧ (b.p : Int) = p ∧ (b.e : Int) = e ∧ (b.q : Int) = q ∧ b.l = l
theorem parse_p (s : ByteArray) (a : Int) (b : Bt) (p e q : Int) (l : List R) (to x : Int) (w : World) (hs : s.size ≤ 140737488355328) (HP : Hid (PIs s a b p e q l to x)) :
    Calls Try.prog 24 #[.string s, .int .i64 a] w (PPost p e q l to x w) := by
  obtain ⟨h, rfl, rfl, rfl, rfl⟩ := HP.out
  exact (parse_is s a b to x w hs (Lib.hid h)).mono fun _ _ ⟨A, cap, he, ho, hb⟩ => ⟨A, cap, he, Lib.hid (Reads.own ho), hb⟩
def ZPost (x : Int) (w : World) (e : Ending) (w' : World) : Prop :=
  ∃ A cap, e = .returned (.tuple #[.agg #[.int .i64 0, .int .i64 0, .int .i64 0, .slice A 0 cap], .int .i64 0, .int .i64 x]) ∧ Below w.heap.size w w'
theorem parse_zero (s : ByteArray) (a x : Int) (w : World) (hs : s.size ≤ 140737488355328) (HP : Hid (parse s a = (Bt.zero, 0, x))) :
    Calls Try.prog 24 #[.string s, .int .i64 a] w (ZPost x w) :=
  (parse_is s a _ _ _ w hs HP).mono fun _ _ ⟨A, cap, he, _, hb⟩ => ⟨A, cap, he, hb⟩
theorem all_sizes {p e q : Int} {l : List R} (h : allN p e q l = 0) : ∀ r ∈ l, r.key.size ≤ maxLen ∧ r.val.size ≤ maxLen := fun r hr => by
  obtain ⟨_, _, _, _, _, hall⟩ := allN_ok h
  obtain ⟨hk, k, tb, v⟩ := r
  obtain ⟨q1, q2, _, _⟩ := chk_parts (hall _ hr)
  unfold maxLen
  exact ⟨Nat.le_trans q1 (by decide), Nat.le_trans q2 (by decide)⟩
/-- what is got is what it was got of -/
theorem got_text {s : ByteArray} {to : Int} {p e q : Nat} {l : List R} (h : parse s 0 = (⟨p, e, q, l⟩, to, 0)) : allN p e q l = 0 ∧ batT p e q l = s.extract 0 to.toNat ∧ 0 < to ∧ to ≤ s.size ∧ ((s.extract 0 to.toNat).size : Int) = to := by
  obtain ⟨_, g1, g2, g3, g4⟩ := parse_got h
  have g3' : allN p e q l = 0 := g3
  have g4' : (V.nats s).drop (0 : Int).toNat = V.nats (batT p e q l) ++ (V.nats s).drop to.toNat := g4
  have hz : ((s.extract 0 to.toNat).size : Int) = to := by rw [ByteArray.size_extract]; omega
  refine ⟨g3', ?_, g1, g2, hz⟩
  apply V.nats_inj
  rw [nats_take]
  have h1 : (V.nats (batT p e q l)).length = to.toNat := by
    have := congrArg List.length g4'
    rw [List.length_append, List.length_drop, List.length_drop, V.nats_len] at this
    have e0 : (0 : Int).toNat = 0 := rfl
    omega
  have h2 : V.nats s = V.nats (batT p e q l) ++ (V.nats s).drop to.toNat := by simpa using g4'
  rw [h2, ← h1, List.take_left]
theorem put_at {ah T s : ByteArray} {x0 y0 z0 : Int} {L : List R} (h : allN x0 y0 z0 L = 0) (hT : batT x0 y0 z0 L = T) :
    parse (ah ++ T ++ s) ah.size = (⟨x0.toNat, y0.toNat, z0.toNat, L⟩, (ah.size : Int) + T.size, 0) := by
  subst hT
  have e := parse_put h (s := ah ++ batT x0 y0 z0 L ++ s) (pre := V.nats ah) (post := V.nats s) (by rw [V.nats_append, V.nats_append, List.append_assoc])
  rw [V.nats_len] at e
  exact e
set_option maxRecDepth 100000 in
set_option maxHeartbeats 8000000 in
theorem walk_aa (x0 y0 z0 : Int) (A0 : Option Addr) (l0 : List R) (c0 : Nat) (w : World) (R0 : IsRecs w A0 l0) (a1 : ByteArray) (w1' : a1.size ≤ maxLen) (a2 : ByteArray) (w2' : a2.size ≤ maxLen)
    (L : List R) (X : Int) (T : ByteArray) (L20 : L.length ≤ 20) (T1 : T.size ≤ 10000) (HM : Hid (∀ r ∈ L, r.key.size ≤ maxLen ∧ r.val.size ≤ maxLen)) (HL : Hid ((l0.take 20).map R.cut = L)) (HX : Hid (allN x0 y0 z0 L = X)) (HT : Hid (batP x0 y0 z0 L = T))
    (s ah : ByteArray) (hs : a1.extract 0 (min (a1.size : Int) 1500).toNat = s) (hah : a2.extract 0 (min (a2.size : Int) 100).toNat = ah) (s1 : s.size ≤ 1500) (ah1 : ah.size ≤ 100) (h : X = 0) (p e q : Nat) (l : List R) (to : Int) (HPz0 : Hid (parse s 0 = (⟨p, e, q, l⟩, to, 0))) :
    Calls Try.prog 5 #[.agg #[.int .i64 x0, .int .i64 y0, .int .i64 z0, .slice A0 l0.length c0], .string a1, .string a2] w fun e w' => e = .returned (.bool true) ∧ Below w.heap.size w w' := by
  unfold maxLen at w1' w2'
  subst h
  obtain ⟨⟨p0, _⟩, ⟨p2, _⟩, ⟨p4, _⟩, _⟩ := allN_ok HX.out
  have HP1 : Hid (PIs (ah ++ T ++ s) ah.size ⟨x0.toNat, y0.toNat, z0.toNat, L⟩ x0 y0 z0 L ((ah.size : Int) + T.size) 0) :=
    Lib.hid ⟨put_at HX.out ((batP_ok HX.out).symm.trans HT.out), Int.toNat_of_nonneg p0, Int.toNat_of_nonneg p2, Int.toNat_of_nonneg p4, rfl⟩
  clear p0 p2 p4
  obtain ⟨hall, htx, t0, t1, t2⟩ := got_text HPz0.out
  obtain ⟨_, _, _, _, hl16, _⟩ := allN_ok hall
  have l16 : l.length ≤ 20 := by omega
  have HPz : Hid (PIs s 0 ⟨p, e, q, l⟩ p e q l to 0) := Lib.hid ⟨HPz0.out, rfl, rfl, rfl, rfl⟩
  obtain ⟨U, hU⟩ : ∃ U, s.extract 0 to.toNat = U := ⟨_, rfl⟩
  rw [hU] at htx t2
  have HX5 := Lib.hid hall
  have HT5 := Lib.hid ((batP_ok hall).trans htx)
  have HS5 := Lib.hid (all_sizes hall)
  obtain rfl : to = (U.size : Int) := t2.symm
  rw [Int.toNat_natCast] at hU
  obtain ⟨n, hn⟩ : ∃ n, U.size = n := ⟨_, rfl⟩
  rw [hn] at hU t1
  rw [hn] at HPz
  clear hall htx hl16 t2 t0 HPz0
  have S1 : s.size ≤ 140737488355328 := by omega
  have S2 : (ah ++ T ++ s).size ≤ 140737488355328 := by simp only [ByteArray.size_append]; omega
  go_enter Try.func5, Try.ntmps5
  go_wp2_with (first
    | (go_at_call 24; have _q := HB4; refine (parse_p _ _ _ _ _ _ _ _ _ _ S1 HPz).mono ?_; rintro e w5 ⟨A5, cap5, rfl, RC5, hb5⟩; have HB5 := Lib.hid (acc HB4.out hb5); have hz5 := hb5.size)
    | (go_at_call 13; have _q := HB5; refine (batch_is _ _ _ _ _ _ w5.heap.size _ _ _ (Lib.hid (RC5.out.below (one_box _))) (by simp) l16 HS5 HX5 HT5).mono ?_; rintro e w6 ⟨rfl, hb6⟩; have HB6 := Lib.hid (acc (acc_alloc HB5.out _) hb6))
    | (go_at_call 21; refine (fixed3_any _).mono ?_; rintro e wf ⟨rfl, hbf⟩; have HBF := Lib.hid (acc HB6.out hbf))
    | (go_at_call 10; refine (bound_is _ _ _ _ _ _ _ _ _ (Lib.hid (R0.1.out.below (one_box _))) (by simp) R0.2.2 R0.2.1 HL).mono ?_; rintro e w1 ⟨A', cap', rfl, hown1, hb1⟩; have hz1 : w.heap.size < w1.heap.size := (by have := hb1.size; simp at this; omega); have hB1 : Below w.heap.size w w1 := (one_box _).trans (hb1.mono (by simp)); have hrow1 : w1.heap[w.heap.size]? = some (.cells #[.int .i64 x0, .int .i64 y0, .int .i64 z0, .slice A0 l0.length c0] 26 (0, 0)) := (hb1.block _ (by simp)).trans (heap_alloc_new _ _); have hc1 := cell_of_row w1 w.heap.size 0 _ _ _ hrow1; have hc2 := cell_of_row w1 w.heap.size 1 _ _ _ hrow1; have hc3 := cell_of_row w1 w.heap.size 2 _ _ _ hrow1; have hc4 := cell_of_row w1 w.heap.size 3 _ _ _ hrow1; have hf1 := frozen_of_row w1 w.heap.size 0 _ _ hrow1; have hf2 := frozen_of_row w1 w.heap.size 1 _ _ hrow1; have hf3 := frozen_of_row w1 w.heap.size 2 _ _ hrow1; have hf4 := frozen_of_row w1 w.heap.size 3 _ _ hrow1; have HW1 := Lib.hid (box_set (v0 := .int .i64 x0) (v1 := .int .i64 y0) (v2 := .int .i64 z0) (v3 := .slice A' L.length cap') hrow1); have HO1 := Lib.hid (own_set hown1 (by simp : w.heap.size < _) (.int .i64 x0) (.int .i64 y0) (.int .i64 z0) (.slice A' L.length cap')); have HBW := Lib.hid (below_set hB1 (.int .i64 x0) (.int .i64 y0) (.int .i64 z0) (.slice A' L.length cap')); clear hrow1 hown1)
    | (go_at_call 13; refine (batch_is _ _ _ _ _ _ _ _ _ _ (Lib.hid (Reads.own HO1.out)) (Nat.le_refl _) L20 HM HX HT).mono ?_; rintro e w2 ⟨rfl, hb2⟩; have hr2 := (hb2.block w.heap.size (by simp; omega)).trans HW1.out; have e0 := (cell_of_row w2 w.heap.size 0 _ _ _ hr2).trans rfl; have e1 := (cell_of_row w2 w.heap.size 1 _ _ _ hr2).trans rfl; have e2 := (cell_of_row w2 w.heap.size 2 _ _ _ hr2).trans rfl; have e3 := (cell_of_row w2 w.heap.size 3 _ _ _ hr2).trans rfl; have HR2 := Lib.hid hr2; have HB2 := Lib.hid (acc HBW.out hb2); have RD2 := Lib.hid (((Reads.own HO1.out).below hb2).mono hb2.size); have hzw : w.heap.size < w2.heap.size := (by have := hb2.size; simp at this; omega); clear hr2)
    | (go_at_call 20; refine (same_yes _ _ _ _ _ _ _ _ w3.heap.size _ (Lib.hid (RD3.out.below (one_box _))) (Lib.hid (RC3.out.below (one_box _))) (by simp) (by unfold maxLen; omega)).mono ?_; rintro e w4 ⟨rfl, hb4⟩; have HB4 := Lib.hid (acc (acc_alloc HB3.out _) hb4))
    | (go_at_call 24; refine (parse_p _ _ _ _ _ _ _ _ _ _ S2 HP1).mono ?_; rintro e w3 ⟨A3, cap3, rfl, RC3, hb3⟩; clear e0 e1 e2 e3; have hr3 := (hb3.block w.heap.size hzw).trans HR2.out; have e0 := (cell_of_row w3 w.heap.size 0 _ _ _ hr3).trans rfl; have e1 := (cell_of_row w3 w.heap.size 1 _ _ _ hr3).trans rfl; have e2 := (cell_of_row w3 w.heap.size 2 _ _ _ hr3).trans rfl; have e3 := (cell_of_row w3 w.heap.size 3 _ _ _ hr3).trans rfl; have HB3 := Lib.hid (acc HB2.out hb3); have RD3 := Lib.hid ((RD2.out.below hb3).mono hb3.size); have hz3 : w.heap.size < w3.heap.size := (by have := hb3.size; omega); clear hr3))
  go_ret
  exact ⟨rfl, HBF.out⟩
set_option maxRecDepth 100000 in
set_option maxHeartbeats 8000000 in
theorem walk_ab (x0 y0 z0 : Int) (A0 : Option Addr) (l0 : List R) (c0 : Nat) (w : World) (R0 : IsRecs w A0 l0) (a1 : ByteArray) (w1' : a1.size ≤ maxLen) (a2 : ByteArray) (w2' : a2.size ≤ maxLen)
    (L : List R) (X : Int) (T : ByteArray) (L20 : L.length ≤ 20) (T1 : T.size ≤ 10000) (HM : Hid (∀ r ∈ L, r.key.size ≤ maxLen ∧ r.val.size ≤ maxLen)) (HL : Hid ((l0.take 20).map R.cut = L)) (HX : Hid (allN x0 y0 z0 L = X)) (HT : Hid (batP x0 y0 z0 L = T))
    (s ah : ByteArray) (hs : a1.extract 0 (min (a1.size : Int) 1500).toNat = s) (hah : a2.extract 0 (min (a2.size : Int) 100).toNat = ah) (s1 : s.size ≤ 1500) (ah1 : ah.size ≤ 100) (h : X = 0) (x : Int) (hx : (x != 0) = true) (HPz : Hid (parse s 0 = (Bt.zero, 0, x))) :
    Calls Try.prog 5 #[.agg #[.int .i64 x0, .int .i64 y0, .int .i64 z0, .slice A0 l0.length c0], .string a1, .string a2] w fun e w' => e = .returned (.bool true) ∧ Below w.heap.size w w' := by
  unfold maxLen at w1' w2'
  subst h
  obtain ⟨⟨p0, _⟩, ⟨p2, _⟩, ⟨p4, _⟩, _⟩ := allN_ok HX.out
  have HP1 : Hid (PIs (ah ++ T ++ s) ah.size ⟨x0.toNat, y0.toNat, z0.toNat, L⟩ x0 y0 z0 L ((ah.size : Int) + T.size) 0) :=
    Lib.hid ⟨put_at HX.out ((batP_ok HX.out).symm.trans HT.out), Int.toNat_of_nonneg p0, Int.toNat_of_nonneg p2, Int.toNat_of_nonneg p4, rfl⟩
  clear p0 p2 p4
  have S1 : s.size ≤ 140737488355328 := by omega
  have S2 : (ah ++ T ++ s).size ≤ 140737488355328 := by simp only [ByteArray.size_append]; omega
  go_enter Try.func5, Try.ntmps5
  go_wp2_with (first
    | (go_at_call 24; have _q := HB4; refine (parse_zero _ _ _ _ S1 HPz).mono ?_; rintro e w5 ⟨A5, cap5, rfl, hb5⟩; have HB5 := Lib.hid (acc HB4.out hb5); have hz5 := hb5.size)
    | (go_at_call 21; refine (fixed3_any _).mono ?_; rintro e wf ⟨rfl, hbf⟩; have HBF := Lib.hid (acc (acc_alloc HB5.out _) hbf))
    | (go_at_call 10; refine (bound_is _ _ _ _ _ _ _ _ _ (Lib.hid (R0.1.out.below (one_box _))) (by simp) R0.2.2 R0.2.1 HL).mono ?_; rintro e w1 ⟨A', cap', rfl, hown1, hb1⟩; have hz1 : w.heap.size < w1.heap.size := (by have := hb1.size; simp at this; omega); have hB1 : Below w.heap.size w w1 := (one_box _).trans (hb1.mono (by simp)); have hrow1 : w1.heap[w.heap.size]? = some (.cells #[.int .i64 x0, .int .i64 y0, .int .i64 z0, .slice A0 l0.length c0] 26 (0, 0)) := (hb1.block _ (by simp)).trans (heap_alloc_new _ _); have hc1 := cell_of_row w1 w.heap.size 0 _ _ _ hrow1; have hc2 := cell_of_row w1 w.heap.size 1 _ _ _ hrow1; have hc3 := cell_of_row w1 w.heap.size 2 _ _ _ hrow1; have hc4 := cell_of_row w1 w.heap.size 3 _ _ _ hrow1; have hf1 := frozen_of_row w1 w.heap.size 0 _ _ hrow1; have hf2 := frozen_of_row w1 w.heap.size 1 _ _ hrow1; have hf3 := frozen_of_row w1 w.heap.size 2 _ _ hrow1; have hf4 := frozen_of_row w1 w.heap.size 3 _ _ hrow1; have HW1 := Lib.hid (box_set (v0 := .int .i64 x0) (v1 := .int .i64 y0) (v2 := .int .i64 z0) (v3 := .slice A' L.length cap') hrow1); have HO1 := Lib.hid (own_set hown1 (by simp : w.heap.size < _) (.int .i64 x0) (.int .i64 y0) (.int .i64 z0) (.slice A' L.length cap')); have HBW := Lib.hid (below_set hB1 (.int .i64 x0) (.int .i64 y0) (.int .i64 z0) (.slice A' L.length cap')); clear hrow1 hown1)
    | (go_at_call 13; refine (batch_is _ _ _ _ _ _ _ _ _ _ (Lib.hid (Reads.own HO1.out)) (Nat.le_refl _) L20 HM HX HT).mono ?_; rintro e w2 ⟨rfl, hb2⟩; have hr2 := (hb2.block w.heap.size (by simp; omega)).trans HW1.out; have e0 := (cell_of_row w2 w.heap.size 0 _ _ _ hr2).trans rfl; have e1 := (cell_of_row w2 w.heap.size 1 _ _ _ hr2).trans rfl; have e2 := (cell_of_row w2 w.heap.size 2 _ _ _ hr2).trans rfl; have e3 := (cell_of_row w2 w.heap.size 3 _ _ _ hr2).trans rfl; have HR2 := Lib.hid hr2; have HB2 := Lib.hid (acc HBW.out hb2); have RD2 := Lib.hid (((Reads.own HO1.out).below hb2).mono hb2.size); have hzw : w.heap.size < w2.heap.size := (by have := hb2.size; simp at this; omega); clear hr2)
    | (go_at_call 20; refine (same_yes _ _ _ _ _ _ _ _ w3.heap.size _ (Lib.hid (RD3.out.below (one_box _))) (Lib.hid (RC3.out.below (one_box _))) (by simp) (by unfold maxLen; omega)).mono ?_; rintro e w4 ⟨rfl, hb4⟩; have HB4 := Lib.hid (acc (acc_alloc HB3.out _) hb4))
    | (go_at_call 24; refine (parse_p _ _ _ _ _ _ _ _ _ _ S2 HP1).mono ?_; rintro e w3 ⟨A3, cap3, rfl, RC3, hb3⟩; clear e0 e1 e2 e3; have hr3 := (hb3.block w.heap.size hzw).trans HR2.out; have e0 := (cell_of_row w3 w.heap.size 0 _ _ _ hr3).trans rfl; have e1 := (cell_of_row w3 w.heap.size 1 _ _ _ hr3).trans rfl; have e2 := (cell_of_row w3 w.heap.size 2 _ _ _ hr3).trans rfl; have e3 := (cell_of_row w3 w.heap.size 3 _ _ _ hr3).trans rfl; have HB3 := Lib.hid (acc HB2.out hb3); have RD3 := Lib.hid ((RD2.out.below hb3).mono hb3.size); have hz3 : w.heap.size < w3.heap.size := (by have := hb3.size; omega); clear hr3))
  go_ret
  exact ⟨rfl, HBF.out⟩
set_option maxRecDepth 100000 in
set_option maxHeartbeats 8000000 in
theorem walk_ba (x0 y0 z0 : Int) (A0 : Option Addr) (l0 : List R) (c0 : Nat) (w : World) (R0 : IsRecs w A0 l0) (a1 : ByteArray) (w1' : a1.size ≤ maxLen) (a2 : ByteArray) (w2' : a2.size ≤ maxLen)
    (L : List R) (X : Int) (T : ByteArray) (L20 : L.length ≤ 20) (T1 : T.size ≤ 10000) (HM : Hid (∀ r ∈ L, r.key.size ≤ maxLen ∧ r.val.size ≤ maxLen)) (HL : Hid ((l0.take 20).map R.cut = L)) (HX : Hid (allN x0 y0 z0 L = X)) (HT : Hid (batP x0 y0 z0 L = T))
    (s ah : ByteArray) (hs : a1.extract 0 (min (a1.size : Int) 1500).toNat = s) (hah : a2.extract 0 (min (a2.size : Int) 100).toNat = ah) (s1 : s.size ≤ 1500) (ah1 : ah.size ≤ 100) (h : X ≠ 0) (p e q : Nat) (l : List R) (to : Int) (HPz0 : Hid (parse s 0 = (⟨p, e, q, l⟩, to, 0))) :
    Calls Try.prog 5 #[.agg #[.int .i64 x0, .int .i64 y0, .int .i64 z0, .slice A0 l0.length c0], .string a1, .string a2] w fun e w' => e = .returned (.bool true) ∧ Below w.heap.size w w' := by
  unfold maxLen at w1' w2'
  have hx1 : (X != 0) = true := by simpa using h
  have hx2 : (X == 0) = false := by simpa using h
  obtain rfl : T = ⟨#[]⟩ := HT.out.symm.trans (batP_err HX.out h)
  clear h
  obtain ⟨hall, htx, t0, t1, t2⟩ := got_text HPz0.out
  obtain ⟨_, _, _, _, hl16, _⟩ := allN_ok hall
  have l16 : l.length ≤ 20 := by omega
  have HPz : Hid (PIs s 0 ⟨p, e, q, l⟩ p e q l to 0) := Lib.hid ⟨HPz0.out, rfl, rfl, rfl, rfl⟩
  obtain ⟨U, hU⟩ : ∃ U, s.extract 0 to.toNat = U := ⟨_, rfl⟩
  rw [hU] at htx t2
  have HX5 := Lib.hid hall
  have HT5 := Lib.hid ((batP_ok hall).trans htx)
  have HS5 := Lib.hid (all_sizes hall)
  obtain rfl : to = (U.size : Int) := t2.symm
  rw [Int.toNat_natCast] at hU
  obtain ⟨n, hn⟩ : ∃ n, U.size = n := ⟨_, rfl⟩
  rw [hn] at hU t1
  rw [hn] at HPz
  clear hall htx hl16 t2 t0 HPz0
  have S1 : s.size ≤ 140737488355328 := by omega
  go_enter Try.func5, Try.ntmps5
  go_wp2_with (first
    | (go_at_call 24; have _q := HB2; refine (parse_p _ _ _ _ _ _ _ _ _ _ S1 HPz).mono ?_; rintro e w5 ⟨A5, cap5, rfl, RC5, hb5⟩; have HB5 := Lib.hid (acc HB2.out hb5); have hz5 := hb5.size)
    | (go_at_call 13; have _q := HB5; refine (batch_is _ _ _ _ _ _ w5.heap.size _ _ _ (Lib.hid (RC5.out.below (one_box _))) (by simp) l16 HS5 HX5 HT5).mono ?_; rintro e w6 ⟨rfl, hb6⟩; have HB6 := Lib.hid (acc (acc_alloc HB5.out _) hb6))
    | (go_at_call 21; refine (fixed3_any _).mono ?_; rintro e wf ⟨rfl, hbf⟩; have HBF := Lib.hid (acc HB6.out hbf))
    | (go_at_call 10; refine (bound_is _ _ _ _ _ _ _ _ _ (Lib.hid (R0.1.out.below (one_box _))) (by simp) R0.2.2 R0.2.1 HL).mono ?_; rintro e w1 ⟨A', cap', rfl, hown1, hb1⟩; have hz1 : w.heap.size < w1.heap.size := (by have := hb1.size; simp at this; omega); have hB1 : Below w.heap.size w w1 := (one_box _).trans (hb1.mono (by simp)); have hrow1 : w1.heap[w.heap.size]? = some (.cells #[.int .i64 x0, .int .i64 y0, .int .i64 z0, .slice A0 l0.length c0] 26 (0, 0)) := (hb1.block _ (by simp)).trans (heap_alloc_new _ _); have hc1 := cell_of_row w1 w.heap.size 0 _ _ _ hrow1; have hc2 := cell_of_row w1 w.heap.size 1 _ _ _ hrow1; have hc3 := cell_of_row w1 w.heap.size 2 _ _ _ hrow1; have hc4 := cell_of_row w1 w.heap.size 3 _ _ _ hrow1; have hf1 := frozen_of_row w1 w.heap.size 0 _ _ hrow1; have hf2 := frozen_of_row w1 w.heap.size 1 _ _ hrow1; have hf3 := frozen_of_row w1 w.heap.size 2 _ _ hrow1; have hf4 := frozen_of_row w1 w.heap.size 3 _ _ hrow1; have HW1 := Lib.hid (box_set (v0 := .int .i64 x0) (v1 := .int .i64 y0) (v2 := .int .i64 z0) (v3 := .slice A' L.length cap') hrow1); have HO1 := Lib.hid (own_set hown1 (by simp : w.heap.size < _) (.int .i64 x0) (.int .i64 y0) (.int .i64 z0) (.slice A' L.length cap')); have HBW := Lib.hid (below_set hB1 (.int .i64 x0) (.int .i64 y0) (.int .i64 z0) (.slice A' L.length cap')); clear hrow1 hown1)
    | (go_at_call 13; refine (batch_is _ _ _ _ _ _ _ _ _ _ (Lib.hid (Reads.own HO1.out)) (Nat.le_refl _) L20 HM HX HT).mono ?_; rintro e w2 ⟨rfl, hb2⟩; have hr2 := (hb2.block w.heap.size (by simp; omega)).trans HW1.out; have e0 := (cell_of_row w2 w.heap.size 0 _ _ _ hr2).trans rfl; have e1 := (cell_of_row w2 w.heap.size 1 _ _ _ hr2).trans rfl; have e2 := (cell_of_row w2 w.heap.size 2 _ _ _ hr2).trans rfl; have e3 := (cell_of_row w2 w.heap.size 3 _ _ _ hr2).trans rfl; have HR2 := Lib.hid hr2; have HB2 := Lib.hid (acc HBW.out hb2); have RD2 := Lib.hid (((Reads.own HO1.out).below hb2).mono hb2.size); have hzw : w.heap.size < w2.heap.size := (by have := hb2.size; simp at this; omega); clear hr2))
  go_ret
  exact ⟨rfl, HBF.out⟩
set_option maxRecDepth 100000 in
set_option maxHeartbeats 8000000 in
theorem walk_bb (x0 y0 z0 : Int) (A0 : Option Addr) (l0 : List R) (c0 : Nat) (w : World) (R0 : IsRecs w A0 l0) (a1 : ByteArray) (w1' : a1.size ≤ maxLen) (a2 : ByteArray) (w2' : a2.size ≤ maxLen)
    (L : List R) (X : Int) (T : ByteArray) (L20 : L.length ≤ 20) (T1 : T.size ≤ 10000) (HM : Hid (∀ r ∈ L, r.key.size ≤ maxLen ∧ r.val.size ≤ maxLen)) (HL : Hid ((l0.take 20).map R.cut = L)) (HX : Hid (allN x0 y0 z0 L = X)) (HT : Hid (batP x0 y0 z0 L = T))
    (s ah : ByteArray) (hs : a1.extract 0 (min (a1.size : Int) 1500).toNat = s) (hah : a2.extract 0 (min (a2.size : Int) 100).toNat = ah) (s1 : s.size ≤ 1500) (ah1 : ah.size ≤ 100) (h : X ≠ 0) (x : Int) (hx : (x != 0) = true) (HPz : Hid (parse s 0 = (Bt.zero, 0, x))) :
    Calls Try.prog 5 #[.agg #[.int .i64 x0, .int .i64 y0, .int .i64 z0, .slice A0 l0.length c0], .string a1, .string a2] w fun e w' => e = .returned (.bool true) ∧ Below w.heap.size w w' := by
  unfold maxLen at w1' w2'
  have hx1 : (X != 0) = true := by simpa using h
  have hx2 : (X == 0) = false := by simpa using h
  obtain rfl : T = ⟨#[]⟩ := HT.out.symm.trans (batP_err HX.out h)
  clear h
  have S1 : s.size ≤ 140737488355328 := by omega
  go_enter Try.func5, Try.ntmps5
  go_wp2_with (first
    | (go_at_call 24; have _q := HB2; refine (parse_zero _ _ _ _ S1 HPz).mono ?_; rintro e w5 ⟨A5, cap5, rfl, hb5⟩; have HB5 := Lib.hid (acc HB2.out hb5); have hz5 := hb5.size)
    | (go_at_call 21; refine (fixed3_any _).mono ?_; rintro e wf ⟨rfl, hbf⟩; have HBF := Lib.hid (acc (acc_alloc HB5.out _) hbf))
    | (go_at_call 10; refine (bound_is _ _ _ _ _ _ _ _ _ (Lib.hid (R0.1.out.below (one_box _))) (by simp) R0.2.2 R0.2.1 HL).mono ?_; rintro e w1 ⟨A', cap', rfl, hown1, hb1⟩; have hz1 : w.heap.size < w1.heap.size := (by have := hb1.size; simp at this; omega); have hB1 : Below w.heap.size w w1 := (one_box _).trans (hb1.mono (by simp)); have hrow1 : w1.heap[w.heap.size]? = some (.cells #[.int .i64 x0, .int .i64 y0, .int .i64 z0, .slice A0 l0.length c0] 26 (0, 0)) := (hb1.block _ (by simp)).trans (heap_alloc_new _ _); have hc1 := cell_of_row w1 w.heap.size 0 _ _ _ hrow1; have hc2 := cell_of_row w1 w.heap.size 1 _ _ _ hrow1; have hc3 := cell_of_row w1 w.heap.size 2 _ _ _ hrow1; have hc4 := cell_of_row w1 w.heap.size 3 _ _ _ hrow1; have hf1 := frozen_of_row w1 w.heap.size 0 _ _ hrow1; have hf2 := frozen_of_row w1 w.heap.size 1 _ _ hrow1; have hf3 := frozen_of_row w1 w.heap.size 2 _ _ hrow1; have hf4 := frozen_of_row w1 w.heap.size 3 _ _ hrow1; have HW1 := Lib.hid (box_set (v0 := .int .i64 x0) (v1 := .int .i64 y0) (v2 := .int .i64 z0) (v3 := .slice A' L.length cap') hrow1); have HO1 := Lib.hid (own_set hown1 (by simp : w.heap.size < _) (.int .i64 x0) (.int .i64 y0) (.int .i64 z0) (.slice A' L.length cap')); have HBW := Lib.hid (below_set hB1 (.int .i64 x0) (.int .i64 y0) (.int .i64 z0) (.slice A' L.length cap')); clear hrow1 hown1)
    | (go_at_call 13; refine (batch_is _ _ _ _ _ _ _ _ _ _ (Lib.hid (Reads.own HO1.out)) (Nat.le_refl _) L20 HM HX HT).mono ?_; rintro e w2 ⟨rfl, hb2⟩; have hr2 := (hb2.block w.heap.size (by simp; omega)).trans HW1.out; have e0 := (cell_of_row w2 w.heap.size 0 _ _ _ hr2).trans rfl; have e1 := (cell_of_row w2 w.heap.size 1 _ _ _ hr2).trans rfl; have e2 := (cell_of_row w2 w.heap.size 2 _ _ _ hr2).trans rfl; have e3 := (cell_of_row w2 w.heap.size 3 _ _ _ hr2).trans rfl; have HR2 := Lib.hid hr2; have HB2 := Lib.hid (acc HBW.out hb2); have RD2 := Lib.hid (((Reads.own HO1.out).below hb2).mono hb2.size); have hzw : w.heap.size < w2.heap.size := (by have := hb2.size; simp at this; omega); clear hr2))
  go_ret
  exact ⟨rfl, HBF.out⟩
theorem walk (x0 y0 z0 : Int) (A0 : Option Addr) (l0 : List R) (c0 : Nat) (w : World) (R0 : IsRecs w A0 l0) (a1 : ByteArray) (w1' : a1.size ≤ maxLen) (a2 : ByteArray) (w2' : a2.size ≤ maxLen) :
    Calls Try.prog 5 #[.agg #[.int .i64 x0, .int .i64 y0, .int .i64 z0, .slice A0 l0.length c0], .string a1, .string a2] w fun e w' => e = .returned (.bool true) ∧ Below w.heap.size w w' := by
  obtain ⟨L, hL⟩ : ∃ L, (l0.take 20).map R.cut = L := ⟨_, rfl⟩
  have L20 : L.length ≤ 20 := by rw [← hL]; exact cutR_len l0
  have HM : Hid (∀ r ∈ L, r.key.size ≤ maxLen ∧ r.val.size ≤ maxLen) := Lib.hid (by rw [← hL]; exact cutR_max l0)
  obtain ⟨X, hX⟩ : ∃ X, allN x0 y0 z0 L = X := ⟨_, rfl⟩
  obtain ⟨T, hT⟩ : ∃ T, batP x0 y0 z0 L = T := ⟨_, rfl⟩
  have T1 : T.size ≤ 10000 := by rw [← hT]; exact batP_size _ _ _ _
  obtain ⟨s, hs⟩ : ∃ s, a1.extract 0 (min (a1.size : Int) 1500).toNat = s := ⟨_, rfl⟩
  obtain ⟨ah, hah⟩ : ∃ ah, a2.extract 0 (min (a2.size : Int) 100).toNat = ah := ⟨_, rfl⟩
  have s1 : s.size ≤ 1500 := by rw [← hs, ByteArray.size_extract]; omega
  have ah1 : ah.size ≤ 100 := by rw [← hah, ByteArray.size_extract]; omega
  obtain ⟨⟨p, e, q, l⟩, to, x, hp⟩ : ∃ b to x, parse s 0 = (b, to, x) := ⟨_, _, _, rfl⟩
  by_cases hx : x = 0
  · subst hx
    by_cases h : X = 0
    · exact walk_aa x0 y0 z0 A0 l0 c0 w R0 a1 w1' a2 w2' L X T L20 T1 HM (Lib.hid hL) (Lib.hid hX) (Lib.hid hT) s ah hs hah s1 ah1 h p e q l to (Lib.hid hp)
    · exact walk_ba x0 y0 z0 A0 l0 c0 w R0 a1 w1' a2 w2' L X T L20 T1 HM (Lib.hid hL) (Lib.hid hX) (Lib.hid hT) s ah hs hah s1 ah1 h p e q l to (Lib.hid hp)
  · obtain ⟨hb, rfl⟩ := parse_err hp hx
    rw [hb] at hp
    by_cases h : X = 0
    · exact walk_ab x0 y0 z0 A0 l0 c0 w R0 a1 w1' a2 w2' L X T L20 T1 HM (Lib.hid hL) (Lib.hid hX) (Lib.hid hT) s ah hs hah s1 ah1 h x (by simpa using hx) (Lib.hid hp)
    · exact walk_bb x0 y0 z0 A0 l0 c0 w R0 a1 w1' a2 w2' L X T L20 T1 HM (Lib.hid hL) (Lib.hid hX) (Lib.hid hT) s ah hs hah s1 ah1 h x (by simpa using hx) (Lib.hid hp)

set_option maxRecDepth 100000 in
theorem lifted (os : Os) (started : os.Started) (H : Type) (enc : TypeId × Value → H) :
    ReturnsInHanded {} Try.checked os 5 .any (Rows.recordBackSpec.pre6 enc Try.prog Try.f5 Rows.recordBackRow.domain false) (Rows.recordBackSpec.post enc Try.prog Try.f5 false true false false) := by
  refine returnsInHanded_of_change (C := Try.checked) own started (by kernel_rfl) Try.func5
    (ChangeSpec.witness6 (enc := enc) (C := Try.checked) false ⟨#[], #[.agg #[.int .i64 0, .int .i64 0, .int .i64 0, .slice none 0 0], .string ByteArray.empty, .string ByteArray.empty], []⟩ 8 (by kernel_rfl) (by kernel_rfl) (by kernel_rfl) (by kernel_rfl)) ?_
  intro W base args ds gs before hval0 hW _ _
  have hval : ∀ (j : Nat) t v, Try.f5.params[j]? = some t → args[j]? = some v → Value.okWide Try.prog W .any base t v := hval0
  have hW' := hW
  obtain ⟨p, q, hA0, hV, rfl, hfz, hnd⟩ := hW
  have hA : DataW.TrodAll enc Try.prog W 0 (fun _ => true) true Try.f5.params.toList args.toList ds p := hA0
  rw [Try.params5] at hA hval
  obtain ⟨v0, vs0, d0, ds0, p0, q0, hargs, rfl, rfl, h0, r0⟩ := trodAll_cons hA
  obtain ⟨v1, vs1, d1, ds1, p1, q1, rfl, rfl, rfl, h1, r1⟩ := trodAll_cons r0
  obtain ⟨v2, vs2, d2, ds2, p2, q2, rfl, rfl, rfl, h2, r2⟩ := trodAll_cons r1
  obtain ⟨rfl, rfl, rfl⟩ := trodAll_nil r2
  obtain rfl : args = #[v0, v1, v2] := by cases args; simp_all
  obtain ⟨rfl, rfl⟩ := trodVars_none hV
  have k0 := h0
  have lt0 : ∀ x ∈ p0, x.block < W.heap.size := by obtain ⟨m, hm⟩ := k0; exact DataW.trod_lt m _ _ _ hm
  have k1 := h1
  have lt1 : ∀ x ∈ p1, x.block < W.heap.size := by obtain ⟨m, hm⟩ := k1; exact DataW.trod_lt m _ _ _ hm
  have k2 := h2
  have lt2 : ∀ x ∈ p2, x.block < W.heap.size := by obtain ⟨m, hm⟩ := k2; exact DataW.trod_lt m _ _ _ hm
  obtain ⟨x0, y0, z0, A0, l0, c0, e0, R0⟩ := L3.open_batch (hval 0 26 v0 rfl rfl) h0
  subst e0
  obtain ⟨a1, e1, _, _, w1⟩ := open_string Try.underlying9 (hval 1 9 v1 rfl rfl) h1
  subst e1
  obtain ⟨a2, e2, _, _, w2⟩ := open_string Try.underlying9 (hval 2 9 v2 rfl rfl) h2
  subst e2
  clear hA0 hval0
  refine (walk x0 y0 z0 A0 l0 c0 W R0 a1 w1 a2 w2).mono fun e W' ⟨he, bel⟩ => ?_
  subst he
  exact ⟨_, rfl, _, _, _, [], _, [], hW', trodAll_mk1 (shut_bool Try.underlying4 _), (trodAll_cons_mk (Below.trod laidOut (by kernel_rfl) (of_decide_eq_true (by kernel_rfl)) k0 bel lt0) (trodAll_cons_mk (Below.trod laidOut (by kernel_rfl) (of_decide_eq_true (by kernel_rfl)) k1 bel lt1) (trodAll_cons_mk (Below.trod laidOut (by kernel_rfl) (of_decide_eq_true (by kernel_rfl)) k2 bel lt2) trodAll_mk0))), rfl, bel.frame _, fun h => by cases h⟩

theorem over : Rows.recordBackRow.holds Try.pinned (OpenSpec.ofChange Rows.recordBackSpec) :=
  OpenClaim.holds_of_wide 5 Try.f5 rfl rfl rfl rfl rfl rfl rfl ⟨rfl, rfl, rfl, rfl, rfl⟩ rfl rfl rfl rfl rfl (by kernel_rfl) Try.func5 (by kernel_rfl)
    (of_decide_eq_true (by kernel_rfl)) (by unfold Func.isWrapper; first | (rw [if_pos (by decide +kernel)]; kernel_rfl) | (rw [if_neg (by decide +kernel)]; exact ⟨rfl, rfl⟩))
    (fun os started H enc _ => lifted os started H enc)

/-- the statement -/
theorem proved : Rows.RecordBackSaid :=
  over
#print axioms proved
end Go.Proofs.Ytinhinghakkfoaa.recordBack
