/-
  Contracts: whether a number, topics, a seat may be.
-/
import Derived.Test.YtidgifnnkaheeaaGpMem
import Derived.Test.YtidgifnnkaheeaaMReqNames
import Derived.Test.YtidgifnnkaheeaaTpSmall
import Derived.Laws.Cover1
namespace Go.Proofs.Ytidgifnnkaheeaa.L11
open Go.RowKit
open Go.Maps
open L3 L4 L9 L10

set_option maxRecDepth 100000 in
theorem within_is (n : Int) (v : Bool) (w : World) (HV : Hid (wB n = v)) :
    Calls Try.prog 55 #[.int .i64 n] w fun e w' => e = .returned (.bool v) ∧ w' = w := by
  have hv := HV.out
  unfold wB topN at hv
  by_cases h0 : 0 ≤ n
  · have d0 : decide (0 ≤ n) = true := decide_eq_true h0
    rw [d0, Bool.true_and] at hv
    go_enter Try.func55, Try.ntmps55
    go_wp2_with fail
    go_ret
    exact ⟨rfl, rfl⟩
  · have d0 : decide (0 ≤ n) = false := decide_eq_false h0
    rw [d0, Bool.false_and] at hv
    subst hv
    have d1 : ¬ 0 ≤ n := h0
    go_enter Try.func55, Try.ntmps55
    go_wp2_with fail
    go_ret
    exact ⟨rfl, rfl⟩
set_option maxRecDepth 100000 in
set_option maxHeartbeats 4000000 in
theorem wants_is (A : Option Addr) (l : List ByteArray) (cap B : Nat) (v : Bool) (w : World) (hT : Hid (ReadsT w B A l)) (hB : B ≤ w.heap.size) (hl : Hid (l.length ≤ maxLen)) (hs : Hid (∀ s ∈ l, s.size ≤ maxLen)) (HV : Hid (namesB l = v)) :
    Calls Try.prog 65 #[.slice A l.length cap] w fun e w' => e = .returned (.bool v) ∧ Below w.heap.size w w' := by
  have hl1 := hl.out
  unfold maxLen at hl1
  by_cases hn : 1 ≤ l.length ∧ l.length ≤ 8
  · have n1 : ¬ (l.length : Int) < 1 := by omega
    have n4 : ¬ l.length < 1 := by omega
    have n5 : ¬ (8 : Int) < (l.length : Int) := by omega
    have n2 : (l.length : Int) ≤ 8 := by omega
    have HN := Lib.hid hn
    clear hn hl1
    go_enter Try.func65, Try.ntmps65
    go_wp2_with fail
    go_loopw [15] (fun i wr => ∃ k : Nat, k ≤ l.length ∧ i = .int .i64 k ∧ Hid (∀ j < k, L4.okAt l j = true) ∧ Below w.heap.size w wr) (fun i _ => l.length - (intOf i).toNat)
    case atStart => exact ⟨0, by omega, rfl, Lib.hid (fun j hj => absurd hj (by omega)), Below.refl _ _⟩
    case round =>
      obtain ⟨k, hk, rfl, hall, hbel⟩ := hrel
      by_cases hlt : k < l.length
      · obtain ⟨g, rfl, hg, hcells⟩ := hT.out (by omega)
        obtain ⟨st, hst⟩ : ∃ st, l[k]? = some st := ⟨l[k], List.getElem?_eq_getElem hlt⟩
        have Z1 := Lib.hid (hs.out _ (List.mem_of_getElem? hst))
        have d0 := (hbel.cell (p := ⟨g, k, none⟩) (by show g < _; omega)).trans (hcells k st hst)
        have k0 : (0 : Int) ≤ (k : Int) := by omega
        have kl : (k : Int) < (l.length : Int) := by omega
        obtain ⟨a, ha⟩ : ∃ a, nameB st = a := ⟨_, rfl⟩
        have HA := Lib.hid ha
        have HST := Lib.hid hst
        have HGT := Lib.hid hcells
        clear hst hcells ha
        cases a with
        | true =>
          by_cases hk0 : k = 0
          · subst hk0
            have HNX : Hid (∀ j < 0 + 1, L4.okAt l j = true) := Lib.hid (fun j hj => by
              obtain rfl : j = 0 := by omega
              unfold L4.okAt
              rw [getD_at HST.out, HA.out]
              rfl)
            have hq : decide ((0 : Int) < 0) = false := rfl
            rw [show ((0 : Nat) : Int) = 0 from rfl]
            go_wp2_with (go_at_call 64; refine (name_w _ Z1 HA hbel (by have := hbel.size; omega)).mono ?_; rintro e w1 ⟨rfl, hb1⟩)
            go_roundw
            case rel => exact ⟨0 + 1, by omega, by go_num, HNX, hb1⟩
            case measure => simp [intOf]; omega
          · obtain ⟨j, hj⟩ : ∃ j, k = j + 1 := ⟨k - 1, by omega⟩
            obtain ⟨pr, hpr⟩ : ∃ pr, l[j]? = some pr := ⟨l[j], List.getElem?_eq_getElem (by omega)⟩
            have HC1 := Lib.hid (HGT.out j pr hpr)
            obtain ⟨b, hb⟩ : ∃ b, lessB pr st = b := ⟨_, rfl⟩
            have HBL := Lib.hid hb
            have hok : Hid (L4.okAt l k = b) := Lib.hid (by
              unfold L4.okAt
              rw [getD_at HST.out, HA.out, show k - 1 = j by omega, getD_at hpr, hb, decide_eq_false hk0]
              simp)
            have i1 : IntKind.i64.wrap ((k : Int) - 1) = (k : Int) - 1 := by rw [IntKind.wrap_i64]; omega
            have j0 : (0 : Int) ≤ (k : Int) - 1 := by omega
            have j1 : (k : Int) - 1 < (l.length : Int) := by omega
            have j2 : (0 : Int) < (k : Int) := by omega
            have j4 : 0 < k := by omega
            have j5 : (1 : Int) ≤ (k : Int) := by omega
            have j6 : 1 ≤ k := by omega
            have j7 : (k : Int) ≤ (l.length : Int) := by omega
            have j8 : k ≤ l.length := by omega
            have j3 : ((k : Int) - 1).toNat = j := by omega
            have hleq := leq_less st pr
            rw [hb] at hleq
            have HL := Lib.hid hleq
            clear hleq
            clear hpr hb hk0 hj
            cases b with
            | true =>
              have HNX : Hid (∀ i < k + 1, L4.okAt l i = true) := Lib.hid (fun i hi => by
                rcases Nat.lt_or_ge i k with h | h
                · exact hall.out i h
                · obtain rfl : i = k := by omega
                  exact hok.out)
              have q1 : Op.bytesLess st.toList pr.toList = false := (Bool.or_eq_false_iff.1 HL.out).1
              have q2 : (st.toList == pr.toList) = false := (Bool.or_eq_false_iff.1 HL.out).2
              go_wp2_with (go_at_call 64; refine (name_w _ Z1 HA hbel (by have := hbel.size; omega)).mono ?_; rintro e w1 ⟨rfl, hb1⟩; have d1 := (hb1.cell (p := ⟨g, j, none⟩) (by show g < _; omega)).trans HC1.out)
              go_roundw
              case rel => exact ⟨k + 1, by omega, by go_num, HNX, hb1⟩
              case measure => simp [intOf]; omega
            | false =>
              have HD : Hid (v = false) := Lib.hid (by rw [← HV.out]; exact names_no hlt hok.out)
              have qq : Op.bytesLess st.toList pr.toList = true ∨ (Op.bytesLess st.toList pr.toList = false ∧ (st.toList == pr.toList) = true) := by
                have := HL.out
                cases e : Op.bytesLess st.toList pr.toList with
                | true => exact .inl rfl
                | false => rw [e] at this; exact .inr ⟨rfl, this⟩
              rcases qq with q1 | ⟨q1, q2⟩
              all_goals
                go_wp2_with (go_at_call 64; refine (name_w _ Z1 HA hbel (by have := hbel.size; omega)).mono ?_; rintro e w1 ⟨rfl, hb1⟩; have d1 := (hb1.cell (p := ⟨g, j, none⟩) (by show g < _; omega)).trans HC1.out)
                go_ret
                exact ⟨congrArg Ending.returned (congrArg Value.bool HD.out.symm), hb1⟩
        | false =>
          have HD : Hid (v = false) := Lib.hid (by
            rw [← HV.out]
            refine names_no hlt ?_
            unfold L4.okAt
            rw [getD_at HST.out, HA.out]
            rfl)
          go_wp2_with (go_at_call 64; refine (name_w _ Z1 HA hbel (by have := hbel.size; omega)).mono ?_; rintro e w1 ⟨rfl, hb1⟩)
          go_ret
          exact ⟨congrArg Ending.returned (congrArg Value.bool HD.out.symm), hb1⟩
      · obtain rfl : k = l.length := by omega
        have HD : Hid (v = true) := Lib.hid (by rw [← HV.out]; exact names_yes HN.out hall.out)
        go_wp2_with fail
        go_ret
        exact ⟨congrArg Ending.returned (congrArg Value.bool HD.out.symm), hbel⟩
  · have HD : Hid (v = false) := Lib.hid (by rw [← HV.out]; unfold namesB; rw [decide_eq_false hn, Bool.false_and])
    have hc : ((l.length : Int) < 1 ∧ l.length < 1) ∨ (¬ (l.length : Int) < 1 ∧ ¬ l.length < 1 ∧ 8 < (l.length : Int)) := by
      by_cases h : l.length < 1
      · exact .inl ⟨by omega, h⟩
      · exact .inr ⟨by omega, h, by omega⟩
    clear hn hl1
    rcases hc with ⟨c0, c1⟩ | ⟨c0, c1, c2⟩
    all_goals
      go_enter Try.func65, Try.ntmps65
      go_wp2_with fail
      go_ret
      exact ⟨congrArg Ending.returned (congrArg Value.bool HD.out.symm), Below.refl _ _⟩

theorem box_se {w : World} {a : ByteArray} {A : Option Addr} {n c : Nat} {t e : Int} : let W := w.alloc (.cells #[.string a, .slice A n c, .int .i64 t, .int .i64 e] 47)
    (W.cell? ⟨w.heap.size, 0, none⟩ = some (.string a) ∧ W.cell? ⟨w.heap.size, 1, none⟩ = some (.slice A n c) ∧ W.cell? ⟨w.heap.size, 2, none⟩ = some (.int .i64 t) ∧ W.cell? ⟨w.heap.size, 3, none⟩ = some (.int .i64 e)) ∧ Below w.heap.size w W := by
  intro W
  have hr := heap_alloc_new w (.cells #[.string a, .slice A n c, .int .i64 t, .int .i64 e] 47)
  exact ⟨⟨(cell_of_row _ _ 0 _ _ _ hr).trans rfl, (cell_of_row _ _ 1 _ _ _ hr).trans rfl, (cell_of_row _ _ 2 _ _ _ hr).trans rfl, (cell_of_row _ _ 3 _ _ _ hr).trans rfl⟩, one_box' _⟩
theorem cell_b {w w' : World} (hb : Below w.heap.size w w') {a : Addr} {v : Value} (h : w.cell? a = some v) : w'.cell? a = some v := (hb.cell (World.block_lt_of_cell? _ _ h)).trans h
theorem below4 {w w' : World} (hb : Below w.heap.size w w') {a0 a1 a2 a3 : Addr} {v0 v1 v2 v3 : Value} (h : w.cell? a0 = some v0 ∧ w.cell? a1 = some v1 ∧ w.cell? a2 = some v2 ∧ w.cell? a3 = some v3) : w'.cell? a0 = some v0 ∧ w'.cell? a1 = some v1 ∧ w'.cell? a2 = some v2 ∧ w'.cell? a3 = some v3 :=
  ⟨cell_b hb h.1, cell_b hb h.2.1, cell_b hb h.2.2.1, cell_b hb h.2.2.2⟩
theorem wants_n (A : Option Addr) (l : List ByteArray) (n cap : Nat) (v : Bool) (w : World) (hn : Hid (l.length = n)) (hT : Hid (RowS w A l)) (hl : Hid (l.length ≤ maxLen)) (hs : Hid (∀ s ∈ l, s.size ≤ maxLen)) (HV : Hid (namesB l = v)) :
    Calls Try.prog 65 #[.slice A n cap] w fun e w' => e = .returned (.bool v) ∧ Below w.heap.size w w' := by
  rw [← hn.out]
  exact wants_is A l cap w.heap.size v w (Lib.hid hT.out.reads) (Nat.le_refl _) hl hs HV
/-- a seat's texts are no longer than texts may be -/
def SeSz (s : Se) : Prop := s.m.name.size ≤ maxLen ∧ s.m.ts.length ≤ maxLen ∧ ∀ x ∈ s.m.ts, x.size ≤ maxLen
set_option maxRecDepth 100000 in
set_option maxHeartbeats 4000000 in
theorem fits_is (s : Se) (a : ByteArray) (A : Option Addr) (n c : Nat) (t e : Int) (v : Bool) (w : World) (HS : Hid (s.m.name = a ∧ s.m.ts.length = n ∧ s.tm = t ∧ s.sn = e)) (hT : Hid (RowS w A s.m.ts)) (hz : Hid (SeSz s)) (HV : Hid (mayS s = v)) :
    Calls Try.prog 47 #[.agg #[.string a, .slice A n c, .int .i64 t, .int .i64 e]] w fun e w' => e = .returned (.bool v) ∧ Below w.heap.size w w' := by
  obtain ⟨h1, h2, h3, h4⟩ := HS.out
  subst h1; subst h3; subst h4
  have HN := Lib.hid h2
  have HZ0 := Lib.hid hz.out.1
  have HZ1 := Lib.hid hz.out.2.1
  have HZ2 := Lib.hid hz.out.2.2
  obtain ⟨p1, e1⟩ : ∃ p, nameB s.m.name = p := ⟨_, rfl⟩
  obtain ⟨p2, e2⟩ : ∃ p, namesB s.m.ts = p := ⟨_, rfl⟩
  obtain ⟨p3, e3⟩ : ∃ p, decide (0 < s.tm) = p := ⟨_, rfl⟩
  obtain ⟨p4, e4⟩ : ∃ p, wB s.tm = p := ⟨_, rfl⟩
  obtain ⟨p5, e5⟩ : ∃ p, wB s.sn = p := ⟨_, rfl⟩
  have HVV : Hid ((p1 && p2 && p3 && p4 && p5) = v) := Lib.hid (by rw [← HV.out]; unfold mayS; rw [e1, e2, e3, e4, e5])
  have E1 := Lib.hid e1
  have E2 := Lib.hid e2
  have E4 := Lib.hid e4
  have E5 := Lib.hid e5
  obtain ⟨⟨b0, b1, b2, b3⟩, hb⟩ := box_se (w := w) (a := s.m.name) (A := A) (n := n) (c := c) (t := s.tm) (e := s.sn)
  have hlt : w.heap.size < (w.alloc (.cells #[.string s.m.name, .slice A n c, .int .i64 s.tm, .int .i64 s.sn] 47)).heap.size := by simp
  obtain ⟨W, hW⟩ : ∃ W, w.alloc (.cells #[.string s.m.name, .slice A n c, .int .i64 s.tm, .int .i64 s.sn] 47) = W := ⟨_, rfl⟩
  obtain ⟨nm, hnm⟩ : ∃ nm, s.m.name = nm := ⟨_, rfl⟩
  obtain ⟨tm, htm⟩ : ∃ nm, s.tm = nm := ⟨_, rfl⟩
  obtain ⟨sn, hsn⟩ : ∃ nm, s.sn = nm := ⟨_, rfl⟩
  rw [hnm, htm, hsn] at hW b0 b1 b2 b3 hb hlt
  rw [hnm] at E1 HZ0
  rw [htm] at e3 E4
  rw [hsn] at E5
  rw [hW] at b0 b1 b2 b3 hb hlt
  rw [hnm, htm, hsn]
  have HB := Lib.hid hb
  have HW := Lib.hid hW
  clear h2 e1 e2 e4 e5 hb hW hnm htm hsn HV HS hz
  have bb := And.intro b0 (And.intro b1 (And.intro b2 b3))
  have BB := Lib.hid bb
  clear bb b1 b2 b3 hlt
  cases p1 <;> cases p2 <;> cases p3 <;> cases p4
  all_goals
    go_enter Try.func47, Try.ntmps47
    go_wp2_with (first
      | (rw [HW.out])
      | (go_at_call 64; refine (name_is nm _ _ HZ0 E1).mono ?_; rintro e w1 ⟨rfl, hb1⟩; obtain ⟨-, c1, c2, c3⟩ := below4 hb1 BB.out; have HB1 := Lib.hid hb1; clear hb1)
      | (go_at_call 65; refine (wants_n A s.m.ts n c _ _ HN (Lib.hid (hT.out.kept (KpS.below (HB.out.trans (HB1.out.mono HB.out.size))))) HZ1 HZ2 E2).mono ?_; rintro e w2 ⟨rfl, hb2⟩; have d2 := cell_b hb2 c2; have d3 := cell_b hb2 c3; have HB2 := Lib.hid hb2; clear hb2)
      | (go_at_call 55; first | (refine (within_is tm _ _ E4).mono ?_; rintro e w3 ⟨rfl, hw3⟩; obtain rfl := hw3.symm) | (refine (within_is sn _ _ E5).mono ?_; rintro e w4 ⟨rfl, hw4⟩; obtain rfl := hw4.symm)))
    go_ret
    refine ⟨congrArg Ending.returned (congrArg Value.bool (by have := HVV.out; simpa using this)), ?_⟩
    first
      | exact HB.out.trans (HB1.out.mono HB.out.size)
      | exact HB.out.trans ((HB1.out.trans (HB2.out.mono HB1.out.size)).mono HB.out.size)
end Go.Proofs.Ytidgifnnkaheeaa.L11
