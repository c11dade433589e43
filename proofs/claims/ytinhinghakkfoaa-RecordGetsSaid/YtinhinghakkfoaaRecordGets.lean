/-
  Proved: the record, and the batch, at any place of any bytes (of at most 1500), or what is wrong, is as the document says; what is told is its owner's; and the fixed calls answer as they must. No condition.
-/
import Derived.Test.YtinhinghakkfoaaRows
import Derived.WalkKit
import Derived.ProofKit
import Derived.OpenShut
import Derived.ShutString
import Derived.ChangeOld
import Derived.Below
import Derived.Test.YtinhinghakkfoaaRecFixed
import Derived.Test.YtinhinghakkfoaaRecOpen
import Derived.Test.YtinhinghakkfoaaRecRget
import Derived.Test.YtinhinghakkfoaaRecRparse
import Derived.Test.YtinhinghakkfoaaRecLaw
import Derived.Deep.QuietTactic
import Derived.BigQuiet
import Derived.Outline
namespace Go.Proofs.Ytinhinghakkfoaa.recordGets
open Go.ChangeShapes Go.WideShapes Go.ChangeAt Go.RowKit
open Go.ChangeMaps (open_string shut_string)
open L3

theorem own : ownKnob Try.prog.godebug = none := by kernel_rfl
theorem laidOut : laidOutB Try.prog = true := by kernel_rfl

theorem acc_alloc {W w : World} (h : Below W.heap.size W w) (o : Obj) : Below W.heap.size W (w.alloc o) := h.alloc h.size _
theorem cell4 {w : World} {B : Nat} {a b c d : Value} {T : TypeId} (h : w.heap[B]? = some (.cells #[a, b, c, d] T (0, 0))) :
    w.cell? ⟨B, 0, none⟩ = some a ∧ w.cell? ⟨B, 1, none⟩ = some b ∧ w.cell? ⟨B, 2, none⟩ = some c ∧ w.cell? ⟨B, 3, none⟩ = some d :=
  ⟨(cell_of_row _ _ 0 _ _ _ h).trans rfl, (cell_of_row _ _ 1 _ _ _ h).trans rfl, (cell_of_row _ _ 2 _ _ _ h).trans rfl, (cell_of_row _ _ 3 _ _ _ h).trans rfl⟩
def PPost (p e q : Int) (l : List R) (to x : Int) (w : World) (e' : Ending) (w' : World) : Prop :=
  ∃ A cap, e' = .returned (.tuple #[.agg #[.int .i64 p, .int .i64 e, .int .i64 q, .slice A l.length cap], .int .i64 to, .int .i64 x]) ∧
    Hid (w'.ownsRow w.heap.size 23 4 (.slice A l.length cap) l.length (rowOf l)) ∧ Below w.heap.size w w'
theorem parse_p (s : ByteArray) (a : Int) (p e q : Nat) (l : List R) (to x : Int) (w : World) (hs : s.size ≤ 140737488355328) (HP : Hid (parse s a = (⟨p, e, q, l⟩, to, x))) :
    Calls Try.prog 24 #[.string s, .int .i64 a] w (PPost p e q l to x w) :=
  (parse_is s a _ to x w hs HP).mono fun _ _ ⟨A, cap, he, ho, hb⟩ => ⟨A, cap, he, Lib.hid ho, hb⟩
theorem rparse_p (s : ByteArray) (a : Int) (p e q : Nat) (l : List R) (to x : Int) (w : World) (hs : s.size ≤ 140737488355328) (HP : Hid (parse s a = (⟨p, e, q, l⟩, to, x))) :
    Calls Try.prog 25 #[.string s, .int .i64 a] w (PPost p e q l to x w) :=
  (rparse_any s a _ to x w hs HP).mono fun _ _ ⟨A, cap, he, ho, hb⟩ => ⟨A, cap, he, Lib.hid ho, hb⟩
/-- what holds while keys are spoilt -/
def Sp (wr wq : World) (Bb : Nat) (p e q : Int) (A : Option Addr) (n cap : Nat) : Prop :=
  Below wr.heap.size wr wq ∧ wr.heap.size ≤ Bb ∧ wq.heap[Bb]? = some (.cells #[.int .i64 p, .int .i64 e, .int .i64 q, .slice A n cap] 26 (0, 0)) ∧
    (0 < n → ∃ g cur, A = some ⟨g, 0, none⟩ ∧ wr.heap.size ≤ g ∧ g < Bb ∧ wq.heap[g]? = some (.cells cur 23 (0, 0)) ∧ n * 4 ≤ cur.size)
theorem sp_start {wr w5 w7 : World} {p e q : Int} {A : Option Addr} {n cap : Nat} {xs : List Value} (ho : w5.ownsRow wr.heap.size 23 4 (.slice A n cap) n xs) (h5 : Below wr.heap.size wr w5) (h7 : Below w5.heap.size w5 w7)
    (hb : w7.heap[w5.heap.size]? = some (.cells #[.int .i64 p, .int .i64 e, .int .i64 q, .slice A n cap] 26 (0, 0))) : Sp wr w7 w5.heap.size p e q A n cap := by
  refine ⟨h5.trans (h7.mono h5.size), h5.size, hb, fun hn => ?_⟩
  rcases ho.2 with ⟨_, e0⟩ | ⟨g, cap', cur, e1, h1, h2, h3, _, h4, _⟩
  · omega
  · injection e1 with e1 e2 e3
    subst e3
    have hg := (Array.getElem?_eq_some_iff.1 h2).1
    exact ⟨g, cur, e1, h1, hg, (h7.block g hg).trans h2, by omega⟩
theorem sp_store {wr wq : World} {Bb : Nat} {p e q : Int} {g n cap i : Nat} (h : Sp wr wq Bb p e q (some ⟨g, 0, none⟩) n cap) (hn : 0 < n) (v : Value) : Sp wr (wq.setCell ⟨g, i, none⟩ v) Bb p e q (some ⟨g, 0, none⟩) n cap := by
  obtain ⟨h1, h2, h3, h4⟩ := h
  obtain ⟨g', cur, e1, g1, g2, g3, g4⟩ := h4 hn
  injection e1 with e1
  injection e1 with e1
  subst e1
  refine ⟨h1.setCell g1 v, h2, ?_, fun _ => ⟨g, _, rfl, g1, g2, heap_setCell_same _ _ _ _ _ v g3, by simpa using g4⟩⟩
  rw [heap_setCell_other _ _ _ _ (by show Bb ≠ g; omega)]
  exact h3
/-- a place that is stored into: what stood below stays -/
theorem below_store {B : Nat} {W w : World} (h : Below B W w) {a : Addr} (ha : B ≤ a.block) (v : Value) : Below B W (w.setCell a v) := h.setCell ha v

set_option maxRecDepth 100000 in
set_option maxHeartbeats 8000000 in
theorem walk (a0 : ByteArray) (w0' : a0.size ≤ maxLen) (at_ : Int) (w1' : (Lit.int .i64 at_).wf = true) (w : World) :
    Calls Try.prog 4 #[.string a0, .int .i64 at_] w fun e w' => e = .returned (.bool true) ∧ Below w.heap.size w w' := by
  unfold maxLen at w0'
  obtain ⟨s, hs⟩ : ∃ s, a0.extract 0 (min (a0.size : Int) 1500).toNat = s := ⟨_, rfl⟩
  have s1 : s.size ≤ 1500 := by rw [← hs, ByteArray.size_extract]; omega
  have S1 : s.size ≤ 140737488355328 := by omega
  obtain ⟨⟨rk, key, tb, val⟩, gto, gx, hg⟩ : ∃ r to x, getR s at_ = (r, to, x) := ⟨_, _, _, rfl⟩
  have HG := Lib.hid hg
  obtain ⟨⟨p, e, q, l⟩, to, x, hp⟩ : ∃ b to x, parse s at_ = (b, to, x) := ⟨_, _, _, rfl⟩
  have HP := Lib.hid hp
  have hl : l.length ≤ 16 := by
    by_cases hx : x = 0
    · subst hx
      obtain ⟨_, _, _, h4, _⟩ := parse_got hp
      obtain ⟨_, _, _, _, h5, _⟩ := allN_ok h4
      exact h5
    · obtain ⟨hb, _⟩ := parse_err hp hx
      injection hb with _ _ _ hb
      rw [hb]
      exact Nat.zero_le _
  clear w1' hg hp
  go_enter Try.func4, Try.ntmps4
  go_wp2_with (first
    | (go_at_call 22; refine (getrec_is _ _ _ _ _ _ S1 HG).mono ?_; rintro e w1 ⟨rfl, hb1⟩; have HB1 := Lib.hid hb1; have hz1 := hb1.size)
    | (go_at_call 23; refine (rgetrec_is _ _ _ _ _ _ S1 HG).mono ?_; rintro e w2 ⟨rfl, hb2⟩; have HB2 := Lib.hid (acc (acc_alloc HB1.out _) hb2); have hr2 := (hb2.block w1.heap.size (by simp)).trans (heap_alloc_new w1 _); obtain ⟨e0, e1, e2, e3⟩ := cell4 hr2; have hz2 : w1.heap.size < w2.heap.size := (by have := hb2.size; simp at this; omega); clear hr2))
  obtain ⟨W3, hW3⟩ : ∃ W3 : World, Hid (Below w.heap.size w W3) ∧ W3 = w2.alloc (.cells #[.bool rk, .string key, .bool tb, .string val] 23) := ⟨_, Lib.hid (acc_alloc HB2.out _), rfl⟩
  obtain ⟨HB3, hW3⟩ := hW3
  rw [← hW3]
  clear hW3 e0 e1 e2 e3 hz1 hz2 hb1 hb2 HB1 HB2
  go_loopw [11] (fun i wr => ∃ k : Nat, k ≤ 2 ∧ i = .int .i64 k ∧ Below W3.heap.size W3 wr) (fun i _ => 2 - (intOf i).toNat)
  case atStart => exact ⟨0, by omega, rfl, Below.refl _ _⟩
  case round =>
    obtain ⟨k, hk, rfl, hbel⟩ := hrel
    obtain ⟨wo, rfl⟩ : ∃ wo : World, wo = wr := ⟨_, rfl⟩
    by_cases hlt : k < 2
    · have kl : (k : Int) < 2 := by omega
      go_wp2_with (first
        | (go_at_call 24; refine (parse_p _ _ _ _ _ _ _ _ _ S1 HP).mono ?_; rintro e w5 ⟨A5, cap5, rfl, HO5, hb5⟩; have HB5 := Lib.hid hb5; have hz5 := hb5.size)
        | (go_at_call 25; refine (rparse_p _ _ _ _ _ _ _ _ _ S1 HP).mono ?_; rintro e w6 ⟨A6, cap6, rfl, HO6, hb6⟩; have HB6 := Lib.hid hb6; have hr6 := (hb6.block w5.heap.size (by simp)).trans (heap_alloc_new w5 _); obtain ⟨e0, e1, e2, e3⟩ := cell4 hr6; have HR6 := Lib.hid hr6; have hz6 : w5.heap.size < w6.heap.size := (by have := hb6.size; simp at this; omega); have RA := Lib.hid ((Reads.own HO5.out).below ((one_box _).trans (hb6.mono (by simp)))); have RB := Lib.hid (Reads.own HO6.out); clear hr6)
        | (go_at_call 20; refine (same_yes _ _ _ _ _ _ _ _ w6.heap.size _ (Lib.hid ((RA.out.mono (Nat.le_of_lt hz6)).below (one_box _))) (Lib.hid (RB.out.below (one_box _))) (by simp) (by unfold maxLen; omega)).mono ?_; rintro e w7 ⟨rfl, hb7⟩; have H67 := Lib.hid ((one_box _).trans (hb7.mono (by simp))); have HB7 := Lib.hid ((((one_box _).trans (HB6.out.mono (by simp))).trans (H67.out.mono (by omega)))); have HR7 := Lib.hid ((H67.out.block w5.heap.size hz6).trans HR6.out); have SP := Lib.hid (sp_start HO5.out HB5.out HB7.out HR7.out); clear e0 e1 e2 e3))
      go_loopw [18] (fun i wq => ∃ m : Nat, m ≤ l.length ∧ i = .int .i64 m ∧ Hid (Sp wo wq w5.heap.size p e q A5 l.length cap5)) (fun i _ => l.length - (intOf i).toNat)
      case atStart => exact ⟨0, by omega, rfl, SP⟩
      case round =>
        obtain ⟨m, hm, rfl, hsp⟩ := hrel
        have f3 := (cell4 hsp.out.2.2.1).2.2.2
        by_cases hlm : m < l.length
        · obtain ⟨g, cur, rfl, g1, g2, g3, g4⟩ := hsp.out.2.2.2 (by omega)
          obtain ⟨u, hu⟩ := cell_in g3 (by omega : m * 4 + 1 < cur.size)
          have hf := frozen_of_row _ _ (m * 4 + 1) _ _ g3
          have ml : (m : Int) < (l.length : Int) := by omega
          have HSP := Lib.hid (sp_store (i := m * 4 + 1) hsp.out (by omega) (.string ⟨#[115, 112, 111, 105, 108, 116]⟩))
          clear g1 g2 g3 g4
          go_wp2_with fail
          go_roundw
          case rel => exact ⟨m + 1, by omega, by go_num, HSP⟩
          case measure => simp [intOf]; omega
        · obtain rfl : m = l.length := by omega
          have HBE := Lib.hid (hbel.trans (hsp.out.1.mono hbel.size))
          go_wp2_with fail
          go_roundw
          case rel => exact ⟨k + 1, by omega, by go_num, HBE.out⟩
          case measure => simp [intOf]; omega
    · obtain rfl : k = 2 := by omega
      rw [show ((2 : Nat) : Int) = 2 from rfl]
      have HBE := Lib.hid (acc HB3.out hbel)
      go_wp2_with (go_at_call 21; refine (fixed3_any _).mono ?_; rintro e wf ⟨rfl, hbf⟩; have HBF := Lib.hid (acc HBE.out hbf))
      go_ret
      exact ⟨rfl, HBF.out⟩

set_option maxRecDepth 100000 in
theorem lifted (os : Os) (started : os.Started) (H : Type) (enc : TypeId × Value → H) :
    ReturnsInHanded {} Try.checked os 4 .any (Rows.recordGetsSpec.pre6 enc Try.prog Try.f4 Rows.recordGetsRow.domain false) (Rows.recordGetsSpec.post enc Try.prog Try.f4 false true false false) := by
  refine returnsInHanded_of_change (C := Try.checked) own started (by kernel_rfl) Try.func4
    (ChangeSpec.witness6 (enc := enc) (C := Try.checked) false ⟨#[], #[.string ByteArray.empty, .int .i64 0], []⟩ 8 (by kernel_rfl) (by kernel_rfl) (by kernel_rfl) (by kernel_rfl)) ?_
  intro W base args ds gs before hval0 hW _ _
  have hval : ∀ (j : Nat) t v, Try.f4.params[j]? = some t → args[j]? = some v → Value.okWide Try.prog W .any base t v := hval0
  have hW' := hW
  obtain ⟨p, q, hA0, hV, rfl, hfz, hnd⟩ := hW
  have hA : DataW.TrodAll enc Try.prog W 0 (fun _ => true) true Try.f4.params.toList args.toList ds p := hA0
  rw [Try.params4] at hA hval
  obtain ⟨v0, vs0, d0, ds0, p0, q0, hargs, rfl, rfl, h0, r0⟩ := trodAll_cons hA
  obtain ⟨v1, vs1, d1, ds1, p1, q1, rfl, rfl, rfl, h1, r1⟩ := trodAll_cons r0
  obtain ⟨rfl, rfl, rfl⟩ := trodAll_nil r1
  obtain rfl : args = #[v0, v1] := by cases args; simp_all
  obtain ⟨rfl, rfl⟩ := trodVars_none hV
  have k0 := h0
  have lt0 : ∀ x ∈ p0, x.block < W.heap.size := by obtain ⟨m, hm⟩ := k0; exact DataW.trod_lt m _ _ _ hm
  have k1 := h1
  have lt1 : ∀ x ∈ p1, x.block < W.heap.size := by obtain ⟨m, hm⟩ := k1; exact DataW.trod_lt m _ _ _ hm
  obtain ⟨a0, e0, _, _, w0⟩ := open_string Try.underlying9 (hval 0 9 v0 rfl rfl) h0
  subst e0
  obtain ⟨a1, e1, _, _, w1⟩ := open_int Try.underlying3 (hval 1 3 v1 rfl rfl) h1
  subst e1
  clear hA0 hval0
  refine (walk a0 w0 a1 w1 W).mono fun e W' ⟨he, bel⟩ => ?_
  subst he
  exact ⟨_, rfl, _, _, _, [], _, [], hW', trodAll_mk1 (shut_bool Try.underlying4 _), (trodAll_cons_mk (Below.trod laidOut (by kernel_rfl) (of_decide_eq_true (by kernel_rfl)) k0 bel lt0) (trodAll_cons_mk (Below.trod laidOut (by kernel_rfl) (of_decide_eq_true (by kernel_rfl)) k1 bel lt1) trodAll_mk0)), rfl, bel.frame _, fun h => by cases h⟩

theorem over : Rows.recordGetsRow.holds Try.pinned (OpenSpec.ofChange Rows.recordGetsSpec) :=
  OpenClaim.holds_of_wide 4 Try.f4 rfl rfl rfl rfl rfl rfl rfl ⟨rfl, rfl, rfl, rfl, rfl⟩ rfl rfl rfl rfl rfl (by kernel_rfl) Try.func4 (by kernel_rfl)
    (of_decide_eq_true (by kernel_rfl)) (by unfold Func.isWrapper; first | (rw [if_pos (by decide +kernel)]; kernel_rfl) | (rw [if_neg (by decide +kernel)]; exact ⟨rfl, rfl⟩))
    (fun os started H enc _ => lifted os started H enc)

/-- the statement -/
theorem proved : Rows.RecordGetsSaid :=
  over
#print axioms proved
end Go.Proofs.Ytinhinghakkfoaa.recordGets
