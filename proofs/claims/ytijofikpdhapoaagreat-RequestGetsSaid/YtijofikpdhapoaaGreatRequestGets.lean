/-
  For every text: the command that it holds, or that it holds none, is as the document says; what was told is the caller's own.
-/
import Derived.Test.YtijofikpdhapoaaGreatRows
import Derived.WalkKit
import Derived.ProofKit
import Derived.OpenShut
import Derived.ShutString
import Derived.ChangeOld
import Derived.Below
import Derived.Deep.Cut
import Derived.Test.YtijofikpdhapoaaGreatReqGetD
import Derived.Test.YtijofikpdhapoaaGreatReqFixed
import Derived.LoopTactic
import Derived.IntWalk
namespace Go.Proofs.YtijofikpdhapoaaGreat.requestGets
open Go.ChangeShapes Go.WideShapes Go.ChangeAt Go.RowKit Go.Deep
open Go.ChangeMaps (open_string shut_string)
open L3 L4

theorem own : ownKnob Tryz.prog.godebug = none := by kernel_rfl
theorem laidOut : laidOutB Tryz.prog = true := by kernel_rfl

/-- a row that is its owner's -/
def SHx (T : TypeId) (m : Nat) (w : World) (B : Nat) (A : Option Addr) (n : Nat) : Prop := 0 < n → ∃ g cs, A = some ⟨g, 0, none⟩ ∧ B ≤ g ∧ w.heap[g]? = some (Obj.cells cs T (0, 0)) ∧ n * m ≤ cs.size
theorem shx_own {T : TypeId} {m : Nat} {w : World} {base c n : Nat} {A : Option Addr} {xs : List Value} (h : w.ownsRow base T m (.slice A n c) n xs) : SHx T m w base A n := fun h0 => by
  rcases h.2 with ⟨e1, _⟩ | ⟨b, cap, cur, e1, h1, hh, h2, _, h4, _⟩
  · injection e1 with _ e _; omega
  · injection e1 with e _ _
    exact ⟨b, cur, e, h1, hh, by rw [h4]; exact Nat.mul_le_mul_right m h2⟩
theorem SHx.keep {T : TypeId} {m : Nat} {w w' : World} {B n : Nat} {A : Option Addr} (h : SHx T m w B A n) (hk : ∀ (k : Nat) (cs : Array Value), w.heap[k]? = some (Obj.cells cs T (0, 0)) → w'.heap[k]? = w.heap[k]?) : SHx T m w' B A n := fun h0 => by
  obtain ⟨g, cs, e, h1, h2, h3⟩ := h h0
  exact ⟨g, cs, e, h1, (hk g cs h2).trans h2, h3⟩
theorem SHx.set {T : TypeId} {m : Nat} {w : World} {B g n : Nat} (h : SHx T m w B (some ⟨g, 0, none⟩) n) (i : Nat) (v : Value) : SHx T m (w.setCell ⟨g, i, none⟩ v) B (some ⟨g, 0, none⟩) n := fun h0 => by
  obtain ⟨g', cs, e, h1, h2, h3⟩ := h h0
  injection e with e; injection e with e; subst e
  exact ⟨g, _, rfl, h1, heap_setCell_same _ _ _ _ _ _ h2, by rw [Array.size_setIfInBounds]; exact h3⟩
theorem SHx.at {T : TypeId} {m : Nat} {w : World} {B n i : Nat} {A : Option Addr} (h : SHx T m w B A n) (hi : i < n) : ∃ g cs, A = some ⟨g, 0, none⟩ ∧ B ≤ g ∧ w.heap[g]? = some (Obj.cells cs T (0, 0)) ∧ n * m ≤ cs.size := h (by omega)
/-- what the document told: its box, and its rows -/
structure Rg (w : World) (G : Nat) (X : O) (RA TA : Option Addr) (rc tc : Nat) (W : World) : Prop where
  row : W.heap[G]? = some (Obj.cells (opC X RA TA rc tc) 29 (0, 0))
  rr : W.ownsRow w.heap.size 35 4 (.slice RA X.recs.length rc) X.recs.length (rowOf X.recs)
  tt : W.ownsRow w.heap.size 9 1 (.slice TA X.tops.length tc) X.tops.length (texts X.tops)
  b : Below w.heap.size w W
theorem Rg.below {w W W' : World} {G rc tc : Nat} {X : O} {RA TA : Option Addr} (h : Rg w G X RA TA rc tc W) (hb : Below W.heap.size W W') : Rg w G X RA TA rc tc W' :=
  ⟨(hb.block _ (at_lt h.row)).trans h.row, own_below h.rr hb, own_below h.tt hb, h.b.trans (hb.mono h.b.size)⟩
theorem rg_start {w w1 : World} {X : O} {RA TA : Option Addr} {rc tc : Nat} (r1 : w1.ownsRow w.heap.size 35 4 (.slice RA X.recs.length rc) X.recs.length (rowOf X.recs)) (r2 : w1.ownsRow w.heap.size 9 1 (.slice TA X.tops.length tc) X.tops.length (texts X.tops)) (b : Below w.heap.size w w1) :
    Rg w w1.heap.size X RA TA rc tc (w1.alloc (Obj.cells #[.int .i64 X.kind, .string X.topic, .int .i64 X.pn, .int .i64 X.n, .int .i64 X.off, .int .i64 X.bp, .int .i64 X.be, .int .i64 X.bq, .slice RA X.recs.length rc, .string X.group, .string X.member, .int .i64 X.gen, .bool X.robin, .slice TA X.tops.length tc] 29)) :=
  ⟨heap_alloc_new w1 _, own_below r1 (one_box _), own_below r2 (one_box _), b.alloc b.size _⟩
/-- what the program told, while it is spoilt -/
structure Sp (w : World) (H : Nat) (X : O) (RA TA : Option Addr) (rc tc : Nat) (W : World) : Prop where
  row : W.heap[H]? = some (Obj.cells (opC X RA TA rc tc) 29 (0, 0))
  st : SHx 9 1 W w.heap.size TA X.tops.length
  sr : SHx 35 4 W w.heap.size RA X.recs.length
  b : Below w.heap.size w W
section
variable {w W W' : World} {H rc tc g i : Nat} {X : O} {RA TA : Option Addr}
theorem Rg.sp (h : Rg w H X RA TA rc tc W) : Sp w H X RA TA rc tc W := ⟨h.row, shx_own h.tt, shx_own h.rr, h.b⟩
theorem Sp.setT (h : Sp w H X RA (some ⟨g, 0, none⟩) rc tc W) (hi : i < X.tops.length) (v : Value) : Sp w H X RA (some ⟨g, 0, none⟩) rc tc (W.setCell ⟨g, i, none⟩ v) := by
  obtain ⟨g', cs, e, h1, h2, h3⟩ := h.st.at hi
  injection e with e; injection e with e; subst e
  have hne : ∀ (k : Nat) (cs' : Array Value) (T : TypeId), W.heap[k]? = some (Obj.cells cs' T (0, 0)) → T ≠ 9 → k ≠ g := fun k cs' T hk hT e => by
    rw [e, h2] at hk; injection hk with hk; injection hk with _ hk; exact hT hk.symm
  exact ⟨(Below.heap_setCell _ _ _ _ (hne _ _ _ h.row (by decide))).trans h.row, h.st.set i v, h.sr.keep (fun k cs' hk => Below.heap_setCell _ _ _ _ (hne _ _ _ hk (by decide))), h.b.setCell (by simpa using h1) _⟩
theorem Sp.setR (h : Sp w H X (some ⟨g, 0, none⟩) TA rc tc W) (hi : i < X.recs.length) (j : Nat) (v : Value) : Sp w H X (some ⟨g, 0, none⟩) TA rc tc (W.setCell ⟨g, j, none⟩ v) := by
  obtain ⟨g', cs, e, h1, h2, h3⟩ := h.sr.at hi
  injection e with e; injection e with e; subst e
  have hne : ∀ (k : Nat) (cs' : Array Value) (T : TypeId), W.heap[k]? = some (Obj.cells cs' T (0, 0)) → T ≠ 35 → k ≠ g := fun k cs' T hk hT e => by
    rw [e, h2] at hk; injection hk with hk; injection hk with _ hk; exact hT hk.symm
  exact ⟨(Below.heap_setCell _ _ _ _ (hne _ _ _ h.row (by decide))).trans h.row, h.st.keep (fun k cs' hk => Below.heap_setCell _ _ _ _ (hne _ _ _ hk (by decide))), h.sr.set j v, h.b.setCell (by simpa using h1) _⟩
theorem Sp.below (h : Sp w H X RA TA rc tc W) (hb : Below W.heap.size W W') : Sp w H X RA TA rc tc W' :=
  ⟨(hb.block _ (at_lt h.row)).trans h.row, h.st.keep (fun _ _ hk => hb.block _ (at_lt hk)), h.sr.keep (fun _ _ hk => hb.block _ (at_lt hk)), h.b.trans (hb.mono h.b.size)⟩
end

set_option maxRecDepth 100000 in
set_option maxHeartbeats 16000000 in
theorem walk (w : World) (a0 : ByteArray) (z0 : a0.size ≤ maxLen) :
    Calls Tryz.prog 3 #[.string a0] w fun e w' => e = .returned (.bool true) ∧ Below w.heap.size w w' := by
  unfold maxLen at z0
  obtain ⟨s, hs⟩ : ∃ s, a0.extract 0 (min (a0.size : Int) 1500).toNat = s := ⟨_, rfl⟩
  have hsz : s.size ≤ 140737488355328 := by
    have h : (a0.extract 0 (min (a0.size : Int) 1500).toNat).size ≤ 1500 := cutS_size a0 1500
    rw [hs] at h
    omega
  obtain ⟨X, E, hX⟩ := GetU.ex s
  have HX := Lib.hid hX
  have HSM := Lib.hid hX.small
  have hee : (E != E) = false := by simp
  have ht9 : X.tops.length ≤ 9 := hX.small.l
  have hr16 : X.recs.length ≤ 16 := hX.small.r
  clear hX
  go_enter Tryz.func3, Tryz.ntmps3
  go_upto_region 3 with (go_at_call 4; refine (rget_u s X E _ hsz HX).mono ?_; rintro e w1 ⟨RA, TA, rc, tc, rfl, r1, r2, r3⟩; have RG := Lib.hid (rg_start r1 r2 r3); clear r1 r2 r3)
  obtain ⟨G, hG⟩ : ∃ G, w1.heap.size = G := ⟨_, rfl⟩
  obtain ⟨W1, hW1⟩ : ∃ W1, w1.alloc (Obj.cells #[.int .i64 X.kind, .string X.topic, .int .i64 X.pn, .int .i64 X.n, .int .i64 X.off, .int .i64 X.bp, .int .i64 X.be, .int .i64 X.bq, .slice RA X.recs.length rc, .string X.group, .string X.member, .int .i64 X.gen, .bool X.robin, .slice TA X.tops.length tc] 29) = W1 := ⟨_, rfl⟩
  rw [hW1, hG] at RG
  rw [hW1, hG]
  clear hW1 hG hs
  go_wp2_with fail
  go_loopw [5, 6, 7, 8, 9] (fun t _ _ _ _ wr => ∃ k : Nat, k ≤ 2 ∧ t = .int .i64 k ∧ Hid (Rg w G X RA TA rc tc wr)) (fun t _ _ _ _ _ => 2 - (intOf t).toNat)
  case atStart => exact ⟨0, by omega, rfl, RG⟩
  case round =>
    clear RG
    obtain ⟨k, hk, rfl, RG⟩ := hrel
    rename World => wo
    by_cases h2 : k < 2
    · have h2' : (k : Int) < 2 := by omega
      go_upto_region 7 with (go_at_call 5; refine (get_u s X E _ hsz HX).mono ?_; rintro e w3 ⟨RA2, TA2, rc2, tc2, rfl, r1, r2, r3⟩; have R2 := Lib.hid (rg_start r1 r2 r3); have RG3 := Lib.hid (RG.out.below (r3.alloc r3.size _ : Below wo.heap.size wo (w3.alloc (Obj.cells #[.int .i64 X.kind, .string X.topic, .int .i64 X.pn, .int .i64 X.n, .int .i64 X.off, .int .i64 X.bp, .int .i64 X.be, .int .i64 X.bq, .slice RA2 X.recs.length rc2, .string X.group, .string X.member, .int .i64 X.gen, .bool X.robin, .slice TA2 X.tops.length tc2] 29)))); clear r1 r2 r3)
      obtain ⟨H, hH⟩ : ∃ H, w3.heap.size = H := ⟨_, rfl⟩
      obtain ⟨W3, hW3⟩ : ∃ W3, w3.alloc (Obj.cells #[.int .i64 X.kind, .string X.topic, .int .i64 X.pn, .int .i64 X.n, .int .i64 X.off, .int .i64 X.bp, .int .i64 X.be, .int .i64 X.bq, .slice RA2 X.recs.length rc2, .string X.group, .string X.member, .int .i64 X.gen, .bool X.robin, .slice TA2 X.tops.length tc2] 29) = W3 := ⟨_, rfl⟩
      rw [hW3, hH] at R2
      rw [hW3] at RG3
      rw [hW3, hH]
      clear hW3 hH
      have x0 := row_of (v := .int .i64 X.kind) RG3.out.row (j := 0) rfl
      have x1 := row_of (v := .string X.topic) RG3.out.row (j := 1) rfl
      have x2 := row_of (v := .int .i64 X.pn) RG3.out.row (j := 2) rfl
      have x3 := row_of (v := .int .i64 X.n) RG3.out.row (j := 3) rfl
      have x4 := row_of (v := .int .i64 X.off) RG3.out.row (j := 4) rfl
      have x5 := row_of (v := .int .i64 X.bp) RG3.out.row (j := 5) rfl
      have x6 := row_of (v := .int .i64 X.be) RG3.out.row (j := 6) rfl
      have x7 := row_of (v := .int .i64 X.bq) RG3.out.row (j := 7) rfl
      have x8 := row_of (v := .slice RA X.recs.length rc) RG3.out.row (j := 8) rfl
      have x9 := row_of (v := .string X.group) RG3.out.row (j := 9) rfl
      have x10 := row_of (v := .string X.member) RG3.out.row (j := 10) rfl
      have x11 := row_of (v := .int .i64 X.gen) RG3.out.row (j := 11) rfl
      have x12 := row_of (v := .bool X.robin) RG3.out.row (j := 12) rfl
      have x13 := row_of (v := .slice TA X.tops.length tc) RG3.out.row (j := 13) rfl
      have y0 := row_of (v := .int .i64 X.kind) R2.out.row (j := 0) rfl
      have y1 := row_of (v := .string X.topic) R2.out.row (j := 1) rfl
      have y2 := row_of (v := .int .i64 X.pn) R2.out.row (j := 2) rfl
      have y3 := row_of (v := .int .i64 X.n) R2.out.row (j := 3) rfl
      have y4 := row_of (v := .int .i64 X.off) R2.out.row (j := 4) rfl
      have y5 := row_of (v := .int .i64 X.bp) R2.out.row (j := 5) rfl
      have y6 := row_of (v := .int .i64 X.be) R2.out.row (j := 6) rfl
      have y7 := row_of (v := .int .i64 X.bq) R2.out.row (j := 7) rfl
      have y8 := row_of (v := .slice RA2 X.recs.length rc2) R2.out.row (j := 8) rfl
      have y9 := row_of (v := .string X.group) R2.out.row (j := 9) rfl
      have y10 := row_of (v := .string X.member) R2.out.row (j := 10) rfl
      have y11 := row_of (v := .int .i64 X.gen) R2.out.row (j := 11) rfl
      have y12 := row_of (v := .bool X.robin) R2.out.row (j := 12) rfl
      have y13 := row_of (v := .slice TA2 X.tops.length tc2) R2.out.row (j := 13) rfl
      go_upto_region 9 with (go_at_call 6; refine (rsame_is _ _ _ _ _ _ _ _ X.recs _ _ _ _ X.tops RA2 TA2 rc2 tc2 _ _ _ _ _ _ _ _ X.recs _ _ _ _ X.tops RA TA rc tc W3.heap.size true _ (Lib.hid (Reads.own R2.out.rr)) (Lib.hid (Reads.own RG3.out.rr)) (Lib.hid (texts_own R2.out.tt)) (Lib.hid (texts_own RG3.out.tt)) (Nat.le_refl _) (by have := HSM.out.r; unfold maxLen; omega) (by have := HSM.out.l; unfold maxLen; omega) (Lib.hid (by simp))).mono ?_; rintro e w4 ⟨rfl, hb4⟩; have SP4 := Lib.hid (R2.out.sp.below hb4); clear hb4 x0 x1 x2 x3 x4 x5 x6 x7 x8 x9 x10 x11 x12 x13 y0 y1 y2 y3 y4 y5 y6 y7 y8 y9 y10 y11 y12 y13)
      clear R2 RG3
      go_wp2_with fail
      go_loopw [8] (fun iv wy => ∃ j : Nat, j ≤ X.tops.length ∧ iv = .int .i64 j ∧ Hid (Sp wo H X RA2 TA2 rc2 tc2 wy)) (fun iv _ => X.tops.length - (intOf iv).toNat)
      case atStart => exact ⟨0, Nat.zero_le _, rfl, SP4⟩
      case round =>
        clear SP4
        obtain ⟨j, hj, rfl, SPJ⟩ := hrel
        by_cases hlt : j < X.tops.length
        · have hlt' : (j : Int) < (X.tops.length : Int) := by omega
          have hjl : j < X.tops.length := hlt
          obtain ⟨g, cs, rfl, hg1, hg2, hg3⟩ := SPJ.out.st.at hjl
          have y13 := row_of (v := .slice (some ⟨g, 0, none⟩) X.tops.length tc2) SPJ.out.row (j := 13) rfl
          have fj := frozen_of_row _ _ j _ _ hg2
          have hjc : j < cs.size := by omega
          obtain ⟨cv, cj⟩ : ∃ v, wr.cell? ⟨g, j, none⟩ = some v := ⟨_, (cell_of_row _ _ j _ _ _ hg2).trans (Array.getElem?_eq_getElem hjc)⟩
          clear hg1 hg2 hg3 hjc
          go_wp2_with fail
          go_roundw
          case rel => exact ⟨j + 1, by omega, by go_num, Lib.hid (SPJ.out.setT hjl _)⟩
          case measure => simp [intOf]; omega
        · have hlt' : ¬ (j : Int) < (X.tops.length : Int) := by omega
          have y13 := row_of (v := .slice TA2 X.tops.length tc2) SPJ.out.row (j := 13) rfl
          go_wp2_with fail
          clear y13 hlt hlt' hj
          go_loopw [9] (fun iv wz => ∃ i : Nat, i ≤ X.recs.length ∧ iv = .int .i64 i ∧ Hid (Sp wo H X RA2 TA2 rc2 tc2 wz)) (fun iv _ => X.recs.length - (intOf iv).toNat)
          case atStart => exact ⟨0, Nat.zero_le _, rfl, SPJ⟩
          case round =>
            clear SPJ
            obtain ⟨i, hi, rfl, SPI⟩ := hrel
            by_cases hlt : i < X.recs.length
            · have hlt' : (i : Int) < (X.recs.length : Int) := by omega
              have hil : i < X.recs.length := hlt
              obtain ⟨g, cs, rfl, hg1, hg2, hg3⟩ := SPI.out.sr.at hil
              have y8 := row_of (v := .slice (some ⟨g, 0, none⟩) X.recs.length rc2) SPI.out.row (j := 8) rfl
              have fj := frozen_of_row _ _ (i * 4 + 1) _ _ hg2
              have hjc : i * 4 + 1 < cs.size := by omega
              obtain ⟨cv, cj⟩ : ∃ v, wr.cell? ⟨g, i * 4 + 1, none⟩ = some v := ⟨_, (cell_of_row _ _ (i * 4 + 1) _ _ _ hg2).trans (Array.getElem?_eq_getElem hjc)⟩
              clear hg1 hg2 hg3 hjc
              go_wp2_with fail
              go_roundw
              case rel => exact ⟨i + 1, by omega, by go_num, Lib.hid (SPI.out.setR hil _ _)⟩
              case measure => simp [intOf]; omega
            · have hlt' : ¬ (i : Int) < (X.recs.length : Int) := by omega
              have y8 := row_of (v := .slice RA2 X.recs.length rc2) SPI.out.row (j := 8) rfl
              go_wp2_with fail
              go_roundw
              case rel => exact ⟨k + 1, by omega, by go_num, Lib.hid (RG.out.below SPI.out.b)⟩
              case measure => simp [intOf]; omega
    · have h2' : ¬ (k : Int) < 2 := by omega
      go_wp2_with (go_at_call 7; refine (fixed4_any _).mono ?_; rintro e w9 ⟨rfl, hb9⟩; have HB9 := Lib.hid hb9; clear hb9)
      go_ret
      exact ⟨rfl, RG.out.b.trans (HB9.out.mono RG.out.b.size)⟩

set_option maxRecDepth 100000 in
set_option maxHeartbeats 1000000 in
theorem lifted (os : Os) (started : os.Started) (H : Type) (enc : TypeId × Value → H) :
    ReturnsInHanded {} Tryz.checked os 3 .any (Rows.requestGetsSpec.pre6 enc Tryz.prog Tryz.f3 Rows.requestGetsRow.domain false) (Rows.requestGetsSpec.post enc Tryz.prog Tryz.f3 false true false false) := by
  refine returnsInHanded_of_change (C := Tryz.checked) own started (by kernel_rfl) Tryz.func3
    (ChangeSpec.witness6 (enc := enc) (C := Tryz.checked) false ⟨#[], #[.string ⟨#[]⟩], []⟩ 8 (by kernel_rfl) (by kernel_rfl) (by kernel_rfl) (by kernel_rfl)) ?_
  intro W base args ds gs before hval0 hW _ _
  have hval : ∀ (j : Nat) t v, Tryz.f3.params[j]? = some t → args[j]? = some v → Value.okWide Tryz.prog W .any base t v := hval0
  have hW' := hW
  obtain ⟨p, q, hA0, hV, rfl, hfz, hnd⟩ := hW
  have hA : DataW.TrodAll enc Tryz.prog W 0 (fun _ => true) true Tryz.f3.params.toList args.toList ds p := hA0
  rw [Tryz.params3] at hA hval
  obtain ⟨v0, vs0, d0, ds0, p0, q0, hargs, rfl, rfl, h0, r0⟩ := trodAll_cons hA
  obtain ⟨rfl, rfl, rfl⟩ := trodAll_nil r0
  obtain rfl : args = #[v0] := by cases args; simp_all
  obtain ⟨rfl, rfl⟩ := trodVars_none hV
  have k0 := h0
  have lt0 : ∀ x ∈ p0, x.block < W.heap.size := by obtain ⟨m, hm⟩ := k0; exact DataW.trod_lt m _ _ _ hm
  obtain ⟨a0, rfl, rfl, rfl, w0⟩ := open_string Tryz.underlying9 (hval 0 9 v0 rfl rfl) h0
  clear hA0 hval0
  refine (walk W a0 w0).mono fun e W' ⟨he, bel⟩ => ?_
  subst he
  exact ⟨_, rfl, _, _, _, [], _, [], hW', trodAll_mk1 (shut_bool Tryz.underlying4 _), (trodAll_cons_mk (Below.trod laidOut (by kernel_rfl) (of_decide_eq_true (by kernel_rfl)) k0 bel lt0) trodAll_mk0), rfl, bel.frame _, fun h => by cases h⟩

theorem over : Rows.requestGetsRow.holds Tryz.pinned (OpenSpec.ofChange Rows.requestGetsSpec) :=
  OpenClaim.holds_of_wide 3 Tryz.f3 rfl rfl rfl rfl rfl rfl rfl ⟨rfl, rfl, rfl, rfl, rfl⟩ rfl rfl rfl rfl rfl (by kernel_rfl) Tryz.func3 (by kernel_rfl)
    (of_decide_eq_true (by kernel_rfl)) (by unfold Func.isWrapper; first | (rw [if_pos (by decide +kernel)]; kernel_rfl) | (rw [if_neg (by decide +kernel)]; exact ⟨rfl, rfl⟩))
    (fun os started H enc _ => lifted os started H enc)

/-- the statement -/
theorem proved : Rows.RequestGetsSaid :=
  over
#print axioms proved
end Go.Proofs.YtijofikpdhapoaaGreat.requestGets
