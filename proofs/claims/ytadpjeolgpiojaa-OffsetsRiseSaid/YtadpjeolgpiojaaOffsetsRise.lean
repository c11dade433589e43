/-
  A mark never goes back until its group is dropped; what is put is got; a mark of another group, or partition, is as it was.
-/
import Derived.Test.YtadpjeolgpiojaaRows
import Derived.WalkKit
import Derived.ProofKit
import Derived.OpenShut
import Derived.ShutString
import Derived.ChangeOld
import Derived.Below
import Derived.Test.YtadpjeolgpiojaaOfFixed
import Derived.LoopTactic
import Derived.IntWalk
import Derived.Deep.DeepCutAuto
import Derived.Deep.CutBlock
namespace Go.Proofs.Ytadpjeolgpiojaa.offsetsRise
open Go.ChangeShapes Go.WideShapes Go.ChangeAt Go.RowKit Go.Deep
open Go.ChangeMaps (open_string shut_string)
open L3 L4 L12

theorem own : ownKnob Try.prog.godebug = none := by kernel_rfl
theorem laidOut : laidOutB Try.prog = true := by kernel_rfl

theorem at_one {Q : List Mr} (S : SortR Q) {x : Mr} {g t : ByteArray} {p : Int} (hx : x ∈ Q) (h : x.g = g ∧ x.t = t ∧ x.p = p) : isR Q g t p = true ∧ atR Q g t p = x.o :=
  ⟨is_mem.2 ⟨x, hx, h⟩, at_mem' S hx h.1 h.2.1 h.2.2⟩
/-- two tables that agree at a key -/
theorem at_same {Q Q' : List Mr} (S : SortR Q) (S' : SortR Q') {g t : ByteArray} {p : Int} (h : ∀ x : Mr, x.g = g ∧ x.t = t ∧ x.p = p → (x ∈ Q' ↔ x ∈ Q)) : isR Q' g t p = isR Q g t p ∧ atR Q' g t p = atR Q g t p := by
  cases e : isR Q g t p
  · have e' : isR Q' g t p = false := is_not.2 fun x hx hk => is_not.1 e x ((h x hk).1 hx) hk
    exact ⟨e', by rw [at_none e, at_none e']⟩
  · obtain ⟨x, hx, hk⟩ := is_mem.1 e
    obtain ⟨h1, h2⟩ := at_one S hx hk
    obtain ⟨h3, h4⟩ := at_one S' ((h x hk).2 hx) hk
    exact ⟨h3, by rw [h2, h4]⟩
theorem put_at {Q : List Mr} (G : L12.Good Q) {x : Mr} (h : putE Q x = 0) : isR (putQ Q x) x.g x.t x.p = true ∧ atR (putQ Q x) x.g x.t x.p = x.o := by
  unfold putQ
  rw [if_pos h]
  exact at_one (sort_ins G.sorted x) ((mem_ins G.sorted).2 (.inl rfl)) ⟨rfl, rfl, rfl⟩
theorem put_back {Q : List Mr} {x : Mr} (h : putE Q x = 120) : isR (putQ Q x) x.g x.t x.p = true ∧ x.o < atR (putQ Q x) x.g x.t x.p := by
  unfold putQ
  rw [if_neg (by rw [h]; decide)]
  unfold putE at h
  split at h
  · exact absurd h (by decide)
  · split at h
    · assumption
    · exact absurd h (by decide)
theorem putE_ways (Q : List Mr) (x : Mr) : putE Q x = 0 ∨ putE Q x = 120 ∨ putE Q x = 1 := by
  unfold putE
  split
  · exact .inr (.inr rfl)
  · split
    · exact .inr (.inl rfl)
    · exact .inl rfl
/-- a mark anywhere, behind a step -/
structure Rose (Q Q' : List Mr) (g t : ByteArray) (p : Int) (sm gn : Bool) : Prop where
  gone : gn = true → isR Q' g t p = false ∧ atR Q' g t p = 0
  stay : gn = false → (isR Q g t p = true → isR Q' g t p = true) ∧ atR Q g t p ≤ atR Q' g t p
  same : gn = false → sm = true → atR Q' g t p = atR Q g t p
theorem rose_refl (Q : List Mr) (g t : ByteArray) (p : Int) : Rose Q Q g t p true false := ⟨fun h => by (cases h), fun _ => ⟨id, Int.le_refl _⟩, fun _ _ => rfl⟩
theorem rose_eq {Q Q' : List Mr} {g t : ByteArray} {p : Int} (h : isR Q' g t p = isR Q g t p ∧ atR Q' g t p = atR Q g t p) : Rose Q Q' g t p true false :=
  ⟨fun h => by (cases h), fun _ => ⟨fun e => h.1.trans e, by rw [h.2]; exact Int.le_refl _⟩, fun _ _ => h.2⟩
theorem rose_less {Q Q' : List Mr} {g t : ByteArray} {p : Int} {s : Bool} (h : Rose Q Q' g t p true false) : Rose Q Q' g t p s false := ⟨fun h => by (cases h), h.stay, fun _ _ => h.same rfl rfl⟩
theorem rose_put {Q : List Mr} (G : L12.Good Q) (x : Mr) (g t : ByteArray) (p : Int) : Rose Q (putQ Q x) g t p (!decide (x.g = g ∧ x.t = t ∧ x.p = p)) false := by
  by_cases h0 : putE Q x = 0
  · by_cases hk : x.g = g ∧ x.t = t ∧ x.p = p
    · obtain ⟨rfl, rfl, rfl⟩ := hk
      obtain ⟨a1, a2⟩ := put_at G h0
      refine ⟨fun h => by (cases h), fun _ => ⟨fun _ => a1, ?_⟩, fun _ h => by simp at h⟩
      rw [a2]
      cases e : isR Q x.g x.t x.p
      · rw [at_none e]; exact (may_fit (putE_ok h0).1).2.2.2.2.1
      · exact (putE_ok h0).2 e
    · refine rose_less (rose_eq ?_)
      unfold putQ
      rw [if_pos h0]
      refine at_same G.sorted (sort_ins G.sorted x) (fun y hy => ?_)
      rw [mem_ins G.sorted]
      constructor
      · rintro (e | ⟨e, _⟩)
        · rw [e] at hy; exact absurd hy hk
        · exact e
      · intro e
        refine .inr ⟨e, fun s => hk ?_⟩
        exact ⟨s.1.symm.trans hy.1, s.2.1.symm.trans hy.2.1, s.2.2.symm.trans hy.2.2⟩
  · have : putQ Q x = Q := by unfold putQ; rw [if_neg h0]
    rw [this]
    exact rose_less (rose_refl _ _ _ _)
theorem rose_raise {Q : List Mr} (G : L12.Good Q) (rt : ByteArray) (rp least : Int) (g t : ByteArray) (p : Int) : Rose Q (raiseQ Q rt rp least) g t p (!decide (rt = t ∧ rp = p)) false := by
  unfold raiseQ
  split
  · rename_i hl
    have G' := good_raise0 G rt rp least hl
    cases e : isR Q g t p
    · have e' : isR (raiseQ0 Q rt rp least) g t p = false := is_not.2 fun x hx hk => by
        obtain ⟨y, hy, rfl⟩ := List.mem_map.1 hx
        refine is_not.1 e y hy ?_
        split at hk
        · exact hk
        · exact hk
      exact rose_less (rose_eq ⟨by rw [e, e'], by rw [at_none e, at_none e']⟩)
    · obtain ⟨y, hy, hk⟩ := is_mem.1 e
      have hm : (if raiseB rt rp least y = true then upTo y least else y) ∈ raiseQ0 Q rt rp least := List.mem_map_of_mem hy
      obtain ⟨h1, h2⟩ := at_one G.sorted hy hk
      by_cases hr : raiseB rt rp least y = true
      · rw [if_pos hr] at hm
        obtain ⟨h3, h4⟩ := at_one G'.sorted hm (show (upTo y least).g = g ∧ (upTo y least).t = t ∧ (upTo y least).p = p from hk)
        unfold raiseB at hr
        simp only [Bool.and_eq_true, decide_eq_true_eq] at hr
        refine ⟨fun h => by (cases h), fun _ => ⟨fun _ => h3, ?_⟩, fun _ h => ?_⟩
        · rw [h2, h4]; show y.o ≤ least; omega
        · have : rt = t ∧ rp = p := ⟨hr.1.1.symm.trans hk.2.1, hr.1.2.symm.trans hk.2.2⟩
          simp [this] at h
      · rw [if_neg hr] at hm
        obtain ⟨h3, h4⟩ := at_one G'.sorted hm hk
        exact rose_less (rose_eq ⟨by rw [h3, e], by rw [h2, h4]⟩)
  · exact rose_less (rose_refl _ _ _ _)
theorem rose_drop {Q : List Mr} (G : L12.Good Q) (dg : ByteArray) (g t : ByteArray) (p : Int) : Rose Q (dropQ Q dg) g t p true (decide (dg = g)) := by
  by_cases h : dg = g
  · subst h
    have e' : isR (dropQ Q dg) dg t p = false := is_not.2 fun x hx hk => (mem_drop.1 hx).2 hk.1
    rw [decide_eq_true rfl]
    exact ⟨fun _ => ⟨e', at_none e'⟩, fun h => by (cases h), fun h => by (cases h)⟩
  · rw [decide_eq_false h]
    refine rose_eq (at_same G.sorted (good_drop G dg).sorted (fun y hy => ?_))
    rw [mem_drop]
    exact ⟨fun e => e.1, fun e => ⟨e, fun q => h (q.symm.trans hy.1)⟩⟩
/-- a step of the script: what it does -/
def StepR (kd : Int) (x : Mr) (Q Q' : List Mr) : Prop := (kd = 0 ∧ Q' = putQ Q x) ∨ (kd = 1 ∧ Q' = raiseQ Q x.t x.p x.o) ∨ (kd = 2 ∧ Q' = dropQ Q x.g) ∨ (kd ≠ 0 ∧ kd ≠ 1 ∧ kd ≠ 2 ∧ Q' = Q)
def goneB (kd : Int) (x : Mr) (g : ByteArray) : Bool := decide (kd = 2) && decide (x.g = g)
def otherB (kd : Int) (x : Mr) (g t : ByteArray) (p : Int) : Bool := !decide (x.t = t ∧ x.p = p) || (decide (kd = 0) && !decide (x.g = g))
theorem step_rose {kd : Int} {x : Mr} {Q Q' : List Mr} (h : StepR kd x Q Q') (G : L12.Good Q) (g t : ByteArray) (p : Int) : Rose Q Q' g t p (otherB kd x g t p || decide (kd = 2)) (goneB kd x g) := by
  rcases h with ⟨rfl, rfl⟩ | ⟨rfl, rfl⟩ | ⟨rfl, rfl⟩ | ⟨h0, h1, h2, rfl⟩
  · have q := rose_put G x g t p
    have e1 : goneB 0 x g = false := rfl
    rw [e1]
    refine ⟨fun h => by (cases h), q.stay, fun _ hs => q.same rfl ?_⟩
    unfold otherB at hs
    by_cases a : x.g = g <;> by_cases b : x.t = t <;> by_cases c : x.p = p <;> simp_all
  · have q := rose_raise G x.t x.p x.o g t p
    have e1 : goneB 1 x g = false := rfl
    rw [e1]
    refine ⟨fun h => by (cases h), q.stay, fun _ hs => q.same rfl ?_⟩
    unfold otherB at hs
    by_cases b : x.t = t <;> by_cases c : x.p = p <;> simp_all
  · have q := rose_drop G x.g g t p
    have e1 : goneB 2 x g = decide (x.g = g) := by simp [goneB]
    rw [e1]
    exact ⟨q.gone, q.stay, fun h _ => q.same h rfl⟩
  · have e1 : goneB kd x g = false := by simp [goneB, h2]
    rw [e1]
    exact rose_less (rose_refl _ _ _ _)
theorem step_len {kd : Int} {x : Mr} {Q Q' : List Mr} (h : StepR kd x Q Q') : Q'.length ≤ Q.length + 1 := by
  rcases h with ⟨_, rfl⟩ | ⟨_, rfl⟩ | ⟨_, rfl⟩ | ⟨_, _, _, rfl⟩
  · exact len_put Q x
  · rw [len_raise]; omega
  · have := len_drop Q x.g; omega
  · omega
theorem ltCell {W w : World} {g b N bx i : Nat} {Q : List Mr} {u : Value} (h : LT W w g b N Q) (hx : W.heap.size ≤ bx) (hg : g ≠ bx) (hb : b ≠ bx) : LT W (w.setCell ⟨bx, i, none⟩ u) g b N Q :=
  ⟨h.tab.at (Below.heap_setCell _ _ _ _ hg) (Below.heap_setCell _ _ _ _ hb), h.good, h.hg, h.hb, h.bel.setCell hx _⟩
theorem ltMono {W w : World} {g b N N' : Nat} {Q : List Mr} (h : LT W w g b N Q) (hN : N ≤ N') : LT W w g b N' Q := ⟨h.tab.mono hN, h.good, h.hg, h.hb, h.bel⟩
theorem markAt4 {w : World} {k : Nat} {g t : ByteArray} {p o : Int} {T : TypeId} (h : w.heap[k]? = some (.cells #[.string g, .string t, .int .i64 p, .int .i64 o] T (0, 0))) : MarkAt w k 0 ⟨g, t, p, o⟩ := by
  obtain ⟨a0, a1, a2, a3⟩ := row4 h
  exact ⟨a0, a1, a2, a3⟩
set_option maxRecDepth 100000 in
set_option maxHeartbeats 16000000 in
theorem walk (W : World) (A0 : Option Addr) (l0 : List Oc) (c0 : Nat) (RO : Hid (OpsO W W.heap.size A0 l0)) (SO : Hid (∀ r ∈ l0, SizeR r.m)) (Z0 : l0.length ≤ maxLen) (g1 t1 : ByteArray) (n1 o1 : Int) (SM : Hid (SizeR ⟨g1, t1, n1, o1⟩)) :
    Calls Try.prog 5 #[.slice A0 l0.length c0, .agg #[.string g1, .string t1, .int .i64 n1, .int .i64 o1]] W fun e w' => e = .returned (.bool true) ∧ Below W.heap.size W w' := by
  obtain ⟨n0, hn0⟩ : ∃ n, l0.length = n := ⟨_, rfl⟩
  have HN := Lib.hid hn0
  have Z1 := Z0
  unfold maxLen at Z1
  rw [hn0] at Z1 ⊢
  obtain ⟨y0, y1, y2, y3⟩ := SM.out
  dsimp only at y0 y1 y2 y3
  obtain ⟨mg, hmg⟩ : ∃ c, cutB g1 = c := ⟨_, rfl⟩
  obtain ⟨mt, hmt⟩ : ∃ c, cutB t1 = c := ⟨_, rfl⟩
  have HMG := Lib.hid hmg
  have HMT := Lib.hid hmt
  have ZMG : Hid (mg.size ≤ maxLen) := Lib.hid (by rw [← hmg]; have := cutB_size g1; unfold maxLen; omega)
  have ZMT : Hid (mt.size ≤ maxLen) := Lib.hid (by rw [← hmt]; have := cutB_size t1; unfold maxLen; omega)
  have HNP := Lib.hid y2
  obtain ⟨mb, hmb⟩ : ∃ bx, W.heap.size = bx := ⟨_, rfl⟩
  obtain ⟨WZ, hWZ⟩ : ∃ WZ, W.alloc (.cells #[.string g1, .string t1, .int .i64 n1, .int .i64 o1] 32) = WZ := ⟨_, rfl⟩
  have HBZ : Hid (Below W.heap.size W WZ) := Lib.hid (by rw [← hWZ]; exact one_box' _)
  have hrow : WZ.heap[mb]? = some (.cells #[.string g1, .string t1, .int .i64 n1, .int .i64 o1] 32 (0, 0)) := by rw [← hWZ, ← hmb]; exact box_row W g1 t1 n1 o1
  have PL : Hid (mb < WZ.heap.size) := Lib.hid (by rw [← hWZ, ← hmb]; simp)
  have HBX : Hid (W.heap.size ≤ mb) := Lib.hid (by omega)
  have HROW := Lib.hid hrow
  have HEQ := Lib.hid hWZ
  have HBE := Lib.hid hmb
  clear hn0 Z0 hmg hmt hmb hWZ hrow y2 y3
  go_enter Try.func5, Try.ntmps5
  go_upto_region 1 with (fail)
  rw [HEQ.out, HBE.out]
  go_upto_region 4 with (go_at_call 9; refine (m_new W WZ HBZ).mono ?_; rintro e wz ⟨gt, bb, rfl, mz, hgz, hbz, hbel⟩; have M0 := Lib.hid mz; have HNG : Hid (gt ≠ mb) := (Lib.hid (by have := PL.out; omega)); have HNB : Hid (bb ≠ mb) := (Lib.hid (by have := PL.out; omega)); have HRZ := Lib.hid ((hbel.block mb PL.out).trans HROW.out); clear mz hgz hbz hbel)
  obtain ⟨b0, b1, b2, b3⟩ := row4 HRZ.out
  have HLZ : Hid (mb < wz.heap.size) := Lib.hid (Array.getElem?_eq_some_iff.1 HRZ.out).1
  go_upto_region 5 with (go_at_call 10; refine (cut_is _ g1 t1 mg mt n1 o1 y0 y1 HMG HMT).mono ?_; rintro e wy ⟨rfl, hby⟩; have hry := (hby.block mb HLZ.out).trans HRZ.out; obtain ⟨v0, v1, v2, v3⟩ := row4 hry; have fz0 := frozen_of_row _ _ 0 _ _ hry; have fz1 := frozen_of_row _ _ 1 _ _ hry; have fz2 := frozen_of_row _ _ 2 _ _ hry; have fz3 := frozen_of_row _ _ 3 _ _ hry; have HRY := Lib.hid hry; have MY := Lib.hid (M0.out.below hby); clear hry hby)
  obtain ⟨w5, hw5⟩ : ∃ w5, (((wy.setCell ⟨mb, 0, none⟩ (.string mg)).setCell ⟨mb, 1, none⟩ (.string mt)).setCell ⟨mb, 2, none⟩ (.int .i64 n1)).setCell ⟨mb, 3, none⟩ (.int .i64 o1) = w5 := ⟨_, rfl⟩
  have HM5 : Hid (LT W w5 gt bb 0 []) := Lib.hid (by rw [← hw5]; exact ltCell (ltCell (ltCell (ltCell MY.out HBX.out HNG.out HNB.out) HBX.out HNG.out HNB.out) HBX.out HNG.out HNB.out) HBX.out HNG.out HNB.out)
  have HB5 : Hid (MarkAt w5 mb 0 ⟨mg, mt, n1, o1⟩) := Lib.hid (by rw [← hw5]; exact markAt4 (set4 HRY.out))
  rw [hw5]
  clear hw5 b0 b1 b2 b3 v0 v1 v2 v3 fz0 fz1 fz2 fz3
  go_wp2_with fail
  go_loopw [6] (fun i wr => ∃ (k : Nat) (Q : List Mr), k ≤ n0 ∧ k ≤ 80 ∧ i = .int .i64 k ∧ Q.length ≤ k ∧ Hid (LT W wr gt bb k Q) ∧ Hid (MarkAt wr mb 0 ⟨mg, mt, n1, o1⟩)) (fun i _ => n0 - (intOf i).toNat)
  case atStart => exact ⟨0, [], Nat.zero_le _, Nat.zero_le _, rfl, Nat.le_refl _, HM5, HB5⟩
  case round =>
    obtain ⟨k, Q, hk, hk6, rfl, hQ, HM, HMB0⟩ := hrel
    by_cases hlt : k < n0 ∧ k < 80
    · obtain ⟨hlt, hlt6⟩ := hlt
      obtain ⟨ga, oo, rfl, hga, hcells⟩ := RO.out (by rw [HN.out]; omega)
      obtain ⟨⟨kd, ⟨gr, t, p, o⟩⟩, hst⟩ : ∃ st, l0[k]? = some st := ⟨l0[k]'(by rw [HN.out]; exact hlt), List.getElem?_eq_getElem _⟩
      obtain ⟨x0, x1, x2, x3, x4⟩ := hcells k _ hst
      have d0 := cell_at HM.out.bel x0
      have d1 := cell_at HM.out.bel x1
      have d2 := cell_at HM.out.bel x2
      have d3 := cell_at HM.out.bel x3
      have d4 := cell_at HM.out.bel x4
      dsimp only at d0 d1 d2 d3 d4
      obtain ⟨z0, z1, z2, z3⟩ := SO.out _ (List.mem_of_getElem? hst)
      dsimp only at z0 z1 z2 z3
      obtain ⟨cg, hcg⟩ : ∃ c, cutB gr = c := ⟨_, rfl⟩
      obtain ⟨ct, hct⟩ : ∃ c, cutB t = c := ⟨_, rfl⟩
      have HCG := Lib.hid hcg
      have HCT := Lib.hid hct
      have ZG : Hid (cg.size ≤ maxLen) := Lib.hid (by rw [← hcg]; have := cutB_size gr; unfold maxLen; omega)
      have ZT : Hid (ct.size ≤ maxLen) := Lib.hid (by rw [← hct]; have := cutB_size t; unfold maxLen; omega)
      have HP := Lib.hid z2
      have HO := Lib.hid z3
      have k0 : (0 : Int) ≤ (k : Int) := by omega
      have k1 : (k : Int) < (n0 : Int) := by omega
      have k6 : (k : Int) < 80 := by omega
      have kN : k ≤ 1000000 := by omega
      have hQ1 : Q.length ≤ 1000000 := by omega
      have ltA : ga < wr.heap.size := Nat.lt_of_lt_of_le hga HM.out.bel.size
      obtain ⟨bo, hbo⟩ : ∃ b, wr.heap.size = b := ⟨_, rfl⟩
      obtain ⟨W3, hW3⟩ : ∃ W3, wr.alloc (.cells #[.int .i64 kd, .string gr, .string t, .int .i64 p, .int .i64 o] 35) = W3 := ⟨_, rfl⟩
      have hb3 : Below wr.heap.size wr W3 := by rw [← hW3]; exact one_box' _
      have hr3 : W3.heap[bo]? = some (.cells #[.int .i64 kd, .string gr, .string t, .int .i64 p, .int .i64 o] 35 (0, 0)) := by rw [← hW3, ← hbo]; exact heap_alloc_new _ _
      have s0 := (cell_of_row _ _ 0 _ _ _ hr3).trans rfl
      have s1 := (cell_of_row _ _ 1 _ _ _ hr3).trans rfl
      have s2 := (cell_of_row _ _ 2 _ _ _ hr3).trans rfl
      have s3 := (cell_of_row _ _ 3 _ _ _ hr3).trans rfl
      have s4 := (cell_of_row _ _ 4 _ _ _ hr3).trans rfl
      have M3 := Lib.hid (HM.out.below hb3)
      have HMB3 := Lib.hid (HMB0.out.keepC (KeepC.below hb3))
      have HKD3 : Hid (W3.cell? ⟨bo, 0, none⟩ = some (.int .i64 kd)) := Lib.hid s0
      have HW3 := Lib.hid hW3
      have HBO := Lib.hid hbo
      clear hst hcells x0 x1 x2 x3 x4 z2 z3 hcg hct hb3 hr3 hW3 hbo s0
      go_upto_region 9 with (fail)
      rw [HW3.out, HBO.out]
      go_upto_region 10 with (go_at_call 10; refine (cut_is _ gr t cg ct p o z0 z1 HCG HCT).mono ?_; rintro e w4 ⟨rfl, hb4⟩; have HB4 := Lib.hid hb4; clear hb4)
      obtain ⟨bx, hbx⟩ : ∃ b, w4.heap.size = b := ⟨_, rfl⟩
      obtain ⟨W5, hW5⟩ : ∃ W5, w4.alloc (.cells #[.string cg, .string ct, .int .i64 p, .int .i64 o] 32) = W5 := ⟨_, rfl⟩
      have hb5 : Below w4.heap.size w4 W5 := by rw [← hW5]; exact one_box' _
      have HXB5 : Hid (MarkAt W5 bx 0 ⟨cg, ct, p, o⟩) := Lib.hid (by rw [← hW5, ← hbx]; exact markAt4 (box_row w4 cg ct p o))
      have M5 := Lib.hid ((M3.out.below HB4.out).below hb5)
      have HMB5 := Lib.hid ((HMB3.out.keepC (KeepC.below HB4.out)).keepC (KeepC.below hb5))
      have HKD5 : Hid (W5.cell? ⟨bo, 0, none⟩ = some (.int .i64 kd)) := Lib.hid (cell_at hb5 (cell_at HB4.out HKD3.out))
      rw [hW5, hbx]
      clear hbx hW5 hb5 s1 s2 s3 s4 d0 d1 d2 d3 d4
      obtain ⟨m0, m1, -, -⟩ := HMB5.out
      have m2 := HMB5.out.c2
      dsimp only at m0 m1 m2
      have kd5 := HKD5.out
      obtain ⟨was, hwas⟩ : ∃ x, atR Q mg mt n1 = x := ⟨_, rfl⟩
      obtain ⟨had, hhad⟩ : ∃ x, isR Q mg mt n1 = x := ⟨_, rfl⟩
      have HWAS := Lib.hid hwas
      have HHAD := Lib.hid hhad
      clear hwas hhad
      go_upto_region 11 with (go_at_call 18; have _q := M5; refine (m_get mg mt n1 was had M5 ZMG ZMT HNP HWAS HHAD).mono ?_; rintro e w6 ⟨rfl, h6⟩; have M6 := Lib.hid (M5.out.below h6); have K6 := Lib.hid (KeepC.below h6); clear h6)
      have HMB := Lib.hid (HMB5.out.keepC K6.out)
      have HXB := Lib.hid (HXB5.out.keepC K6.out)
      have HKD : Hid (w6.cell? ⟨bo, 0, none⟩ = some (.int .i64 kd)) := Lib.hid (K6.out _ _ HKD5.out)
      have kd6 := HKD.out
      obtain ⟨xc0, xc1, xc2, xc3⟩ := HXB.out
      dsimp only at xc0 xc1 xc2 xc3
      clear m0 m1 m2 kd5 HMB3 HMB5 HXB5 HKD3 HKD5 M3 M5
      go_upto_block 2 with fail
      go_cut [11, 12, 13] (fun _ _ _ wc => ∃ Q2 : List Mr, Q2.length ≤ k + 1 ∧ Hid (LT W wc gt bb (k + 1) Q2) ∧ Hid (MarkAt wc mb 0 ⟨mg, mt, n1, o1⟩) ∧ Hid (MarkAt wc bx 0 ⟨cg, ct, p, o⟩) ∧ Hid (wc.cell? ⟨bo, 0, none⟩ = some (.int .i64 kd)) ∧ Hid (StepR kd ⟨cg, ct, p, o⟩ Q Q2))
      case first =>
        as_aux_lemma =>
        by_cases h0 : kd = 0
        · subst h0
          obtain ⟨Q2, hq2⟩ : ∃ Q2, putQ Q ⟨cg, ct, p, o⟩ = Q2 := ⟨_, rfl⟩
          have HQ2 := Lib.hid hq2
          have HST2 : Hid (StepR 0 ⟨cg, ct, p, o⟩ Q Q2) := Lib.hid (.inl ⟨rfl, hq2.symm⟩)
          have HLQ : Hid (Q2.length ≤ k + 1) := Lib.hid (by have := step_len HST2.out; omega)
          obtain ⟨at2, hat2⟩ : ∃ x, atR Q2 cg ct p = x := ⟨_, rfl⟩
          obtain ⟨is2, his2⟩ : ∃ x, isR Q2 cg ct p = x := ⟨_, rfl⟩
          have HAT2 := Lib.hid hat2
          have HIS2 := Lib.hid his2
          have hways := putE_ways Q ⟨cg, ct, p, o⟩
          rcases hways with hx | hx | hx
          · have HX := Lib.hid hx
            have hp := put_at M6.out.good hx
            dsimp only at hp
            rw [hq2, hat2, his2] at hp
            obtain ⟨rfl, e⟩ := hp
            obtain rfl : o = at2 := e.symm
            clear hx hq2 hat2 his2
            go_wp2_with (first
              | (go_at_call 18; have _q := M7; refine (m_get cg ct p o true M7 ZG ZT HP HAT2 HIS2).mono ?_; rintro e w8 ⟨rfl, h8⟩; have y3 := cell_at h8 y3; have M8 := Lib.hid (M7.out.below h8); have K8 := Lib.hid (k7.trans (KeepC.below h8)); clear h8)
              | (go_at_call 11; refine (m_put cg ct p o 0 Q2 M6 kN ZG ZT HP HX HQ2).mono ?_; rintro e w7 ⟨rfl, m7, k7, -⟩; have y0 := k7 _ _ xc0; have y1 := k7 _ _ xc1; have y2 := k7 _ _ xc2; have y3 := k7 _ _ xc3; have M7 := Lib.hid m7; clear m7))
            go_meet
            exact ⟨Q2, HLQ.out, M8, Lib.hid (HMB.out.keepC (K8.out)), Lib.hid (HXB.out.keepC (K8.out)), Lib.hid ((K8.out) _ _ HKD.out), HST2⟩
          · have HX := Lib.hid hx
            have hp := put_back hx
            dsimp only at hp
            rw [hq2, hat2, his2] at hp
            obtain ⟨rfl, hb⟩ := hp
            have hb1 : ¬ at2 ≤ o := by omega
            clear hx hq2 hat2 his2 hb
            go_wp2_with (first
              | (go_at_call 18; have _q := M7; refine (m_get cg ct p at2 true M7 ZG ZT HP HAT2 HIS2).mono ?_; rintro e w8 ⟨rfl, h8⟩; have y3 := cell_at h8 y3; have M8 := Lib.hid (M7.out.below h8); have K8 := Lib.hid (k7.trans (KeepC.below h8)); clear h8)
              | (go_at_call 11; refine (m_put cg ct p o 120 Q2 M6 kN ZG ZT HP HX HQ2).mono ?_; rintro e w7 ⟨rfl, m7, k7, -⟩; have y0 := k7 _ _ xc0; have y1 := k7 _ _ xc1; have y2 := k7 _ _ xc2; have y3 := k7 _ _ xc3; have M7 := Lib.hid m7; clear m7))
            go_meet
            exact ⟨Q2, HLQ.out, M8, Lib.hid (HMB.out.keepC (K8.out)), Lib.hid (HXB.out.keepC (K8.out)), Lib.hid ((K8.out) _ _ HKD.out), HST2⟩
          · have HX := Lib.hid hx
            clear hx hq2 hat2 his2
            go_wp2_with (first
              | (go_at_call 18; have _q := M7; refine (m_get cg ct p at2 is2 M7 ZG ZT HP HAT2 HIS2).mono ?_; rintro e w8 ⟨rfl, h8⟩; have y3 := cell_at h8 y3; have M8 := Lib.hid (M7.out.below h8); have K8 := Lib.hid (k7.trans (KeepC.below h8)); clear h8)
              | (go_at_call 11; refine (m_put cg ct p o 1 Q2 M6 kN ZG ZT HP HX HQ2).mono ?_; rintro e w7 ⟨rfl, m7, k7, -⟩; have y0 := k7 _ _ xc0; have y1 := k7 _ _ xc1; have y2 := k7 _ _ xc2; have y3 := k7 _ _ xc3; have M7 := Lib.hid m7; clear m7))
            go_meet
            exact ⟨Q2, HLQ.out, M8, Lib.hid (HMB.out.keepC (K8.out)), Lib.hid (HXB.out.keepC (K8.out)), Lib.hid ((K8.out) _ _ HKD.out), HST2⟩
        · have e0 : (kd == 0) = false := by simpa using h0
          by_cases h1 : kd = 1
          · subst h1
            obtain ⟨x, hx⟩ : ∃ x, raiseN Q ct p o = x := ⟨_, rfl⟩
            obtain ⟨Q2, hq2⟩ : ∃ Q2, raiseQ Q ct p o = Q2 := ⟨_, rfl⟩
            have HX := Lib.hid hx
            have HQ2 := Lib.hid hq2
            have HST2 : Hid (StepR 1 ⟨cg, ct, p, o⟩ Q Q2) := Lib.hid (.inr (.inl ⟨rfl, hq2.symm⟩))
            have HLQ : Hid (Q2.length ≤ k + 1) := Lib.hid (by have := step_len HST2.out; omega)
            clear hx hq2 h0 e0
            go_wp2_with (go_at_call 13; refine (m_raise ct p o x Q2 Q.length M6 kN HO (Lib.hid rfl) hQ1 HX HQ2).mono ?_; rintro e w7 ⟨rfl, m7, k7, -⟩; have M7 := Lib.hid m7; have K7 := Lib.hid k7; clear m7 k7)
            go_meet
            exact ⟨Q2, HLQ.out, Lib.hid (ltMono M7.out (Nat.le_succ _)), Lib.hid (HMB.out.keepC (K7.out)), Lib.hid (HXB.out.keepC (K7.out)), Lib.hid ((K7.out) _ _ HKD.out), HST2⟩
          · have e1 : (kd == 1) = false := by simpa using h1
            by_cases h2 : kd = 2
            · subst h2
              obtain ⟨x, hx⟩ : ∃ x, dropN Q cg = x := ⟨_, rfl⟩
              obtain ⟨Q2, hq2⟩ : ∃ Q2, dropQ Q cg = Q2 := ⟨_, rfl⟩
              have HX := Lib.hid hx
              have HQ2 := Lib.hid hq2
              have HST2 : Hid (StepR 2 ⟨cg, ct, p, o⟩ Q Q2) := Lib.hid (.inr (.inr (.inl ⟨rfl, hq2.symm⟩)))
              have HLQ : Hid (Q2.length ≤ k + 1) := Lib.hid (by have := step_len HST2.out; omega)
              clear hx hq2 h0 e0 h1 e1
              go_wp2_with (go_at_call 15; refine (m_drop cg x Q2 Q.length M6 (Lib.hid rfl) hQ1 HX HQ2).mono ?_; rintro e w7 ⟨rfl, m7, k7, -⟩; have M7 := Lib.hid m7; have K7 := Lib.hid k7; clear m7 k7)
              go_meet
              exact ⟨Q2, HLQ.out, Lib.hid (ltMono M7.out (Nat.le_succ _)), Lib.hid (HMB.out.keepC (K7.out)), Lib.hid (HXB.out.keepC (K7.out)), Lib.hid ((K7.out) _ _ HKD.out), HST2⟩
            · have e2 : (kd == 2) = false := by simpa using h2
              obtain ⟨Q2, hq2⟩ : ∃ Q2, Q = Q2 := ⟨_, rfl⟩
              have HST2 : Hid (StepR kd ⟨cg, ct, p, o⟩ Q Q2) := Lib.hid (.inr (.inr (.inr ⟨h0, h1, h2, hq2.symm⟩)))
              have HLQ : Hid (Q2.length ≤ k + 1) := Lib.hid (by have := step_len HST2.out; omega)
              have M7 : Hid (LT W w6 gt bb k Q2) := Lib.hid (by rw [← hq2]; exact M6.out)
              clear h0 h1 h2 hq2
              go_wp2_with fail
              go_meet
              exact ⟨Q2, HLQ.out, Lib.hid (ltMono M7.out (Nat.le_succ _)), Lib.hid (HMB.out.keepC (KeepC.refl _)), Lib.hid (HXB.out.keepC (KeepC.refl _)), Lib.hid ((KeepC.refl _) _ _ HKD.out), HST2⟩
      case rest =>
        as_aux_lemma =>
        obtain ⟨Q2, hQ2, M7, HMB7, HXB7, HKD7, HST⟩ := hcut
        obtain ⟨m0, m1, -, -⟩ := HMB7.out
        have m2 := HMB7.out.c2
        dsimp only at m0 m1 m2
        obtain ⟨now, hnow⟩ : ∃ x, atR Q2 mg mt n1 = x := ⟨_, rfl⟩
        obtain ⟨has, hhas⟩ : ∃ x, isR Q2 mg mt n1 = x := ⟨_, rfl⟩
        have HNOW := Lib.hid hnow
        have HHAS := Lib.hid hhas
        obtain ⟨gv, hgv⟩ : ∃ x, goneB kd ⟨cg, ct, p, o⟩ mg = x := ⟨_, rfl⟩
        obtain ⟨ov, hov⟩ : ∃ x, otherB kd ⟨cg, ct, p, o⟩ mg mt n1 = x := ⟨_, rfl⟩
        have hrose := step_rose HST.out HM.out.good mg mt n1
        rw [hgv, hov] at hrose
        have HROSE := Lib.hid hrose
        have HGV := Lib.hid hgv
        have HOV := Lib.hid hov
        clear hnow hhas hgv hov hrose xc0 xc1 xc2 xc3 kd6 HMB HXB HKD M6 K6
        go_upto_region 22 with (go_at_call 18; have _q := M7; refine (m_get mg mt n1 now has M7 ZMG ZMT HNP HNOW HHAS).mono ?_; rintro e w8 ⟨rfl, h8⟩; have M8 := Lib.hid (M7.out.below h8); have K8 := Lib.hid (KeepC.below h8); clear h8)
        have HMB8 := Lib.hid (HMB7.out.keepC K8.out)
        obtain ⟨m0, m1, -, -⟩ := HMB8.out
        have m2 := HMB8.out.c2
        obtain ⟨xc0, xc1, -, -⟩ := HXB7.out.keepC K8.out
        have xc2 := (HXB7.out.keepC K8.out).c2
        have kd8 := K8.out _ _ HKD7.out
        dsimp only at m0 m1 m2 xc0 xc1 xc2
        clear HMB7 HXB7 HKD7 M7 K8
        go_cut [16] (fun v wc => v = .bool gv ∧ w8 = wc)
        case first =>
          as_aux_lemma =>
          unfold goneB at HGV
          by_cases h2 : kd = 2
          · subst h2
            by_cases hg : cg = mg
            · subst hg
              obtain rfl : true = gv := by rw [← HGV.out]; simp
              clear HGV HOV HROSE
              go_wp2_with fail
              go_meet
              exact ⟨rfl, rfl⟩
            · obtain rfl : false = gv := by rw [← HGV.out]; simp [hg]
              have t0 : (cg.toList == mg.toList) = false := bytes_off hg
              clear HGV HOV HROSE hg
              go_wp2_with fail
              go_meet
              exact ⟨rfl, rfl⟩
          · obtain rfl : false = gv := by rw [← HGV.out]; simp [h2]
            have t0 : (kd == 2) = false := by simpa using h2
            clear HGV HOV HROSE h2
            go_wp2_with fail
            go_meet
            exact ⟨rfl, rfl⟩
        case rest =>
          obtain ⟨rfl, rfl⟩ := hcut
          go_upto_region 23 with (fail)
          go_cut [17] (fun v wc => v = .bool ov ∧ w8 = wc)
          case first =>
            as_aux_lemma =>
            unfold otherB at HOV
            dsimp only at HOV
            by_cases ht : ct = mt
            · subst ht
              by_cases hp : p = n1
              · subst hp
                by_cases h0 : kd = 0
                · subst h0
                  by_cases hg : cg = mg
                  · subst hg
                    obtain rfl : false = ov := by rw [← HOV.out]; simp
                    clear HGV HOV HROSE
                    go_wp2_with fail
                    go_meet
                    exact ⟨rfl, rfl⟩
                  · obtain rfl : true = ov := by rw [← HOV.out]; simp [hg]
                    have t0 : (cg.toList == mg.toList) = false := bytes_off hg
                    clear HGV HOV HROSE hg
                    go_wp2_with fail
                    go_meet
                    exact ⟨rfl, rfl⟩
                · obtain rfl : false = ov := by rw [← HOV.out]; simp [h0]
                  have t0 : (kd == 0) = false := by simpa using h0
                  clear HGV HOV HROSE h0
                  go_wp2_with fail
                  go_meet
                  exact ⟨rfl, rfl⟩
              · obtain rfl : true = ov := by rw [← HOV.out]; simp [hp]
                have t0 : (p == n1) = false := by simpa using hp
                clear HGV HOV HROSE hp
                go_wp2_with fail
                go_meet
                exact ⟨rfl, rfl⟩
            · obtain rfl : true = ov := by rw [← HOV.out]; simp [ht]
              have t0 : (ct.toList == mt.toList) = false := bytes_off ht
              clear HGV HOV HROSE ht
              go_wp2_with fail
              go_meet
              exact ⟨rfl, rfl⟩
          case rest =>
            as_aux_lemma =>
            obtain ⟨rfl, rfl⟩ := hcut
            clear m0 m1 m2 xc0 xc1 xc2
            have hgone := HROSE.out.gone
            have hstay := HROSE.out.stay
            have hsame := HROSE.out.same
            rw [HHAS.out, HNOW.out] at hgone
            rw [HHAD.out, HHAS.out, HWAS.out, HNOW.out] at hstay
            rw [HWAS.out, HNOW.out] at hsame
            have HSAME := Lib.hid hsame
            cases gv with
            | true =>
              obtain ⟨rfl, rfl⟩ := hgone rfl
              clear hgone hstay hsame HSAME HROSE HGV HOV
              cases ov with
              | true =>
                go_wp2_with fail
                go_roundw
                case rel => exact ⟨k + 1, Q2, by omega, by omega, by go_num, hQ2, M8, HMB8⟩
                case measure => simp [intOf]; omega
              | false =>
                go_wp2_with fail
                go_roundw
                case rel => exact ⟨k + 1, Q2, by omega, by omega, by go_num, hQ2, M8, HMB8⟩
                case measure => simp [intOf]; omega
            | false =>
              obtain ⟨hh, hle⟩ := hstay rfl
              have hlt8 : ¬ now < was := by omega
              clear hgone hstay hsame HROSE HGV HOV hle
              have hhh : (had = false) ∨ (had = true ∧ has = true) := by
                cases had
                · exact .inl rfl
                · exact .inr ⟨rfl, hh rfl⟩
              clear hh
              have hoo : (ov = false) ∨ (ov = true ∧ kd = 2) ∨ (ov = true ∧ kd ≠ 2 ∧ now = was) := by
                cases ov
                · exact .inl rfl
                · by_cases h2 : kd = 2
                  · exact .inr (.inl ⟨rfl, h2⟩)
                  · exact .inr (.inr ⟨rfl, h2, HSAME.out rfl rfl⟩)
              clear HSAME
              rcases hhh with rfl | ⟨rfl, rfl⟩
              · rcases hoo with rfl | ⟨rfl, h2⟩ | ⟨rfl, h2, rfl⟩
                · clear kd8
                  go_wp2_with fail
                  go_roundw
                  case rel => exact ⟨k + 1, Q2, by omega, by omega, by go_num, hQ2, M8, HMB8⟩
                  case measure => simp [intOf]; omega
                · have t0 : (kd != 2) = false := by simpa using h2
                  clear h2
                  go_wp2_with fail
                  go_roundw
                  case rel => exact ⟨k + 1, Q2, by omega, by omega, by go_num, hQ2, M8, HMB8⟩
                  case measure => simp [intOf]; omega
                · have t0 : (kd != 2) = true := by simpa using h2
                  clear h2
                  go_wp2_with fail
                  go_roundw
                  case rel => exact ⟨k + 1, Q2, by omega, by omega, by go_num, hQ2, M8, HMB8⟩
                  case measure => simp [intOf]; omega
              · rcases hoo with rfl | ⟨rfl, h2⟩ | ⟨rfl, h2, rfl⟩
                · clear kd8
                  go_wp2_with fail
                  go_roundw
                  case rel => exact ⟨k + 1, Q2, by omega, by omega, by go_num, hQ2, M8, HMB8⟩
                  case measure => simp [intOf]; omega
                · have t0 : (kd != 2) = false := by simpa using h2
                  clear h2
                  go_wp2_with fail
                  go_roundw
                  case rel => exact ⟨k + 1, Q2, by omega, by omega, by go_num, hQ2, M8, HMB8⟩
                  case measure => simp [intOf]; omega
                · have t0 : (kd != 2) = true := by simpa using h2
                  clear h2
                  go_wp2_with fail
                  go_roundw
                  case rel => exact ⟨k + 1, Q2, by omega, by omega, by go_num, hQ2, M8, HMB8⟩
                  case measure => simp [intOf]; omega
    · have hor : ¬ k < n0 ∨ (k < n0 ∧ ¬ k < 80) := by omega
      rcases hor with h1 | ⟨h1, h2⟩
      · have q1 : ¬ (k : Int) < (n0 : Int) := by omega
        clear hlt h1
        go_wp2_with (go_at_call 24; refine (fixed12_any _).mono ?_; rintro e w9 ⟨rfl, h9⟩; have H9 := Lib.hid h9; clear h9)
        go_ret
        exact ⟨rfl, HM.out.bel.trans (H9.out.mono HM.out.bel.size)⟩
      · have q1 : (k : Int) < (n0 : Int) := by omega
        have q2 : ¬ (k : Int) < 80 := by omega
        clear hlt h1 h2
        go_wp2_with (go_at_call 24; refine (fixed12_any _).mono ?_; rintro e w9 ⟨rfl, h9⟩; have H9 := Lib.hid h9; clear h9)
        go_ret
        exact ⟨rfl, HM.out.bel.trans (H9.out.mono HM.out.bel.size)⟩

set_option maxRecDepth 100000 in
set_option maxHeartbeats 1000000 in
theorem lifted (os : Os) (started : os.Started) (H : Type) (enc : TypeId × Value → H) :
    ReturnsInHanded {} Try.checked os 5 .any (Rows.offsetsRiseSpec.pre6 enc Try.prog Try.f5 Rows.offsetsRiseRow.domain false) (Rows.offsetsRiseSpec.post enc Try.prog Try.f5 false true false false) := by
  refine returnsInHanded_of_change (C := Try.checked) own started (by kernel_rfl) Try.func5
    (ChangeSpec.witness6 (enc := enc) (C := Try.checked) false ⟨#[], #[.slice none 0 0, .agg #[.string ByteArray.empty, .string ByteArray.empty, .int .i64 0, .int .i64 0]], []⟩ 8 (by kernel_rfl) (by kernel_rfl) (by kernel_rfl) (by kernel_rfl)) ?_
  intro W base args ds gs before hval0 hW _ _
  have hval : ∀ (j : Nat) t v, Try.f5.params[j]? = some t → args[j]? = some v → Value.okWide Try.prog W .any base t v := hval0
  have hW' := hW
  obtain ⟨p, q, hA0, hV, rfl, hfz, hnd⟩ := hW
  have hA : DataW.TrodAll enc Try.prog W 0 (fun _ => true) true Try.f5.params.toList args.toList ds p := hA0
  rw [Try.params5] at hA hval
  obtain ⟨v0, vs0, d0, ds0, p0, q0, hargs, rfl, rfl, h0, r0⟩ := trodAll_cons hA
  obtain ⟨v1, vs1, d1, ds1, p1, q1, rfl, rfl, rfl, h1, r1⟩ := trodAll_cons r0
  obtain ⟨rfl, rfl, rfl⟩ := trodAll_nil r1
  obtain rfl : args = #[v0, v1] := by cases args; simp_all
  obtain ⟨rfl, rfl⟩ := trodVars_none hV
  have k0 := h0
  have lt0 : ∀ x ∈ p0, x.block < W.heap.size := by obtain ⟨m, hm⟩ := k0; exact DataW.trod_lt m _ _ _ hm
  have k1 := h1
  have lt1 : ∀ x ∈ p1, x.block < W.heap.size := by obtain ⟨m, hm⟩ := k1; exact DataW.trod_lt m _ _ _ hm
  obtain ⟨A0, l0, c0, e0, R0, S0, Z0⟩ := L12.open_ops (hval 0 22 v0 rfl rfl) h0
  subst e0
  obtain ⟨g1, t1, n1, o1, e1, S1⟩ := L12.open_mark (hval 1 32 v1 rfl rfl) h1
  subst e1
  clear hA0 hval0
  refine (walk W A0 l0 c0 R0 S0 Z0 g1 t1 n1 o1 S1).mono fun e W' ⟨he, bel⟩ => ?_
  subst he
  exact ⟨_, rfl, _, _, _, [], _, [], hW', trodAll_mk1 (shut_bool Try.underlying4 _), (trodAll_cons_mk (Below.trod laidOut (by kernel_rfl) (of_decide_eq_true (by kernel_rfl)) k0 bel lt0) (trodAll_cons_mk (Below.trod laidOut (by kernel_rfl) (of_decide_eq_true (by kernel_rfl)) k1 bel lt1) trodAll_mk0)), rfl, bel.frame _, fun h => by cases h⟩

theorem over : Rows.offsetsRiseRow.holds Try.pinned (OpenSpec.ofChange Rows.offsetsRiseSpec) :=
  OpenClaim.holds_of_wide 5 Try.f5 rfl rfl rfl rfl rfl rfl rfl ⟨rfl, rfl, rfl, rfl, rfl⟩ rfl rfl rfl rfl rfl (by kernel_rfl) Try.func5 (by kernel_rfl)
    (of_decide_eq_true (by kernel_rfl)) (by unfold Func.isWrapper; first | (rw [if_pos (by decide +kernel)]; kernel_rfl) | (rw [if_neg (by decide +kernel)]; exact ⟨rfl, rfl⟩))
    (fun os started H enc _ => lifted os started H enc)

/-- the statement -/
theorem proved : Rows.OffsetsRiseSaid :=
  over
#print axioms proved
end Go.Proofs.Ytadpjeolgpiojaa.offsetsRise
