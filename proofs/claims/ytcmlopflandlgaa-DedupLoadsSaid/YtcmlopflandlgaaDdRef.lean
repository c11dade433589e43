/-
  The document's table: where it lies, whether there is a producer, what is remembered of one.
-/
import Derived.Test.YtcmlopflandlgaaDdSame
import Derived.Deep.QuietTactic
namespace Go.Proofs.Ytcmlopflandlgaa.L8
open Go.RowKit
open Go.Maps
open L3 L4

theorem RowsIn.below {w w' : World} {vs : List MV} (h : RowsIn w vs) (hb : Below w.heap.size w w') : RowsIn w' vs := fun v hv => ⟨(h v hv).1.below hb, (h v hv).2⟩
/-- the document's table -/
structure RT (B : Nat) (w : World) (k : Nat) (AE : Option Addr) (cE : Nat) (AL : Option Addr) (cL : Nat) (es : List Int) (vs : List MV) : Prop where
  row : w.heap[k]? = some (.cells #[.slice AE es.length cE, .slice AL vs.length cL] 29 (0, 0))
  eown : w.ownsRow B 3 1 (.slice AE es.length cE) es.length (rowN es)
  lown : w.ownsRow B 48 5 (.slice AL vs.length cL) vs.length (rowM vs)
  rows : RowsIn w vs
section
variable {B : Nat} {w w' : World} {k cE cL : Nat} {AE AL : Option Addr} {es : List Int} {vs : List MV}
theorem RT.c0 (h : RT B w k AE cE AL cL es vs) : w.cell? ⟨k, 0, none⟩ = some (.slice AE es.length cE) := (cell_of_row _ _ 0 _ _ _ h.row).trans rfl
theorem RT.c1 (h : RT B w k AE cE AL cL es vs) : w.cell? ⟨k, 1, none⟩ = some (.slice AL vs.length cL) := (cell_of_row _ _ 1 _ _ _ h.row).trans rfl
theorem RT.froz (h : RT B w k AE cE AL cL es vs) (i : Nat) : w.frozen? ⟨k, i, none⟩ = false := frozen_of_row _ _ _ _ _ h.row
theorem RT.lt (h : RT B w k AE cE AL cL es vs) : k < w.heap.size := (Array.getElem?_eq_some_iff.1 h.row).1
theorem RT.below (h : RT B w k AE cE AL cL es vs) (b : Below w.heap.size w w') : RT B w' k AE cE AL cL es vs :=
  ⟨(b.block k h.lt).trans h.row, own_below h.eown b, own_below h.lown b, h.rows.below b⟩
theorem RT.reads (h : RT B w k AE cE AL cL es vs) : ReadsM w AL vs := ReadsM.own h.lown rfl
theorem RT.kE (h : RT B w k AE cE AL cL es vs) : k ∉ bk AE := fun e => by
  obtain ⟨cs', _, hb⟩ := own_bk h.eown k e
  rw [h.row] at hb; injection hb with e; injection e with _ e; exact absurd e (by decide)
theorem RT.kL (h : RT B w k AE cE AL cL es vs) : k ∉ bk AL := fun e => by
  obtain ⟨cs', _, hb⟩ := own_bk h.lown k e
  rw [h.row] at hb; injection hb with e; injection e with _ e; exact absurd e (by decide)
theorem RT.EL (h : RT B w k AE cE AL cL es vs) : ∀ j ∈ bk AE, j ∉ bk AL := fun j hj e => by
  obtain ⟨_, _, hb⟩ := own_bk h.eown j hj
  obtain ⟨_, _, hb'⟩ := own_bk h.lown j e
  rw [hb] at hb'; injection hb' with e; injection e with _ e; exact absurd e (by decide)
theorem RT.noDid (h : RT B w k AE cE AL cL es vs) : NoDid w (k :: (bk AE ++ bk AL)) := fun j hj cs fr e => by
  rcases List.mem_cons.1 hj with rfl | hj
  · rw [h.row] at e; injection e with e; injection e with _ e; exact absurd e (by decide)
  · rcases List.mem_append.1 hj with hj | hj
    · obtain ⟨_, _, hb⟩ := own_bk h.eown j hj
      rw [hb] at e; injection e with e; injection e with _ e; exact absurd e (by decide)
    · obtain ⟨_, _, hb⟩ := own_bk h.lown j hj
      rw [hb] at e; injection e with e; injection e with _ e; exact absurd e (by decide)
/-- other blocks than its own were turned -/
theorem RT.kept (h : RT B w k AE cE AL cL es vs) (hk : ∀ j ∈ k :: (bk AE ++ bk AL), w'.heap[j]? = w.heap[j]?) (hd : ∀ (k : Nat) (cs : Array Value) (fr : Nat × Nat), w.heap[k]? = some (.cells cs 50 fr) → w'.heap[k]? = w.heap[k]?) : RT B w' k AE cE AL cL es vs :=
  ⟨(hk k (by simp)).trans h.row, own_at h.eown (fun j e => hk j (by rw [blk_own] at e; simp [mem_bk, e])), own_at h.lown (fun j e => hk j (by rw [blk_own] at e; simp [mem_bk, e])), fun v hv => ⟨(h.rows v hv).1.kept hd, (h.rows v hv).2⟩⟩
end

set_option maxRecDepth 100000 in
set_option maxHeartbeats 1000000 in
theorem ris_is {B : Nat} {w : World} {k cE cL : Nat} {AE AL : Option Addr} {es : List Int} {vs : List MV} (id : Int) (v : Bool) (h : Hid (RT B w k AE cE AL cL es vs)) (HV : Hid (decide (1 ≤ id ∧ id ≤ es.length) = v)) :
    Calls Try.prog 28 #[.pointer (some ⟨k, 0, none⟩), .int .i64 id] w fun e w' => e = .returned (.bool v) ∧ w' = w := by
  have c0 := h.out.c0
  go_enter Try.func28, Try.ntmps28
  go_wp2_with fail
  all_goals
    go_ret
    refine ⟨congrArg (fun b => Ending.returned (.bool b)) ?_, rfl⟩
    rw [← HV.out]
    first | (simp [*]; done) | (simp [*]; omega)
theorem ris_q {B : Nat} {w : World} {k cE cL : Nat} {AE AL : Option Addr} {es : List Int} {vs : List MV} (id : Int) (v : Bool) (h : Hid (RT B w k AE cE AL cL es vs)) (HV : Hid (decide (1 ≤ id ∧ id ≤ es.length) = v)) (w1 : World) (hb : Below w.heap.size w w1) :
    Calls Try.prog 28 #[.pointer (some ⟨k, 0, none⟩), .int .i64 id] w1 fun e w' => e = .returned (.bool v) ∧ w' = w1 := ris_is id v (Lib.hid (h.out.below hb)) HV

theorem last_cons (m : Mk) (ms : List Mk) (id : Int) (t : ByteArray) (p : Int) : lastOf (m :: ms) id t p = if isK id t p m = true then m.l else lastOf ms id t p := by
  unfold lastOf
  rw [List.find?_cons]
  cases isK id t p m <;> rfl
theorem drop_at {α : Type} {l : List α} {j : Nat} {x : α} (h : l[j]? = some x) : l.drop j = x :: l.drop (j + 1) := by
  obtain ⟨hj, he⟩ := List.getElem?_eq_some_iff.1 h
  rw [List.drop_eq_getElem_cons hj, he]
/-- what is remembered of a producer and a partition, as it is told -/
def LastP (w : World) (l : List Did) (L : Nat) (e : Ending) (w' : World) : Prop := ∃ X c, e = .returned (.slice X L c) ∧ RowC w' X c l ∧ (X = none → c = 0) ∧ Below w.heap.size w w'
/-- texts and numbers that may be compared -/
def Cmp (ms : List Mk) : Prop := ∀ m ∈ ms, m.t.size ≤ maxLen ∧ (Lit.int .i64 m.p).wf = true
set_option maxRecDepth 100000 in
set_option maxHeartbeats 2000000 in
theorem rlast_is {B : Nat} {w : World} {k cE cL m : Nat} {AE AL : Option Addr} {es : List Int} {vs : List MV} (id p : Int) (t : ByteArray) (l : List Did) (L : Nat) (h : Hid (RT B w k AE cE AL cL es vs)) (hm : Hid (vs.length = m)) (hl : m ≤ 1000000) (HT : Hid (Cmp (vs.map (·.m)))) (ht : t.size ≤ maxLen) (hp : Hid ((Lit.int .i64 p).wf = true)) (Hl : Hid (lastOf (vs.map (·.m)) id t p = l)) (HL : Hid (l.length = L)) :
    Calls Try.prog 30 #[.pointer (some ⟨k, 0, none⟩), .int .i64 id, .agg #[.string t, .int .i64 p]] w (LastP w l L) := by
  obtain ⟨W, hW⟩ : ∃ W, w.alloc (.cells #[.string t, .int .i64 p] 31) = W := ⟨_, rfl⟩
  have hbW : Below w.heap.size w W := by rw [← hW]; exact one_box' _
  have r1 : W.heap[w.heap.size]? = some (.cells #[.string t, .int .i64 p] 31 (0, 0)) := by rw [← hW]; exact heap_alloc_new _ _
  have b0 : W.cell? ⟨w.heap.size, 0, none⟩ = some (.string t) := (cell_of_row _ _ 0 _ _ _ r1).trans rfl
  have b1 : W.cell? ⟨w.heap.size, 1, none⟩ = some (.int .i64 p) := (cell_of_row _ _ 1 _ _ _ r1).trans rfl
  have HTW := Lib.hid (h.out.below hbW)
  have HB0 := Lib.hid b0
  have HB1 := Lib.hid b1
  have HBW := Lib.hid hbW
  have HW := Lib.hid hW
  clear hbW r1 hW b0 b1
  go_enter Try.func30, Try.ntmps30
  go_upto_region 2 with fail
  rw [HW.out]
  go_loopw [7] (fun i wr => ∃ j : Nat, j ≤ m ∧ i = .int .i64 j ∧ Hid (lastOf ((vs.map (·.m)).drop j) id t p = l) ∧ Hid (Below W.heap.size W wr)) (fun i _ => m - (intOf i).toNat)
  case atStart => exact ⟨0, by omega, rfl, Hl, Lib.hid (Below.refl _ _)⟩
  case round =>
    obtain ⟨j, hj, rfl, HJ, HB⟩ := hrel
    have c1 := cell_at HB.out HTW.out.c1
    rw [hm.out] at c1
    by_cases hlt : j < m
    · obtain ⟨g, o, rfl, hg, hc⟩ := HTW.out.reads (by rw [hm.out]; omega)
      obtain ⟨⟨⟨xi, xe, xt, xp, xl⟩, vA, vc⟩, hv⟩ : ∃ v, vs[j]? = some v := ⟨_, List.getElem?_eq_getElem (by rw [hm.out]; omega)⟩
      obtain ⟨d0, d1, d2, d3, d4⟩ := hc j _ hv
      dsimp only at d0 d2 d3 d4
      replace d0 := cell_at HB.out d0; replace d2 := cell_at HB.out d2; replace d3 := cell_at HB.out d3; replace d4 := cell_at HB.out d4
      have b0 := cell_at HB.out HB0.out
      have b1 := cell_at HB.out HB1.out
      have hvm : (vs.map (·.m))[j]? = some ⟨xi, xe, xt, xp, xl⟩ := by rw [List.getElem?_map, hv]; rfl
      have hstep := HJ.out
      rw [drop_at hvm, last_cons] at hstep
      obtain ⟨z1, z2⟩ := HT.out _ (List.mem_of_getElem? hvm)
      dsimp only at z1 z2
      have hrow := HTW.out.rows _ (List.mem_of_getElem? hv)
      have k0 : (0 : Int) ≤ (j : Int) := by omega
      have k1 : (j : Int) < (m : Int) := by omega
      have hq := fun W => eq_parts W xt t xp p z1 z2 ht hp.out
      have HROW := Lib.hid hrow
      have HST := Lib.hid hstep
      clear hc hv hvm hstep z1 z2 hrow d1 hg
      by_cases hid : xi = id
      · subst hid
        by_cases hsm : xt = t ∧ xp = p
        · obtain ⟨rfl, rfl⟩ := hsm
          rw [decide_eq_true (And.intro rfl rfl)] at hq
          have hxl : xl = l := by
            have e := HST.out
            have q : isK xi xt xp ⟨xi, xe, xt, xp, xl⟩ = true := isK_iff.2 ⟨rfl, rfl, rfl⟩
            rw [if_pos q] at e
            exact e
          subst hxl
          rw [HL.out] at d4
          have t1 : (xi == xi) = true := by simp
          go_upto_region 4 with fail
          go_quiet (fail)
          go_wp2_with fail
          go_ret
          have hbn : Below w.heap.size w (wr.drewN nq) := drewN_below (HBW.out.trans (HB.out.mono HBW.out.size)) _
          exact ⟨vA, vc, rfl, HROW.out.1.below (drewN_below HB.out _), HROW.out.2, hbn⟩
        · rw [decide_eq_false hsm] at hq
          have HN : Hid (lastOf ((vs.map (·.m)).drop (j + 1)) xi t p = l) := Lib.hid (by
            have e := HST.out
            rw [if_neg (fun q => hsm (isK_iff.1 q).2)] at e
            exact e)
          have t1 : (xi == xi) = true := by simp
          by_cases ht1 : xt = t
          · subst ht1
            have t2 : (xp == p) = false := by simpa using (fun e => hsm ⟨rfl, e⟩ : ¬ xp = p)
            clear hsm
            go_upto_region 4 with fail
            go_quiet (fail)
            go_wp2_with fail
            go_roundw
            case rel => exact ⟨j + 1, by omega, by go_num, HN, Lib.hid (drewN_below HB.out _)⟩
            case measure => simp [intOf]; omega
          · have t2 : (xt.toList == t.toList) = false := by
              cases q : xt.toList == t.toList
              · rfl
              · exact absurd (txt_eq.1 q) ht1
            clear hsm ht1
            go_upto_region 4 with fail
            go_quiet (fail)
            go_wp2_with fail
            go_roundw
            case rel => exact ⟨j + 1, by omega, by go_num, HN, Lib.hid (drewN_below HB.out _)⟩
            case measure => simp [intOf]; omega
      · have t1 : (xi == id) = false := by simpa using hid
        have HN : Hid (lastOf ((vs.map (·.m)).drop (j + 1)) id t p = l) := Lib.hid (by
          have e := HST.out
          rw [if_neg (fun q => hid (isK_iff.1 q).1)] at e
          exact e)
        clear hq
        go_upto_region 4 with fail
        go_quiet (fail)
        go_wp2_with fail
        go_roundw
        case rel => exact ⟨j + 1, by omega, by go_num, HN, Lib.hid (drewN_below HB.out _)⟩
        case measure => simp [intOf]; omega
    · obtain rfl : j = m := by omega
      have hlz : l = [] := by
        have e := HJ.out
        rw [List.drop_of_length_le (by rw [List.length_map, hm.out]; exact Nat.le_refl _)] at e
        rw [← e]; rfl
      subst hlz
      have hL0 : L = 0 := by rw [← HL.out]; rfl
      subst hL0
      have k1 : ¬ (j : Int) < (j : Int) := by omega
      clear hlt
      go_wp2_with fail
      go_ret
      exact ⟨none, 0, rfl, ⟨rowD_nil _ _, by simp⟩, fun _ => rfl, HBW.out.trans (HB.out.mono HBW.out.size)⟩
end Go.Proofs.Ytcmlopflandlgaa.L8
