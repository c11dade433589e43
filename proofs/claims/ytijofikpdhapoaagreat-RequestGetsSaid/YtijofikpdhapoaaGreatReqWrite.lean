/-
  Contracts: the writer: it writes what a command has.
-/
import Derived.Test.YtijofikpdhapoaaGreatMReqChk
import Derived.Test.YtijofikpdhapoaaGreatMText
import Derived.Deep.RegionHeld
import Derived.Lib.Hide
namespace Go.Proofs.YtijofikpdhapoaaGreat.L4
open Go.RowKit
open L3
open Go.Lib (strCells wpList_append_own_string run_append_own_string)

/-- an append of a text to a row of bytes, as one step of a region that draws -/
theorem step_append_str {ops : Array Oper} {o : Oper} {a : Act} {w : World} {K : Act → World → Prop} {Q : Exit → Act → World → Prop} {E : Prop}
    (hg : o.guard = none) (sl x : Operand) (hop : o.op = Op.call { callee := Callee.builtin Builtin.append, args := #[sl, x], argTypes := #[87, 9] })
    (base : Nat) (v : Value) (S s : ByteArray) (hs : a.eval sl = v) (hown : w.ownsRow base 5 1 v S.size (strCells S)) (hx : a.eval x = .string s)
    (h63 : S.size + s.size ≤ 1000000) (hbase : base ≤ w.heap.size)
    (hK : ∀ v' w', w'.ownsRow base 5 1 v' (S ++ s).size (strCells (S ++ s)) → w.grownBy w' v.ownBlock → K (a.put o.dst v') w') :
    if Region.wanted o (yielded ops a.tmps) = true then Oper.wp Tryz.prog o a w K Q else E := by
  have hw : Region.wanted o (yielded ops a.tmps) = true := by simp [Region.wanted, hg]
  rw [if_pos hw]
  obtain ⟨b0, hb0, hbz, hby, hbb⟩ := info_parts byteInfo
  obtain ⟨v', w', hr, h2, h3, _⟩ := run_append_own_string (P := Tryz.prog) w base 87 9 o.type 5 b0 Tryz.underlying87 Tryz.underlying9 hb0 hbz hby hbb v S.size (strCells S) hown s (by unfold maxLen; omega) (by omega) hbase
  unfold Oper.wp execOp
  simp only [hop, resolve, invoke, builtin, Sem.run_bind, Sem.run_pure, Result.andThen_ok, List.map_toArray, List.map_cons, List.map_nil, hs, hx, hr]
  exact hK _ _ (by rw [ByteArray.size_append, ← strCells_app]; exact h2) h3

theorem own_slice {w : World} {base n : Nat} {T : TypeId} {v : Value} {xs : List Value} (h : w.ownsRow base T 1 v n xs) : ∃ A c, v = .slice A n c := by
  rcases h.2 with ⟨rfl, h0⟩ | ⟨g, cap, cur, rfl, _⟩
  · exact ⟨none, 0, by rw [h0]⟩
  · exact ⟨_, _, rfl⟩

def writerV (W0 : World) (P : Nat) (item : Nat → ByteArray) : Vis where
  S := ByteArray
  Inv S w := ∃ v, w.heap[P]? = some (.cells #[v] 89 (0, 0)) ∧ w.ownsRow (P + 1) 5 1 v S.size (strCells S) ∧ Below W0.heap.size W0 w
  own w b := b = P ∨ ∃ cs fr, w.heap[b]? = some (.cells cs 5 fr)
  step k S := S ++ item k
  G S := S.size ≤ 200000

section
variable {W0 : World} {P : Nat} {item : Nat → ByteArray}

theorem row_lt' {w : World} {b : Nat} {x : Obj} (h : w.heap[b]? = some x) : b < w.heap.size := (Array.getElem?_eq_some_iff.1 h).1
theorem row_keep' {w w' : World} {b : Nat} {x : Obj} (h : w.heap[b]? = some x) (hb : Below w.heap.size w w') : w'.heap[b]? = some x := (hb.block b (row_lt' h)).trans h
theorem writer_fits : Fits (writerV W0 P item) where
  stab := fun st w w' h hb => by
    obtain ⟨v, h1, h2, h3⟩ := h
    exact ⟨v, row_keep' h1 hb, own_below h2 hb, h3.trans (hb.mono h3.size)⟩
  ownB := fun st w w' b h hb hl ho => by
    rcases ho with q | ⟨cs, fr, q⟩
    · exact .inl q
    · exact .inr ⟨cs, fr, (hb.block b hl).symm.trans q⟩
  box := fun st w cs h ho => by
    obtain ⟨v, h1, h2, h3⟩ := h
    rcases ho with q | ⟨cs', fr, q⟩
    · have := row_lt' h1
      omega
    · rw [heap_alloc_new] at q
      injection q with q
      injection q with _ q _
      exact absurd q (by decide)

/-- behind an append of a text, and the store of the longer row -/
theorem writer_app (hP : W0.heap.size ≤ P) {S s : ByteArray} {w wx w2 : World} {v v' : Value} (h1 : w.heap[P]? = some (.cells #[v] 89 (0, 0))) (h2 : w.ownsRow (P + 1) 5 1 v S.size (strCells S)) (h3 : Below W0.heap.size W0 w)
    (hb : Below w.heap.size w wx) (ho : w2.ownsRow (P + 1) 5 1 v' (S ++ s).size (strCells (S ++ s))) (hg : wx.grownBy w2 v.ownBlock) {e : Ending} (he : e = .returned (.tuple #[])) :
    e = .returned (.tuple #[]) ∧ (writerV W0 P item).Inv (S ++ s) (w2.setCell ⟨P, 0, none⟩ v') ∧ Kp (writerV W0 P item).own w (w2.setCell ⟨P, 0, none⟩ v') := by
  have hlt := row_lt' h1
  have hvb : ∀ k, v.ownBlock = some k → P + 1 ≤ k ∧ k < w.heap.size := h2.lt
  have hsz : w.heap.size ≤ w2.heap.size := Nat.le_trans hb.size hg.size
  have hold : ∀ b, b < w.heap.size → some b ≠ v.ownBlock → w2.heap[b]? = w.heap[b]? := fun b hl hn => (hg.block b (Nat.lt_of_lt_of_le hl hb.size) hn).trans (hb.block b hl)
  have hPo : w2.heap[P]? = some (.cells #[v] 89 (0, 0)) := (hold P hlt (fun q => by have := (hvb P q.symm).1; omega)).trans h1
  refine ⟨he, ⟨v', (heap_setCell_same _ P 0 _ _ v' hPo).trans rfl, ownsRow_setCell_below ho (a := ⟨P, 0, none⟩) (Nat.lt_succ_self P) v', ?_⟩, by simp; exact hsz, fun b hl hn => ?_⟩
  · refine Below.setCell ?_ (p := ⟨P, 0, none⟩) hP v'
    exact (h3.trans (hb.mono h3.size)).grown hg (Nat.le_trans h3.size hb.size) (fun k q => by have := (hvb k q).1; omega)
  · have n1 : b ≠ P := fun q => hn (.inl q)
    have n2 : some b ≠ v.ownBlock := fun q => by
      rcases h2.2 with ⟨e1, _⟩ | ⟨g, cap, cur, e1, _, hgc, _⟩
      · rw [e1] at q
        simp [Value.ownBlock] at q
      · rw [e1] at q
        have q' : b = g := by simpa [Value.ownBlock] using q
        subst q'
        exact hn (.inr ⟨_, _, hgc⟩)
    have e1 : (w2.setCell ⟨P, 0, none⟩ v').heap[b]? = w.heap[b]? := (heap_setCell_other _ ⟨P, 0, none⟩ b v' n1).trans (hold b hl n2)
    refine ⟨e1, fun q => ?_⟩
    rcases q with q | ⟨cs, fr, q⟩
    · exact n1 q
    · exact hn (.inr ⟨cs, fr, e1.symm.trans q⟩)


set_option maxRecDepth 100000 in
set_option maxHeartbeats 2000000 in
theorem w_put (hP : W0.heap.size ≤ P) (n : Int) (s : ByteArray) (h0 : 0 ≤ n) (h1 : n ≤ 1099511627776) (hs : Hid (V.put n.toNat = s)) (S : ByteArray) (w : World) (hG : S.size ≤ 300000) (h : (writerV W0 P item).Inv S w) :
    Calls Tryz.prog 36 #[.pointer (some ⟨P, 0, none⟩), .int .i64 n] w (fun e w' => e = .returned (.tuple #[]) ∧ (writerV W0 P item).Inv (S ++ s) w' ∧ Kp (writerV W0 P item).own w w') := by
  have c0 : IntKind.u64.wrap n = n := by rw [IntKind.wrap_u64]; omega
  have HN0 := Lib.hid h0
  have HN1 := Lib.hid h1
  have HSZ : Hid (S.size + s.size ≤ 1000000) := Lib.hid (by have := put_le n (by omega); rw [hs.out] at this; omega)
  clear h0 h1 hG
  obtain ⟨v, h1, h2, h3⟩ := h
  have H1 := Lib.hid h1
  have H2 := Lib.hid h2
  have H3 := Lib.hid h3
  have HLT := Lib.hid (row_lt' h1)
  have vc : w.cell? ⟨P, 0, none⟩ = some v := (cell_of_row _ _ 0 _ _ _ h1).trans rfl
  have vf : w.frozen? ⟨P, 0, none⟩ = false := frozen_of_row _ _ 0 _ _ h1
  clear h1 h2 h3
  go_enter Tryz.func36, Tryz.ntmps36
  go_wp2_with fail
  refine wp_region_held_drew (S := fun _ => True) (by kernel_rfl) trivial (fun hHeld => ?_)
  refine wpAnyH_take (i := 0) (oi := ?o1) (v := ?v1) ?a1 (by kernel_rfl) (by kernel_rfl) (by kernel_rfl) ?q1 (Or.inl ⟨?g1, ?y1⟩) (by assumption) ?r1; (case' a1 => (simp only [List.getElem?_toArray, List.getElem?_cons_zero]; rfl)); (case' q1 => (exact fun _ _ _ h => h)); (case' g1 => rfl); (case' y1 => (intro w hSw; (try dsimp only at hSw); go_simp; try with_reducible rfl)); (case' r1 => (try simp only [Act.put, List.setIfInBounds_toArray, List.set_cons_zero, List.set_cons_succ]))
  refine wpAnyH_take (i := 1) (oi := ?o2) (v := ?v2) ?a2 (by kernel_rfl) (by kernel_rfl) (by kernel_rfl) ?q2 (Or.inl ⟨?g2, ?y2⟩) (by assumption) ?r2; (case' a2 => (simp only [List.getElem?_toArray, List.getElem?_cons_zero, List.getElem?_cons_succ]; rfl)); (case' q2 => (exact fun _ _ _ h => h)); (case' g2 => rfl); (case' y2 => (intro w hSw; (try dsimp only at hSw); go_simp; try with_reducible rfl)); (case' r2 => (try simp only [Act.put, List.setIfInBounds_toArray, List.set_cons_zero, List.set_cons_succ]))
  refine wpAnyH_take (i := 2) (oi := ?o3) (v := ?v3) ?a3 (by kernel_rfl) (by kernel_rfl) (by kernel_rfl) ?q3 (Or.inl ⟨?g3, ?y3⟩) (by assumption) ?r3; (case' a3 => (simp only [List.getElem?_toArray, List.getElem?_cons_zero, List.getElem?_cons_succ]; rfl)); (case' q3 => (exact fun _ _ _ h => h)); (case' g3 => rfl); (case' y3 => (intro w hSw; (try dsimp only at hSw); go_simp; try with_reducible rfl)); (case' r3 => (try simp only [Act.put, List.setIfInBounds_toArray, List.set_cons_zero, List.set_cons_succ]))
  refine wpAnyH_take (i := 3) (oi := ?o4) (v := ?v4) ?a4 (by kernel_rfl) (by kernel_rfl) (by kernel_rfl) ?q4 (Or.inl ⟨?g4, ?y4⟩) (by assumption) ?r4; (case' a4 => (simp only [List.getElem?_toArray, List.getElem?_cons_zero, List.getElem?_cons_succ]; rfl)); (case' q4 => (exact fun _ _ _ h => h)); (case' g4 => rfl); (case' y4 => (intro w hSw; (try dsimp only at hSw); go_simp; try with_reducible rfl)); (case' r4 => (try simp only [Act.put, List.setIfInBounds_toArray, List.set_cons_zero, List.set_cons_succ]))
  refine wpAnyH_take (i := 5) (oi := ?o5) (v := ?v5) ?a5 (by kernel_rfl) (by kernel_rfl) (by kernel_rfl) ?q5 (Or.inl ⟨?g5, ?y5⟩) (by assumption) ?r5; (case' a5 => (simp only [List.getElem?_toArray, List.getElem?_cons_zero, List.getElem?_cons_succ]; rfl)); (case' q5 => (exact fun _ _ _ h => h)); (case' g5 => rfl); (case' y5 => (intro w hSw; (try dsimp only at hSw); go_simp; try with_reducible rfl)); (case' r5 => (try simp only [Act.put, List.setIfInBounds_toArray, List.set_cons_zero, List.set_cons_succ]))
  refine wpAnyH_take (i := 6) (oi := ?o6) (v := ?v6) ?a6 (by kernel_rfl) (by kernel_rfl) (by kernel_rfl) ?q6 (Or.inl ⟨?g6, ?y6⟩) (by assumption) ?r6; (case' a6 => (simp only [List.getElem?_toArray, List.getElem?_cons_zero, List.getElem?_cons_succ]; rfl)); (case' q6 => (exact fun _ _ _ h => h)); (case' g6 => rfl); (case' y6 => (intro w hSw; (try dsimp only at hSw); go_simp; try with_reducible rfl)); (case' r6 => (try simp only [Act.put, List.setIfInBounds_toArray, List.set_cons_zero, List.set_cons_succ]))
  refine wpAnyH_ready (rs := [4, 7]) (by kernel_rfl) (by simp) ?_
  refine AllReadyH.cons (o := ?o7) ?a7 (fun K hK => ?s7) ?m7; (case' a7 => (simp only [List.getElem?_toArray, List.getElem?_cons_zero, List.getElem?_cons_succ]; rfl))
  case s7 =>
    go_simp
    refine hK.out _ _ (trivial) (fun hHeld => ?_)
    clear hK K
    (try simp only [Act.put, List.setIfInBounds_toArray, List.set_cons_zero, List.set_cons_succ])
    refine wpAnyH_ready (rs := [7]) (by kernel_rfl) (by simp) ?_
    refine AllReadyH.cons (o := ?o8) ?a8 (fun K hK => ?s8) ?m8; (case' a8 => (simp only [List.getElem?_toArray, List.getElem?_cons_zero, List.getElem?_cons_succ]; rfl))
    case s8 =>
      go_simp
      go_at_call 61
      refine (iput_is _ _ _ HN0.out HN1.out hs).mono ?_
      rintro e wn ⟨rfl, hbn⟩
      have hbx : Below w.heap.size w wn := ((Below.refl w.heap.size w).drew).trans hbn
      have vcn : wn.cell? ⟨P, 0, none⟩ = some v := (hbx.cell (p := ⟨P, 0, none⟩) HLT.out).trans vc
      go_wp2_with fail
      refine hK.out _ _ (trivial) (fun hHeld => ?_)
      clear hK K
      (try simp only [Act.put, List.setIfInBounds_toArray, List.set_cons_zero, List.set_cons_succ])
      refine wpAnyH_ready (rs := [8]) (by kernel_rfl) (by simp) ?_
      refine AllReadyH.cons (o := ?o9) ?a9 (fun K hK => ?s9) ?m9; (case' a9 => (simp only [List.getElem?_toArray, List.getElem?_cons_zero, List.getElem?_cons_succ]; rfl))
      case s9 =>
        refine step_append_str (by rfl) (.tmp 8) (.tmp 11) (by rfl) (P + 1) v S s (by rfl) (own_below H2.out hbx) (by rfl) HSZ.out (Nat.le_trans HLT.out hbx.size) ?_
        intro v' w3 hown3 hgrow
        rw [ByteArray.size_append] at hown3
        obtain ⟨A3, c3, rfl⟩ := own_slice hown3
        refine hK.out _ _ (trivial) (fun hHeld => ?_)
        clear hK K
        (try simp only [Act.put, List.setIfInBounds_toArray, List.set_cons_zero, List.set_cons_succ])
        refine wpAnyH_take (i := 9) (oi := ?o10) (v := ?v10) ?a10 (by kernel_rfl) (by kernel_rfl) (by kernel_rfl) ?q10 (Or.inl ⟨?g10, ?y10⟩) (by assumption) ?r10; (case' a10 => (simp only [List.getElem?_toArray, List.getElem?_cons_zero, List.getElem?_cons_succ]; rfl)); (case' q10 => (exact fun _ _ _ h => h)); (case' g10 => rfl); (case' y10 => (intro w hSw; (try dsimp only at hSw); go_simp; try with_reducible rfl)); (case' r10 => (try simp only [Act.put, List.setIfInBounds_toArray, List.set_cons_zero, List.set_cons_succ]))
        refine wpAnyH_take (i := 10) (oi := ?o11) (v := ?v11) ?a11 (by kernel_rfl) (by kernel_rfl) (by kernel_rfl) ?q11 (Or.inl ⟨?g11, ?y11⟩) (by assumption) ?r11; (case' a11 => (simp only [List.getElem?_toArray, List.getElem?_cons_zero, List.getElem?_cons_succ]; rfl)); (case' q11 => (exact fun _ _ _ h => h)); (case' g11 => rfl); (case' y11 => (intro w hSw; (try dsimp only at hSw); go_simp; try with_reducible rfl)); (case' r11 => (try simp only [Act.put, List.setIfInBounds_toArray, List.set_cons_zero, List.set_cons_succ]))
        refine wpAnyH_ready (rs := [11]) (by kernel_rfl) (by simp) ?_
        refine AllReadyH.cons (o := ?o12) ?a12 (fun K hK => ?s12) ?m12; (case' a12 => (simp only [List.getElem?_toArray, List.getElem?_cons_zero, List.getElem?_cons_succ]; rfl))
        case s12 =>
          have zc : w3.cell? ⟨P, 0, none⟩ = some v := (hgrow.cell_far ⟨P, 0, none⟩ (by show P < _; exact Nat.lt_of_lt_of_le HLT.out hbx.size) (fun q => by have := (H2.out.lt P q.symm).1; omega)).trans ((hbx.cell (p := ⟨P, 0, none⟩) HLT.out).trans vc)
          have zf : w3.frozen? ⟨P, 0, none⟩ = false := (hgrow.frozen_far ⟨P, 0, none⟩ (by show P < _; exact Nat.lt_of_lt_of_le HLT.out hbx.size) (fun q => by have := (H2.out.lt P q.symm).1; omega)).trans ((hbx.frozen (p := ⟨P, 0, none⟩) HLT.out).trans vf)
          go_simp
          refine hK.out _ _ (trivial) (fun hHeld => ?_)
          clear hK K
          (try simp only [Act.put, List.setIfInBounds_toArray, List.set_cons_zero, List.set_cons_succ])
          refine wpAnyH_done (by kernel_rfl) ?_ _
          go_wp2_with fail
          go_end0
          exact writer_app hP H1.out H2.out H3.out hbx (by rw [ByteArray.size_append]; exact hown3) hgrow rfl
        exact AllReadyH.nil
      exact AllReadyH.nil
    exact AllReadyH.nil
  refine AllReadyH.cons (o := ?o13) ?a13 (fun K hK => ?s13) ?m13; (case' a13 => (simp only [List.getElem?_toArray, List.getElem?_cons_zero, List.getElem?_cons_succ]; rfl))
  case s13 =>
    go_simp
    go_at_call 61
    refine (iput_is _ _ _ HN0.out HN1.out hs).mono ?_
    rintro e wn ⟨rfl, hbn⟩
    have hbx : Below w.heap.size w wn := ((Below.refl w.heap.size w).drew).trans hbn
    have vcn : wn.cell? ⟨P, 0, none⟩ = some v := (hbx.cell (p := ⟨P, 0, none⟩) HLT.out).trans vc
    go_wp2_with fail
    refine hK.out _ _ (trivial) (fun hHeld => ?_)
    clear hK K
    (try simp only [Act.put, List.setIfInBounds_toArray, List.set_cons_zero, List.set_cons_succ])
    refine wpAnyH_ready (rs := [4]) (by kernel_rfl) (by simp) ?_
    refine AllReadyH.cons (o := ?o14) ?a14 (fun K hK => ?s14) ?m14; (case' a14 => (simp only [List.getElem?_toArray, List.getElem?_cons_zero, List.getElem?_cons_succ]; rfl))
    case s14 =>
      go_simp
      refine hK.out _ _ (trivial) (fun hHeld => ?_)
      clear hK K
      (try simp only [Act.put, List.setIfInBounds_toArray, List.set_cons_zero, List.set_cons_succ])
      refine wpAnyH_ready (rs := [8]) (by kernel_rfl) (by simp) ?_
      refine AllReadyH.cons (o := ?o15) ?a15 (fun K hK => ?s15) ?m15; (case' a15 => (simp only [List.getElem?_toArray, List.getElem?_cons_zero, List.getElem?_cons_succ]; rfl))
      case s15 =>
        refine step_append_str (by rfl) (.tmp 8) (.tmp 11) (by rfl) (P + 1) v S s (by rfl) (own_below H2.out hbx) (by rfl) HSZ.out (Nat.le_trans HLT.out hbx.size) ?_
        intro v' w3 hown3 hgrow
        rw [ByteArray.size_append] at hown3
        obtain ⟨A3, c3, rfl⟩ := own_slice hown3
        refine hK.out _ _ (trivial) (fun hHeld => ?_)
        clear hK K
        (try simp only [Act.put, List.setIfInBounds_toArray, List.set_cons_zero, List.set_cons_succ])
        refine wpAnyH_take (i := 9) (oi := ?o16) (v := ?v16) ?a16 (by kernel_rfl) (by kernel_rfl) (by kernel_rfl) ?q16 (Or.inl ⟨?g16, ?y16⟩) (by assumption) ?r16; (case' a16 => (simp only [List.getElem?_toArray, List.getElem?_cons_zero, List.getElem?_cons_succ]; rfl)); (case' q16 => (exact fun _ _ _ h => h)); (case' g16 => rfl); (case' y16 => (intro w hSw; (try dsimp only at hSw); go_simp; try with_reducible rfl)); (case' r16 => (try simp only [Act.put, List.setIfInBounds_toArray, List.set_cons_zero, List.set_cons_succ]))
        refine wpAnyH_take (i := 10) (oi := ?o17) (v := ?v17) ?a17 (by kernel_rfl) (by kernel_rfl) (by kernel_rfl) ?q17 (Or.inl ⟨?g17, ?y17⟩) (by assumption) ?r17; (case' a17 => (simp only [List.getElem?_toArray, List.getElem?_cons_zero, List.getElem?_cons_succ]; rfl)); (case' q17 => (exact fun _ _ _ h => h)); (case' g17 => rfl); (case' y17 => (intro w hSw; (try dsimp only at hSw); go_simp; try with_reducible rfl)); (case' r17 => (try simp only [Act.put, List.setIfInBounds_toArray, List.set_cons_zero, List.set_cons_succ]))
        refine wpAnyH_ready (rs := [11]) (by kernel_rfl) (by simp) ?_
        refine AllReadyH.cons (o := ?o18) ?a18 (fun K hK => ?s18) ?m18; (case' a18 => (simp only [List.getElem?_toArray, List.getElem?_cons_zero, List.getElem?_cons_succ]; rfl))
        case s18 =>
          have zc : w3.cell? ⟨P, 0, none⟩ = some v := (hgrow.cell_far ⟨P, 0, none⟩ (by show P < _; exact Nat.lt_of_lt_of_le HLT.out hbx.size) (fun q => by have := (H2.out.lt P q.symm).1; omega)).trans ((hbx.cell (p := ⟨P, 0, none⟩) HLT.out).trans vc)
          have zf : w3.frozen? ⟨P, 0, none⟩ = false := (hgrow.frozen_far ⟨P, 0, none⟩ (by show P < _; exact Nat.lt_of_lt_of_le HLT.out hbx.size) (fun q => by have := (H2.out.lt P q.symm).1; omega)).trans ((hbx.frozen (p := ⟨P, 0, none⟩) HLT.out).trans vf)
          go_simp
          refine hK.out _ _ (trivial) (fun hHeld => ?_)
          clear hK K
          (try simp only [Act.put, List.setIfInBounds_toArray, List.set_cons_zero, List.set_cons_succ])
          refine wpAnyH_done (by kernel_rfl) ?_ _
          go_wp2_with fail
          go_end0
          exact writer_app hP H1.out H2.out H3.out hbx (by rw [ByteArray.size_append]; exact hown3) hgrow rfl
        exact AllReadyH.nil
      exact AllReadyH.nil
    exact AllReadyH.nil
  exact AllReadyH.nil

set_option maxRecDepth 100000 in
set_option maxHeartbeats 2000000 in
theorem w_name (hP : W0.heap.size ≤ P) (t s : ByteArray) (q : Value) (ht : Hid (t.size ≤ 100000)) (hs : Hid (txt t = s)) (S : ByteArray) (w : World) (hG : S.size ≤ 300000) (h : (writerV W0 P item).Inv S w) :
    Calls Tryz.prog 39 #[.pointer (some ⟨P, 0, none⟩), .string t, q] w (fun e w' => e = .returned (.tuple #[]) ∧ (writerV W0 P item).Inv (S ++ s) w' ∧ Kp (writerV W0 P item).own w w') := by
  have HSZ : Hid (S.size + s.size ≤ 1000000) := Lib.hid (by have := txt_size t (by have := ht.out; omega); have := ht.out; rw [← hs.out]; omega)
  have ht2 : Hid (t.size ≤ 281474976710656) := Lib.hid (by have := ht.out; omega)
  clear hG
  obtain ⟨v, h1, h2, h3⟩ := h
  have H1 := Lib.hid h1
  have H2 := Lib.hid h2
  have H3 := Lib.hid h3
  have HLT := Lib.hid (row_lt' h1)
  have vc : w.cell? ⟨P, 0, none⟩ = some v := (cell_of_row _ _ 0 _ _ _ h1).trans rfl
  have vf : w.frozen? ⟨P, 0, none⟩ = false := frozen_of_row _ _ 0 _ _ h1
  clear h1 h2 h3
  go_enter Tryz.func39, Tryz.ntmps39
  go_wp2_with fail
  refine wp_region_held_drew (S := fun _ => True) (by kernel_rfl) trivial (fun hHeld => ?_)
  refine wpAnyH_take (i := 0) (oi := ?o19) (v := ?v19) ?a19 (by kernel_rfl) (by kernel_rfl) (by kernel_rfl) ?q19 (Or.inl ⟨?g19, ?y19⟩) (by assumption) ?r19; (case' a19 => (simp only [List.getElem?_toArray, List.getElem?_cons_zero]; rfl)); (case' q19 => (exact fun _ _ _ h => h)); (case' g19 => rfl); (case' y19 => (intro w hSw; (try dsimp only at hSw); go_simp; try with_reducible rfl)); (case' r19 => (try simp only [Act.put, List.setIfInBounds_toArray, List.set_cons_zero, List.set_cons_succ]))
  refine wpAnyH_take (i := 1) (oi := ?o20) (v := ?v20) ?a20 (by kernel_rfl) (by kernel_rfl) (by kernel_rfl) ?q20 (Or.inl ⟨?g20, ?y20⟩) (by assumption) ?r20; (case' a20 => (simp only [List.getElem?_toArray, List.getElem?_cons_zero, List.getElem?_cons_succ]; rfl)); (case' q20 => (exact fun _ _ _ h => h)); (case' g20 => rfl); (case' y20 => (intro w hSw; (try dsimp only at hSw); go_simp; try with_reducible rfl)); (case' r20 => (try simp only [Act.put, List.setIfInBounds_toArray, List.set_cons_zero, List.set_cons_succ]))
  refine wpAnyH_take (i := 2) (oi := ?o21) (v := ?v21) ?a21 (by kernel_rfl) (by kernel_rfl) (by kernel_rfl) ?q21 (Or.inl ⟨?g21, ?y21⟩) (by assumption) ?r21; (case' a21 => (simp only [List.getElem?_toArray, List.getElem?_cons_zero, List.getElem?_cons_succ]; rfl)); (case' q21 => (exact fun _ _ _ h => h)); (case' g21 => rfl); (case' y21 => (intro w hSw; (try dsimp only at hSw); go_simp; try with_reducible rfl)); (case' r21 => (try simp only [Act.put, List.setIfInBounds_toArray, List.set_cons_zero, List.set_cons_succ]))
  refine wpAnyH_take (i := 3) (oi := ?o22) (v := ?v22) ?a22 (by kernel_rfl) (by kernel_rfl) (by kernel_rfl) ?q22 (Or.inl ⟨?g22, ?y22⟩) (by assumption) ?r22; (case' a22 => (simp only [List.getElem?_toArray, List.getElem?_cons_zero, List.getElem?_cons_succ]; rfl)); (case' q22 => (exact fun _ _ _ h => h)); (case' g22 => rfl); (case' y22 => (intro w hSw; (try dsimp only at hSw); go_simp; try with_reducible rfl)); (case' r22 => (try simp only [Act.put, List.setIfInBounds_toArray, List.set_cons_zero, List.set_cons_succ]))
  refine wpAnyH_take (i := 5) (oi := ?o23) (v := ?v23) ?a23 (by kernel_rfl) (by kernel_rfl) (by kernel_rfl) ?q23 (Or.inl ⟨?g23, ?y23⟩) (by assumption) ?r23; (case' a23 => (simp only [List.getElem?_toArray, List.getElem?_cons_zero, List.getElem?_cons_succ]; rfl)); (case' q23 => (exact fun _ _ _ h => h)); (case' g23 => rfl); (case' y23 => (intro w hSw; (try dsimp only at hSw); go_simp; try with_reducible rfl)); (case' r23 => (try simp only [Act.put, List.setIfInBounds_toArray, List.set_cons_zero, List.set_cons_succ]))
  refine wpAnyH_ready (rs := [4, 6]) (by kernel_rfl) (by simp) ?_
  refine AllReadyH.cons (o := ?o24) ?a24 (fun K hK => ?s24) ?m24; (case' a24 => (simp only [List.getElem?_toArray, List.getElem?_cons_zero, List.getElem?_cons_succ]; rfl))
  case s24 =>
    go_simp
    refine hK.out _ _ (trivial) (fun hHeld => ?_)
    clear hK K
    (try simp only [Act.put, List.setIfInBounds_toArray, List.set_cons_zero, List.set_cons_succ])
    refine wpAnyH_ready (rs := [6]) (by kernel_rfl) (by simp) ?_
    refine AllReadyH.cons (o := ?o25) ?a25 (fun K hK => ?s25) ?m25; (case' a25 => (simp only [List.getElem?_toArray, List.getElem?_cons_zero, List.getElem?_cons_succ]; rfl))
    case s25 =>
      go_simp
      go_at_call 69
      refine (txtput_is _ _ _ ht2.out hs).mono ?_
      rintro e wn ⟨rfl, hbn⟩
      have hbx : Below w.heap.size w wn := ((Below.refl w.heap.size w).drew).trans hbn
      have vcn : wn.cell? ⟨P, 0, none⟩ = some v := (hbx.cell (p := ⟨P, 0, none⟩) HLT.out).trans vc
      go_wp2_with fail
      refine hK.out _ _ (trivial) (fun hHeld => ?_)
      clear hK K
      (try simp only [Act.put, List.setIfInBounds_toArray, List.set_cons_zero, List.set_cons_succ])
      refine wpAnyH_ready (rs := [7]) (by kernel_rfl) (by simp) ?_
      refine AllReadyH.cons (o := ?o26) ?a26 (fun K hK => ?s26) ?m26; (case' a26 => (simp only [List.getElem?_toArray, List.getElem?_cons_zero, List.getElem?_cons_succ]; rfl))
      case s26 =>
        refine step_append_str (by rfl) (.tmp 10) (.tmp 12) (by rfl) (P + 1) v S s (by rfl) (own_below H2.out hbx) (by rfl) HSZ.out (Nat.le_trans HLT.out hbx.size) ?_
        intro v' w3 hown3 hgrow
        rw [ByteArray.size_append] at hown3
        obtain ⟨A3, c3, rfl⟩ := own_slice hown3
        refine hK.out _ _ (trivial) (fun hHeld => ?_)
        clear hK K
        (try simp only [Act.put, List.setIfInBounds_toArray, List.set_cons_zero, List.set_cons_succ])
        refine wpAnyH_take (i := 8) (oi := ?o27) (v := ?v27) ?a27 (by kernel_rfl) (by kernel_rfl) (by kernel_rfl) ?q27 (Or.inl ⟨?g27, ?y27⟩) (by assumption) ?r27; (case' a27 => (simp only [List.getElem?_toArray, List.getElem?_cons_zero, List.getElem?_cons_succ]; rfl)); (case' q27 => (exact fun _ _ _ h => h)); (case' g27 => rfl); (case' y27 => (intro w hSw; (try dsimp only at hSw); go_simp; try with_reducible rfl)); (case' r27 => (try simp only [Act.put, List.setIfInBounds_toArray, List.set_cons_zero, List.set_cons_succ]))
        refine wpAnyH_take (i := 9) (oi := ?o28) (v := ?v28) ?a28 (by kernel_rfl) (by kernel_rfl) (by kernel_rfl) ?q28 (Or.inl ⟨?g28, ?y28⟩) (by assumption) ?r28; (case' a28 => (simp only [List.getElem?_toArray, List.getElem?_cons_zero, List.getElem?_cons_succ]; rfl)); (case' q28 => (exact fun _ _ _ h => h)); (case' g28 => rfl); (case' y28 => (intro w hSw; (try dsimp only at hSw); go_simp; try with_reducible rfl)); (case' r28 => (try simp only [Act.put, List.setIfInBounds_toArray, List.set_cons_zero, List.set_cons_succ]))
        refine wpAnyH_ready (rs := [10]) (by kernel_rfl) (by simp) ?_
        refine AllReadyH.cons (o := ?o29) ?a29 (fun K hK => ?s29) ?m29; (case' a29 => (simp only [List.getElem?_toArray, List.getElem?_cons_zero, List.getElem?_cons_succ]; rfl))
        case s29 =>
          have zc : w3.cell? ⟨P, 0, none⟩ = some v := (hgrow.cell_far ⟨P, 0, none⟩ (by show P < _; exact Nat.lt_of_lt_of_le HLT.out hbx.size) (fun q => by have := (H2.out.lt P q.symm).1; omega)).trans ((hbx.cell (p := ⟨P, 0, none⟩) HLT.out).trans vc)
          have zf : w3.frozen? ⟨P, 0, none⟩ = false := (hgrow.frozen_far ⟨P, 0, none⟩ (by show P < _; exact Nat.lt_of_lt_of_le HLT.out hbx.size) (fun q => by have := (H2.out.lt P q.symm).1; omega)).trans ((hbx.frozen (p := ⟨P, 0, none⟩) HLT.out).trans vf)
          go_simp
          refine hK.out _ _ (trivial) (fun hHeld => ?_)
          clear hK K
          (try simp only [Act.put, List.setIfInBounds_toArray, List.set_cons_zero, List.set_cons_succ])
          refine wpAnyH_done (by kernel_rfl) ?_ _
          go_wp2_with fail
          go_end0
          exact writer_app hP H1.out H2.out H3.out hbx (by rw [ByteArray.size_append]; exact hown3) hgrow rfl
        exact AllReadyH.nil
      exact AllReadyH.nil
    exact AllReadyH.nil
  refine AllReadyH.cons (o := ?o30) ?a30 (fun K hK => ?s30) ?m30; (case' a30 => (simp only [List.getElem?_toArray, List.getElem?_cons_zero, List.getElem?_cons_succ]; rfl))
  case s30 =>
    go_simp
    go_at_call 69
    refine (txtput_is _ _ _ ht2.out hs).mono ?_
    rintro e wn ⟨rfl, hbn⟩
    have hbx : Below w.heap.size w wn := ((Below.refl w.heap.size w).drew).trans hbn
    have vcn : wn.cell? ⟨P, 0, none⟩ = some v := (hbx.cell (p := ⟨P, 0, none⟩) HLT.out).trans vc
    go_wp2_with fail
    refine hK.out _ _ (trivial) (fun hHeld => ?_)
    clear hK K
    (try simp only [Act.put, List.setIfInBounds_toArray, List.set_cons_zero, List.set_cons_succ])
    refine wpAnyH_ready (rs := [4]) (by kernel_rfl) (by simp) ?_
    refine AllReadyH.cons (o := ?o31) ?a31 (fun K hK => ?s31) ?m31; (case' a31 => (simp only [List.getElem?_toArray, List.getElem?_cons_zero, List.getElem?_cons_succ]; rfl))
    case s31 =>
      go_simp
      refine hK.out _ _ (trivial) (fun hHeld => ?_)
      clear hK K
      (try simp only [Act.put, List.setIfInBounds_toArray, List.set_cons_zero, List.set_cons_succ])
      refine wpAnyH_ready (rs := [7]) (by kernel_rfl) (by simp) ?_
      refine AllReadyH.cons (o := ?o32) ?a32 (fun K hK => ?s32) ?m32; (case' a32 => (simp only [List.getElem?_toArray, List.getElem?_cons_zero, List.getElem?_cons_succ]; rfl))
      case s32 =>
        refine step_append_str (by rfl) (.tmp 10) (.tmp 12) (by rfl) (P + 1) v S s (by rfl) (own_below H2.out hbx) (by rfl) HSZ.out (Nat.le_trans HLT.out hbx.size) ?_
        intro v' w3 hown3 hgrow
        rw [ByteArray.size_append] at hown3
        obtain ⟨A3, c3, rfl⟩ := own_slice hown3
        refine hK.out _ _ (trivial) (fun hHeld => ?_)
        clear hK K
        (try simp only [Act.put, List.setIfInBounds_toArray, List.set_cons_zero, List.set_cons_succ])
        refine wpAnyH_take (i := 8) (oi := ?o33) (v := ?v33) ?a33 (by kernel_rfl) (by kernel_rfl) (by kernel_rfl) ?q33 (Or.inl ⟨?g33, ?y33⟩) (by assumption) ?r33; (case' a33 => (simp only [List.getElem?_toArray, List.getElem?_cons_zero, List.getElem?_cons_succ]; rfl)); (case' q33 => (exact fun _ _ _ h => h)); (case' g33 => rfl); (case' y33 => (intro w hSw; (try dsimp only at hSw); go_simp; try with_reducible rfl)); (case' r33 => (try simp only [Act.put, List.setIfInBounds_toArray, List.set_cons_zero, List.set_cons_succ]))
        refine wpAnyH_take (i := 9) (oi := ?o34) (v := ?v34) ?a34 (by kernel_rfl) (by kernel_rfl) (by kernel_rfl) ?q34 (Or.inl ⟨?g34, ?y34⟩) (by assumption) ?r34; (case' a34 => (simp only [List.getElem?_toArray, List.getElem?_cons_zero, List.getElem?_cons_succ]; rfl)); (case' q34 => (exact fun _ _ _ h => h)); (case' g34 => rfl); (case' y34 => (intro w hSw; (try dsimp only at hSw); go_simp; try with_reducible rfl)); (case' r34 => (try simp only [Act.put, List.setIfInBounds_toArray, List.set_cons_zero, List.set_cons_succ]))
        refine wpAnyH_ready (rs := [10]) (by kernel_rfl) (by simp) ?_
        refine AllReadyH.cons (o := ?o35) ?a35 (fun K hK => ?s35) ?m35; (case' a35 => (simp only [List.getElem?_toArray, List.getElem?_cons_zero, List.getElem?_cons_succ]; rfl))
        case s35 =>
          have zc : w3.cell? ⟨P, 0, none⟩ = some v := (hgrow.cell_far ⟨P, 0, none⟩ (by show P < _; exact Nat.lt_of_lt_of_le HLT.out hbx.size) (fun q => by have := (H2.out.lt P q.symm).1; omega)).trans ((hbx.cell (p := ⟨P, 0, none⟩) HLT.out).trans vc)
          have zf : w3.frozen? ⟨P, 0, none⟩ = false := (hgrow.frozen_far ⟨P, 0, none⟩ (by show P < _; exact Nat.lt_of_lt_of_le HLT.out hbx.size) (fun q => by have := (H2.out.lt P q.symm).1; omega)).trans ((hbx.frozen (p := ⟨P, 0, none⟩) HLT.out).trans vf)
          go_simp
          refine hK.out _ _ (trivial) (fun hHeld => ?_)
          clear hK K
          (try simp only [Act.put, List.setIfInBounds_toArray, List.set_cons_zero, List.set_cons_succ])
          refine wpAnyH_done (by kernel_rfl) ?_ _
          go_wp2_with fail
          go_end0
          exact writer_app hP H1.out H2.out H3.out hbx (by rw [ByteArray.size_append]; exact hown3) hgrow rfl
        exact AllReadyH.nil
      exact AllReadyH.nil
    exact AllReadyH.nil
  exact AllReadyH.nil

set_option maxRecDepth 100000 in
theorem w_number (hP : W0.heap.size ≤ P) (n : Int) (s : ByteArray) (q : Value) (h0 : 0 ≤ n) (h1 : n ≤ 1099511627776) (hs : Hid (V.put n.toNat = s)) (S : ByteArray) (w : World) (hG : S.size ≤ 300000) (h : (writerV W0 P item).Inv S w) :
    Calls Tryz.prog 118 #[.pointer (some ⟨P, 0, none⟩), .int .i64 n, q] w (fun e w' => e = .returned (.tuple #[]) ∧ (writerV W0 P item).Inv (S ++ s) w' ∧ Kp (writerV W0 P item).own w w') := by
  have HI := Lib.hid h
  clear h
  go_enter Tryz.func118, Tryz.ntmps118
  go_wp2_with (go_at_call 36; refine (w_put hP n s h0 h1 hs S _ hG HI.out).mono ?_; rintro e w1 ⟨rfl, hI, hk⟩)
  go_end0
  exact ⟨rfl, hI, hk⟩

theorem put_one : V.put 1 = ⟨#[1]⟩ := by unfold V.put; rw [V.puts_small (by omega)]; rfl
theorem put_zero : V.put 0 = ⟨#[0]⟩ := by unfold V.put; rw [V.puts_small (by omega)]; rfl

set_option maxRecDepth 100000 in
theorem w_robin (hP : W0.heap.size ≤ P) (b : Bool) (q : Value) (S : ByteArray) (w : World) (hG : S.size ≤ 300000) (h : (writerV W0 P item).Inv S w) :
    Calls Tryz.prog 119 #[.pointer (some ⟨P, 0, none⟩), .bool b, q] w (fun e w' => e = .returned (.tuple #[]) ∧ (writerV W0 P item).Inv (S ++ (if b then ⟨#[1]⟩ else ⟨#[0]⟩)) w' ∧ Kp (writerV W0 P item).own w w') := by
  have HI := Lib.hid h
  clear h
  cases b
  · go_enter Tryz.func119, Tryz.ntmps119
    go_wp2_with (go_at_call 36; refine (w_put hP 0 ⟨#[0]⟩ (by omega) (by omega) (Lib.hid put_zero) S _ hG HI.out).mono ?_; rintro e w1 ⟨rfl, hI, hk⟩)
    go_end0
    exact ⟨rfl, hI, hk⟩
  · go_enter Tryz.func119, Tryz.ntmps119
    go_wp2_with (go_at_call 36; refine (w_put hP 1 ⟨#[1]⟩ (by omega) (by omega) (Lib.hid put_one) S _ hG HI.out).mono ?_; rintro e w1 ⟨rfl, hI, hk⟩)
    go_end0
    exact ⟨rfl, hI, hk⟩

set_option maxRecDepth 100000 in
set_option maxHeartbeats 2000000 in
theorem w_batch (hP : W0.heap.size ≤ P) (bp be bq : Int) (A : Option Addr) (l : List R) (cap B : Nat) (s : ByteArray) (q : Value) (hR : Hid (Reads W0 B A l)) (hB : B ≤ W0.heap.size) (hl : Hid (∀ r ∈ l, r.key.size ≤ maxLen ∧ r.val.size ≤ maxLen)) (HX : Hid (allN bp be bq l = 0)) (hs : Hid (batT bp be bq l = s)) (S : ByteArray) (w : World) (hG : S.size + s.size ≤ 1000000) (h : (writerV W0 P item).Inv S w) :
    Calls Tryz.prog 117 #[.pointer (some ⟨P, 0, none⟩), .agg #[.int .i64 bp, .int .i64 be, .int .i64 bq, .slice A l.length cap], q] w (fun e w' => e = .returned (.tuple #[]) ∧ (writerV W0 P item).Inv (S ++ s) w' ∧ Kp (writerV W0 P item).own w w') := by
  obtain ⟨v, h1, h2, h3⟩ := h
  have H1 := Lib.hid h1
  have H2 := Lib.hid h2
  have H3 := Lib.hid h3
  have HLT := Lib.hid (row_lt' h1)
  have vc : w.cell? ⟨P, 0, none⟩ = some v := (cell_of_row _ _ 0 _ _ _ h1).trans rfl
  have vf : w.frozen? ⟨P, 0, none⟩ = false := frozen_of_row _ _ 0 _ _ h1
  obtain ⟨b0, hb0, hbz, hby, hbb⟩ := info_parts byteInfo
  have HG := Lib.hid hG
  clear h1 h2 h3 hG
  go_enter Tryz.func117, Tryz.ntmps117
  go_wp2_with (first
    | (go_at_call 121; refine (batch_ok _ _ _ _ _ _ w.heap.size _ (Lib.hid (((hR.out.below (H3.out.mono hB)).mono (Nat.le_trans hB H3.out.size)).below (one_box _))) (by simp) hl HX).mono ?_; rintro e w1 ⟨rfl, hb1⟩; rw [hs.out]; have hbx : Below w.heap.size w w1 := (one_box _).trans (hb1.mono (by simp)); have vc1 : w1.cell? ⟨P, 0, none⟩ = some v := (hbx.cell (p := ⟨P, 0, none⟩) HLT.out).trans vc; have HO := Lib.hid (own_below H2.out hbx))
    | (at_builtin; refine wpList_append_own_string _ rfl _ _ 87 9 rfl (P + 1) 5 b0 Tryz.underlying87 Tryz.underlying9 hb0 hbz hby hbb _ _ _ rfl HO.out s rfl (by have := HG.out; unfold maxLen; omega) (by have := HG.out; omega) (Nat.le_trans HLT.out hbx.size) ?_; intro v' w3 hown3 hgrow _; have zc : w3.cell? ⟨P, 0, none⟩ = some v := (hgrow.cell_far ⟨P, 0, none⟩ (by show P < _; exact Nat.lt_of_lt_of_le HLT.out hbx.size) (fun q => by have := (H2.out.lt P q.symm).1; omega)).trans vc1; have zf : w3.frozen? ⟨P, 0, none⟩ = false := (hgrow.frozen_far ⟨P, 0, none⟩ (by show P < _; exact Nat.lt_of_lt_of_le HLT.out hbx.size) (fun q => by have := (H2.out.lt P q.symm).1; omega)).trans ((hbx.frozen (p := ⟨P, 0, none⟩) HLT.out).trans vf); obtain ⟨A3, c3, rfl⟩ := own_slice hown3))
  go_end0
  exact writer_app hP H1.out H2.out H3.out hbx (by rw [ByteArray.size_append, ← strCells_app]; exact hown3) hgrow rfl

theorem ba_assoc (a b c : ByteArray) : a ++ (b ++ c) = a ++ b ++ c := (ByteArray.append_assoc).symm

set_option maxRecDepth 100000 in
set_option maxHeartbeats 2000000 in
theorem w_topics (hP : W0.heap.size ≤ P) (A : Option Addr) (l : List ByteArray) (cap B : Nat) (q : Value) (hT : Hid (ReadsT W0 B A l)) (hB : B ≤ W0.heap.size) (hl : l.length ≤ 12) (hs : Hid (∀ s ∈ l, s.size ≤ 40)) (S : ByteArray) (w : World) (hG : S.size ≤ 250000) (h : (writerV W0 P item).Inv S w) :
    Calls Tryz.prog 120 #[.pointer (some ⟨P, 0, none⟩), .slice A l.length cap, q] w (fun e w' => e = .returned (.tuple #[]) ∧ (writerV W0 P item).Inv (S ++ topsT l) w' ∧ Kp (writerV W0 P item).own w w') := by
  have HI := Lib.hid h
  obtain ⟨sn, hsn⟩ : ∃ s, V.put l.length = s := ⟨_, rfl⟩
  have hz : sn.size ≤ 10 := by have := put_le (l.length : Int) (by omega); rw [show ((l.length : Int)).toNat = l.length by omega, hsn] at this; exact this
  have SN : Hid (V.put (l.length : Int).toNat = sn) := Lib.hid (by rw [show ((l.length : Int)).toNat = l.length by omega]; exact hsn)
  have SN2 := Lib.hid hsn
  have GZ := Lib.hid (catS_size l hs.out)
  clear h hsn
  go_enter Tryz.func120, Tryz.ntmps120
  go_wp2_with (go_at_call 36; refine (w_put hP _ sn (by omega) (by omega) SN S _ (by omega) HI.out).mono ?_; rintro e w1 ⟨rfl, hI1, hk1⟩)
  go_loopw [14] (fun i wr => ∃ k : Nat, k ≤ l.length ∧ i = .int .i64 k ∧ Hid ((writerV W0 P item).Inv (S ++ sn ++ catS (l.take k)) wr) ∧ Hid (Kp (writerV W0 P item).own w wr)) (fun i _ => l.length - (intOf i).toNat)
  case atStart => exact ⟨0, by omega, rfl, Lib.hid (by rw [catS_none]; exact hI1), Lib.hid hk1⟩
  case round =>
    obtain ⟨k, hk, rfl, HR, HK⟩ := hrel
    by_cases hlt : k < l.length
    · obtain ⟨g, rfl, hg, hcells⟩ := hT.out (by omega)
      obtain ⟨st, hst⟩ : ∃ st, l[k]? = some st := ⟨l[k], List.getElem?_eq_getElem hlt⟩
      have z1 := hs.out _ (List.mem_of_getElem? hst)
      have Z1 : Hid (st.size ≤ 100000) := Lib.hid (by omega)
      have hbel : Below W0.heap.size W0 wr := (by obtain ⟨_, _, _, hq⟩ := HR.out; exact hq)
      have d0 := (hbel.cell (p := ⟨g, k, none⟩) (by show g < _; omega)).trans (hcells k st hst)
      have k0 : (0 : Int) ≤ (k : Int) := by omega
      have kl : (k : Int) < (l.length : Int) := by omega
      have HST := Lib.hid hst
      have hz2 : Hid ((S ++ sn ++ catS (l.take k)).size ≤ 300000) := Lib.hid (by
        have h1 := catS_size (l.take k) (fun s h => hs.out s (List.mem_of_mem_take h))
        have h2 : (l.take k).length ≤ l.length := by rw [List.length_take]; omega
        rw [ByteArray.size_append, ByteArray.size_append]
        omega)
      clear hcells hst z1
      go_wp2_with (go_at_call 39; refine (w_name hP st _ _ Z1 (Lib.hid rfl) _ _ hz2.out HR.out).mono ?_; rintro e w2 ⟨rfl, hI2, hk2⟩)
      go_roundw
      case rel => exact ⟨k + 1, by omega, by go_num, Lib.hid (by rw [catS_next HST.out, ba_assoc]; exact hI2), Lib.hid (HK.out.trans hk2)⟩
      case measure => simp [intOf]; omega
    · obtain rfl : k = l.length := by omega
      go_wp2_with fail
      go_end0
      refine ⟨rfl, ?_, HK.out⟩
      have := HR.out
      rw [List.take_length] at this
      unfold topsT
      rw [SN2.out, ba_assoc]
      exact this

end
end Go.Proofs.YtijofikpdhapoaaGreat.L4
