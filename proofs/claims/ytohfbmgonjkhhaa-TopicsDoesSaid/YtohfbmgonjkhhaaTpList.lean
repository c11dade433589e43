/-
  Contracts: all topics.
-/
import Derived.Test.YtohfbmgonjkhhaaTpNames
import Derived.OrdersIn
import Derived.Deep.AppendLies
namespace Go.Proofs.Ytohfbmgonjkhhaa.L9
open Go.RowKit Go.Shelf
open Go.Maps
open L3 L4

attribute [local go_sem] Oper.semAt_some

/-! ### a region that draws its order, inside a round -/
theorem wpIn_round {F : Fence} {l n : Nat} {P : Program} {o : Oper} {a : Act} {w : World} {K : Act → World → Prop} {Q : Exit → Act → World → Prop} (hro : F.round = none) (h : ∀ c, o.op ≠ .defer c) (hh : o.wpIn F n P a w K Q) : o.wpIn (F.inRound l) n P a w K Q := by
  unfold Oper.wpIn at *
  rw [Oper.semAt_eq _ _ _ h]
  rw [hro, Oper.semAt_none] at hh
  exact hh
theorem wpOpsIn_round {F : Fence} {l n : Nat} {P : Program} {ops : Array Oper} {Q : Exit → Act → World → Prop} (hro : F.round = none) (h : ∀ (i : Nat) (o : Oper), ops[i]? = some o → ∀ c, o.op ≠ .defer c) : ∀ (L : List Nat) (a : Act) (w : World), wpOpsIn F n P ops Q L a w → wpOpsIn (F.inRound l) n P ops Q L a w
  | [], _, _, hh => hh
  | i :: rest, a, w, hh => by
    simp only [wpOpsIn] at hh ⊢
    cases ho : ops[i]? with
    | none => simp only [ho] at hh; exact wpOpsIn_round hro h rest a w hh
    | some o =>
      simp only [ho] at hh
      dsimp only
      split
      · rename_i hw
        simp only [hw, if_true] at hh
        exact Oper.wpIn_mono (fun a w => wpOpsIn_round hro h rest a w) (wpIn_round hro (h i o ho) hh)
      · rename_i hw
        simp only [hw] at hh
        exact ⟨hh.1, wpOpsIn_round hro h rest _ w hh.2⟩
def noDefer (ops : Array Oper) : Bool := ops.toList.all fun o => match o.op with | .defer _ => false | _ => true
theorem noDefer_at {ops : Array Oper} (h : noDefer ops = true) (i : Nat) (o : Oper) (ho : ops[i]? = some o) (c : _) : o.op ≠ .defer c := fun e => by
  have := List.all_eq_true.1 h o (by rw [← Array.getElem?_toList] at ho; exact List.mem_of_getElem? ho)
  rw [e] at this
  cases this
theorem region_round {F : Fence} {l n : Nat} {P : Program} {id : Nat} {ops : Array Oper} {Q : Exit → Act → World → Prop} {a : Act} {w : World} (hro : F.round = none) (hm : P.follows .mixedOrders = true) (hd : noDefer ops = true)
    (h : wpAnyIn F n P .any ops Q ops.size (Array.replicate ops.size false) a w.drew) : (Code.region id ops true).wpIn (F.inRound l) n P Q a w :=
  wpIn_region_draw fun t => by
    simp only [Region.schedule, hm, Bool.true_or, if_true]
    exact wpOpsIn_round hro (noDefer_at hd) _ _ _ (wpAnyIn_sound ops.size t _ a _ h)

theorem kpS_appended {W w2 : World} {BL k base size m : Nat} {t e : TypeId} {u v v' : Value} {xs : List Value} {tmp : Obj} (hv : Boxed W BL t u) (ht : t ≠ 9) (hrow : W.ownsRow base e size v m xs) (he : e ≠ 9) (hgrow : (W.alloc tmp).grownBy w2 v.ownBlock) (hk : k = 0) : KpS W (w2.setCell ⟨BL, k, none⟩ v') := fun j cs fr hj => by
  subst hk
  have hlt := (Array.getElem?_eq_some_iff.1 hj).1
  refine (Below.heap_setCell _ _ _ j (fun q => ?_)).trans ((hgrow.block j (by simp; omega) (fun q => ?_)).trans (Below.heap_alloc _ _ _ hlt))
  · have q' : j = BL := q
    subst q'
    rw [show W.heap[j]? = _ from hv] at hj
    injection hj with hj; injection hj with _ hj
    exact ht hj
  · rcases hrow.2 with ⟨e1, _⟩ | ⟨g, cap, cur, e1, _, hh, _⟩
    · rw [e1] at q; cases q
    · rw [e1] at q
      have q' : j = g := by injection q
      subst q'
      rw [hh] at hj
      injection hj with hj; injection hj with _ hj
      exact he hj
/-- an append inside a drawn region -/
theorem step_append_in {F : Fence} {n : Nat} {P : Program} {ops : Array Oper} {o : Oper} {a : Act} {w w' : World} {K : Act → World → Prop} {Q : Exit → Act → World → Prop} {E : Prop} (hgd : o.guard = none) (s x : Operand) (t : TypeId)
    (ho : o.op = .call { callee := .builtin .append, args := #[s, x], argTypes := #[t, t] }) {v u r : Value} (hs : a.eval s = v) (hx : a.eval x = u) (hr : (Builtin.append_ #[t, t] o.type #[v, u]).run P w = .ok r w') (h : K (a.put o.dst r) w') :
    if Region.wanted o (yielded ops a.tmps) = true then Oper.wpIn F n P o a w K Q else E := by
  have hw : Region.wanted o (yielded ops a.tmps) = true := by simp [Region.wanted, hgd]
  rw [if_pos hw]
  unfold Oper.wpIn
  refine ⟨by simp [Oper.about, ho, resolve, Target.leads, Sem.run_pure], ?_⟩
  rw [Oper.semAt_plain F _ _ (by rw [ho]; intro c hc'; cases hc')]
  simp [execOp, ho, resolve, invoke, builtin, hs, hx, hr, Result.andThen]
  exact h

/-! ### List -/
theorem topInfo : (Try.prog.info? 46).map (fun i => (i.zero, i.size, i.bytes)) = some (some (.agg #[.string ⟨#[]⟩, .int .i64 0]), 2, 24) := by kernel_rfl
set_option maxRecDepth 100000 in
set_option maxHeartbeats 2000000 in
theorem list_in (w : World) (g b N m : Nat) (Q : List Pt) (hm : Q.length = m) (hl : m ≤ 8) (hQ : Rise Q) (hT : ∀ x ∈ Q, x.t.size ≤ maxLen) (hC : Cat w g b N Q) :
    CallsIn Fence.wide 6 Try.prog 17 #[.pointer (some ⟨g, 0, none⟩)] w fun e W' => ∃ A c, e = .returned (.slice A m c) ∧ W'.ownsRow w.heap.size 46 2 (.slice A m c) m (rowP Q) ∧ Below w.heap.size w W' := by
  obtain ⟨i0, hi0, hz0, hz1, hz2⟩ := info_parts topInfo
  have h1 : 1 ≤ 6 := by decide
  refine callsIn_of_wp_marks Try.func17 rfl trivial ?_ rfl
  simp only [Try.ntmps17, List.size_toArray, List.length_cons, List.length_nil, Nat.reduceAdd, Nat.reduceSub, Array.replicate_succ, Array.replicate_zero, List.push_toArray, List.append_toArray, List.nil_append, List.cons_append]
  gi_wp2_with (refine ⟨trivial, ?_⟩; gi_at_call 36; refine (callsIn_wide.2 (names_is g _)).mono ?_; rintro e w' ⟨rfl, rfl⟩)
  have bC := Boxed.new w 24 (.pointer (some ⟨g, 0, none⟩))
  have bL := Boxed.new (w.alloc (.cells #[.pointer (some ⟨g, 0, none⟩)] 24)) 27 (.slice none 0 0)
  have bN := Boxed.new ((w.alloc (.cells #[.pointer (some ⟨g, 0, none⟩)] 24)).alloc (.cells #[.slice none 0 0] 27)) 24 (.pointer (some ⟨g, 0, none⟩))
  simp only [World.size_alloc] at bL bN
  obtain ⟨W0, hW0⟩ : ∃ W0, ((w.alloc (.cells #[.pointer (some ⟨g, 0, none⟩)] 24)).alloc (.cells #[.slice none 0 0] 27)).alloc (.cells #[.pointer (some ⟨g, 0, none⟩)] 24) = W0 := ⟨_, rfl⟩
  have bC0 : Boxed W0 w.heap.size 24 (.pointer (some ⟨g, 0, none⟩)) := by rw [← hW0]; exact (bC.alloc _).alloc _
  have bL0 : Boxed W0 (w.heap.size + 1) 27 (.slice none 0 0) := by rw [← hW0]; exact bL.alloc _
  have bN0 : Boxed W0 (w.heap.size + 1 + 1) 24 (.pointer (some ⟨g, 0, none⟩)) := by rw [← hW0]; exact bN
  have hsz : W0.heap.size = w.heap.size + 1 + 1 + 1 := by rw [← hW0]; simp
  have hB0 : Below w.heap.size w W0 := by rw [← hW0]; exact (((Below.refl _ w).alloc (Nat.le_refl _) _).alloc (by simp) _).alloc (by simp; omega) _
  rw [hW0]
  clear hW0 bC bL bN
  refine wpIn_rangeFunc_ownF rfl h1 (gf := 42) (lb := #[.pointer (some ⟨w.heap.size + 1 + 1, 0, none⟩)]) rfl trivial (enters_of Try.func42 (by kernel_rfl) rfl)
    (names_stops (6 - 1) (by decide) (w.heap.size + 1 + 1) g b N m Q hm hl hQ W0 (by omega) bN0.cell (hC.below hB0)) KpS.trans (kpS_b (w := W0)) (Below.refl _ _) (fun _ => rfl)
    (fun pre W => (Boxed W w.heap.size 24 (.pointer (some ⟨g, 0, none⟩)) ∧ (∃ v, Boxed W (w.heap.size + 1) 27 v ∧ W.ownsRow w.heap.size 46 2 v pre.length (rowP (atN Q pre)) ∧ True)) ∧ Below w.heap.size w W)
    (fun _ _ _ => False)
    (OwnFrom.and (OwnFrom.and (Own.from (boxed_own _ _ _) _) (Own.from (holdsRow_own _ _ _ _ _ _ _ _) _)) (ownFrom_below (Nat.le_refl _) (by omega)))
    (fun _ _ _ _ _ hs _ _ => hs)
    ⟨⟨bC0, _, bL0, World.ownsRow_nil _ _ _ _, trivial⟩, hB0⟩
    (fun x : Fin Q.length => { tmps := #[.pointer (some ⟨g, 0, none⟩), .pointer (some ⟨w.heap.size, 0, none⟩), .slice none 0 0, .pointer (some ⟨w.heap.size + 1, 0, none⟩), .string Q[x].t, .pointer (some ⟨g, 0, none⟩), .func (.func 42) #[] #[.pointer (some ⟨w.heap.size + 1 + 1, 0, none⟩)], .string Q[x].t, undef, undef, undef, undef, undef, undef, undef, undef, undef, undef, undef, undef], defers := [] })
    ?assign ?body ?done ?stop
  case assign =>
    intro l x W K hK
    gi_wp2
    exact hK
  case body =>
    rintro l pre x W ⟨⟨bC1, v, bL1, hrow, _⟩, hB1⟩ hlen
    obtain ⟨A, c, rfl⟩ := own_len hrow
    obtain ⟨⟨xt, xn⟩, hel⟩ : ∃ f, Q[x] = f := ⟨_, rfl⟩
    have hxm : (⟨xt, xn⟩ : Pt) ∈ Q := by rw [← hel]; exact List.getElem_mem _
    have hsn := atN_snoc Q pre x
    rw [hel] at hsn ⊢
    dsimp only
    have lC := bC1.cell
    have lL := bL1.cell
    have fL := bL1.frozen
    have ltL : w.heap.size + 1 < W.heap.size := bL1.lt
    have HC1 := Lib.hid (hC.below hB1)
    have c0 := HC1.out.c0
    obtain ⟨D, ho, hd⟩ := HC1.out.map
    obtain ⟨n, hrun, hat, hwf⟩ := ho.drew.lookup_int lawStr Try.underlying57 Try.underlying3 (zeroInt _) (keyStr (hT _ hxm))
    obtain rfl : n = xn := (lit_inj (hat.symm.trans (hd.num hQ xt))).trans (num_mem hQ.ne hxm)
    obtain ⟨g', cap', w2, hrun2, hown2, hgrow2, _, hlt2⟩ := run_append_lies (P := Try.prog) (W.drew.alloc (.cells #[.string xt, .int .i64 n] 46)) 27 27 w.heap.size 46 i0 _ 2 24 Try.underlying27 hi0 hz0 hz1 hz2 rfl (by decide) (.slice A pre.length c) pre.length (rowP (atN Q pre)) ((own_below hrow (Below.refl _ _).drew).alloc _) ⟨W.heap.size, 0, none⟩ 1 1 [.string xt, .int .i64 n] rfl (World.news_of_block (cs := #[.string xt, .int .i64 n]) (t := 46) (fr := (0, 0)) (heap_alloc_new W.drew _)) (by simp [Value.oneCell']) (by decide) (by unfold maxLen; omega) (by omega) (by have := hB1.size; simp; omega) (W.heap.size + 1) (by simp)
    have bLd : Boxed W.drew (w.heap.size + 1) 27 (.slice A pre.length c) := bL1
    obtain ⟨hv1, hv2, hr2, hk2, hb2⟩ := bLd.appended (n₀ := w.heap.size) (by decide) (own_below hrow (Below.refl _ _).drew) hB1.size (by omega) hown2 hgrow2
    have hc1 := hv1.cell
    have hf1 := hv1.frozen
    have hkp : KpS W.drew (w2.setCell ⟨w.heap.size + 1, 0, none⟩ (.slice (some ⟨g', 0, none⟩) (pre.length + 1) cap')) := kpS_appended bLd (by decide) (own_below hrow (Below.refl _ _).drew) (by decide) hgrow2 rfl
    have bCd : Boxed W.drew w.heap.size 24 (.pointer (some ⟨g, 0, none⟩)) := bC1
    have bC2 : Boxed (w2.setCell ⟨w.heap.size + 1, 0, none⟩ (.slice (some ⟨g', 0, none⟩) (pre.length + 1) cap')) w.heap.size 24 (.pointer (some ⟨g, 0, none⟩)) := ((bCd.alloc _).kept hgrow2 (bC1.not_row (by decide) hrow)).kept (grownBy_setCell' w2 (w.heap.size + 1) _) (by simp)
    have HFIN : Hid (KeepsOthers W (w2.setCell ⟨w.heap.size + 1, 0, none⟩ (.slice (some ⟨g', 0, none⟩) (pre.length + 1) cap')) ∧ KpS W (w2.setCell ⟨w.heap.size + 1, 0, none⟩ (.slice (some ⟨g', 0, none⟩) (pre.length + 1) cap')) ∧ ((Boxed (w2.setCell ⟨w.heap.size + 1, 0, none⟩ (.slice (some ⟨g', 0, none⟩) (pre.length + 1) cap')) w.heap.size 24 (.pointer (some ⟨g, 0, none⟩)) ∧ (∃ v, Boxed (w2.setCell ⟨w.heap.size + 1, 0, none⟩ (.slice (some ⟨g', 0, none⟩) (pre.length + 1) cap')) (w.heap.size + 1) 27 v ∧ (w2.setCell ⟨w.heap.size + 1, 0, none⟩ (.slice (some ⟨g', 0, none⟩) (pre.length + 1) cap')).ownsRow w.heap.size 46 2 v (pre ++ [x]).length (rowP (atN Q (pre ++ [x]))) ∧ True)) ∧ Below w.heap.size w (w2.setCell ⟨w.heap.size + 1, 0, none⟩ (.slice (some ⟨g', 0, none⟩) (pre.length + 1) cap')))) := Lib.hid ⟨(KeepsOthers.drew W).trans hk2, hkp, ⟨bC2, _, hv2, by rw [hsn, rowP_app, List.length_append]; exact hr2, trivial⟩, hB1.trans ((Below.refl _ W).drew.trans hb2)⟩
    clear hkp bC2 hv1 hv2 hr2 hk2 hb2 hown2 hgrow2 hsn hel hrow hat bLd bCd bC1 bL1 ho hd hxm
    gi_wp2
    -- REGION
    refine region_round rfl (by kernel_rfl) (by kernel_rfl) ?_
    refine wpAnyIn_take (i := 1) (oi := ?o1) (v := ?v1) rfl ?a1 (by kernel_rfl) (by kernel_rfl) (by kernel_rfl) ?q1 ⟨Or.inl ⟨?g1, ?y1⟩, ?z1⟩ ?r1; (case' a1 => (simp only [List.getElem?_toArray, List.getElem?_cons_zero, List.getElem?_cons_succ]; rfl)); (case' q1 => (exact fun _ _ _ h => h)); (case' g1 => rfl); (case' y1 => (intro w; go_simp; try with_reducible rfl)); (case' z1 => (exact fun _ => rfl)); (case' r1 => (try simp only [Act.put, List.setIfInBounds_toArray, List.set_cons_zero, List.set_cons_succ]))
    refine wpAnyIn_take (i := 6) (oi := ?o2) (v := ?v2) rfl ?a2 (by kernel_rfl) (by kernel_rfl) (by kernel_rfl) ?q2 ⟨Or.inl ⟨?g2, ?y2⟩, ?z2⟩ ?r2; (case' a2 => (simp only [List.getElem?_toArray, List.getElem?_cons_zero, List.getElem?_cons_succ]; rfl)); (case' q2 => (exact fun _ _ _ h => h)); (case' g2 => rfl); (case' y2 => (intro w; go_simp; try with_reducible rfl)); (case' z2 => (exact fun _ => rfl)); (case' r2 => (try simp only [Act.put, List.setIfInBounds_toArray, List.set_cons_zero, List.set_cons_succ]))
    refine wpAnyIn_ready (rs := [0, 2]) (by kernel_rfl) (by simp) ?_
    refine AllReadyIn.cons (o := ?o3) ?a3 (fun K hK => ?s3) ?m3; (case' a3 => (simp only [List.getElem?_toArray, List.getElem?_cons_zero]; rfl))
    case s3 =>
      go_simp
      refine hK _ _ ?_
      clear hK K
      (try simp only [Act.put, List.setIfInBounds_toArray, List.set_cons_zero, List.set_cons_succ])
      refine wpAnyIn_ready (rs := [2]) (by kernel_rfl) (by simp) ?_
      refine AllReadyIn.cons (o := ?o4) ?a4 (fun K hK => ?s4) ?m4; (case' a4 => (simp only [List.getElem?_toArray, List.getElem?_cons_zero, List.getElem?_cons_succ]; rfl))
      case s4 =>
        go_simp
        refine hK _ _ ?_
        clear hK K
        (try simp only [Act.put, List.setIfInBounds_toArray, List.set_cons_zero, List.set_cons_succ])
        refine wpAnyIn_take (i := 3) (oi := ?o5) (v := ?v5) rfl ?a5 (by kernel_rfl) (by kernel_rfl) (by kernel_rfl) ?q5 ⟨Or.inl ⟨?g5, ?y5⟩, ?z5⟩ ?r5; (case' a5 => (simp only [List.getElem?_toArray, List.getElem?_cons_zero, List.getElem?_cons_succ]; rfl)); (case' q5 => (exact fun _ _ _ h => h)); (case' g5 => rfl); (case' y5 => (intro w; go_simp; try with_reducible rfl)); (case' z5 => (exact fun _ => rfl)); (case' r5 => (try simp only [Act.put, List.setIfInBounds_toArray, List.set_cons_zero, List.set_cons_succ]))
        refine wpAnyIn_take (i := 4) (oi := ?o6) (v := ?v6) rfl ?a6 (by kernel_rfl) (by kernel_rfl) (by kernel_rfl) ?q6 ⟨Or.inl ⟨?g6, ?y6⟩, ?z6⟩ ?r6; (case' a6 => (simp only [List.getElem?_toArray, List.getElem?_cons_zero, List.getElem?_cons_succ]; rfl)); (case' q6 => (exact fun _ _ _ h => h)); (case' g6 => rfl); (case' y6 => (intro w; go_simp; try with_reducible rfl)); (case' z6 => (exact fun _ => rfl)); (case' r6 => (try simp only [Act.put, List.setIfInBounds_toArray, List.set_cons_zero, List.set_cons_succ]))
        refine wpAnyIn_ready (rs := [5]) (by kernel_rfl) (by simp) ?_
        refine AllReadyIn.cons (o := ?o7) ?a7 (fun K hK => ?s7) ?m7; (case' a7 => (simp only [List.getElem?_toArray, List.getElem?_cons_zero, List.getElem?_cons_succ]; rfl))
        case s7 =>
          go_simp
          refine hK _ _ ?_
          clear hK K
          (try simp only [Act.put, List.setIfInBounds_toArray, List.set_cons_zero, List.set_cons_succ])
          refine wpAnyIn_ready (rs := [7]) (by kernel_rfl) (by simp) ?_
          refine AllReadyIn.cons (o := ?o8) ?a8 (fun K hK => ?s8) ?m8; (case' a8 => (simp only [List.getElem?_toArray, List.getElem?_cons_zero, List.getElem?_cons_succ]; rfl))
          case s8 =>
            go_simp
            refine hK _ _ ?_
            clear hK K
            (try simp only [Act.put, List.setIfInBounds_toArray, List.set_cons_zero, List.set_cons_succ])
            refine wpAnyIn_take (i := 8) (oi := ?o9) (v := ?v9) rfl ?a9 (by kernel_rfl) (by kernel_rfl) (by kernel_rfl) ?q9 ⟨Or.inl ⟨?g9, ?y9⟩, ?z9⟩ ?r9; (case' a9 => (simp only [List.getElem?_toArray, List.getElem?_cons_zero, List.getElem?_cons_succ]; rfl)); (case' q9 => (exact fun _ _ _ h => h)); (case' g9 => rfl); (case' y9 => (intro w; go_simp; try with_reducible rfl)); (case' z9 => (exact fun _ => rfl)); (case' r9 => (try simp only [Act.put, List.setIfInBounds_toArray, List.set_cons_zero, List.set_cons_succ]))
            refine wpAnyIn_ready (rs := [9]) (by kernel_rfl) (by simp) ?_
            refine AllReadyIn.cons (o := ?o10) ?a10 (fun K hK => ?s10) ?m10; (case' a10 => (simp only [List.getElem?_toArray, List.getElem?_cons_zero, List.getElem?_cons_succ]; rfl))
            case s10 =>
              go_simp
              refine hK _ _ ?_
              clear hK K
              (try simp only [Act.put, List.setIfInBounds_toArray, List.set_cons_zero, List.set_cons_succ])
              refine wpAnyIn_ready (rs := [10]) (by kernel_rfl) (by simp) ?_
              refine AllReadyIn.cons (o := ?o11) ?a11 (fun K hK => ?s11) ?m11; (case' a11 => (simp only [List.getElem?_toArray, List.getElem?_cons_zero, List.getElem?_cons_succ]; rfl))
              case s11 =>
                refine step_append_in (by rfl) _ _ _ (by rfl) (by rfl) (by rfl) hrun2 ?_
                refine hK _ _ ?_
                clear hK K
                (try simp only [Act.put, List.setIfInBounds_toArray, List.set_cons_zero, List.set_cons_succ])
                refine wpAnyIn_ready (rs := [11]) (by kernel_rfl) (by simp) ?_
                refine AllReadyIn.cons (o := ?o12) ?a12 (fun K hK => ?s12) ?m12; (case' a12 => (simp only [List.getElem?_toArray, List.getElem?_cons_zero, List.getElem?_cons_succ]; rfl))
                case s12 =>
                  go_simp
                  refine hK _ _ ?_
                  clear hK K
                  (try simp only [Act.put, List.setIfInBounds_toArray, List.set_cons_zero, List.set_cons_succ])
                  refine wpAnyIn_done (by kernel_rfl) ?_ _
                  exact HFIN.out
                exact AllReadyIn.nil
              exact AllReadyIn.nil
            exact AllReadyIn.nil
          exact AllReadyIn.nil
        exact AllReadyIn.nil
      exact AllReadyIn.nil
    refine AllReadyIn.cons (o := ?o13) ?a13 (fun K hK => ?s13) ?m13; (case' a13 => (simp only [List.getElem?_toArray, List.getElem?_cons_zero, List.getElem?_cons_succ]; rfl))
    case s13 =>
      go_simp
      refine hK _ _ ?_
      clear hK K
      (try simp only [Act.put, List.setIfInBounds_toArray, List.set_cons_zero, List.set_cons_succ])
      refine wpAnyIn_take (i := 3) (oi := ?o14) (v := ?v14) rfl ?a14 (by kernel_rfl) (by kernel_rfl) (by kernel_rfl) ?q14 ⟨Or.inl ⟨?g14, ?y14⟩, ?z14⟩ ?r14; (case' a14 => (simp only [List.getElem?_toArray, List.getElem?_cons_zero, List.getElem?_cons_succ]; rfl)); (case' q14 => (exact fun _ _ _ h => h)); (case' g14 => rfl); (case' y14 => (intro w; go_simp; try with_reducible rfl)); (case' z14 => (exact fun _ => rfl)); (case' r14 => (try simp only [Act.put, List.setIfInBounds_toArray, List.set_cons_zero, List.set_cons_succ]))
      refine wpAnyIn_take (i := 4) (oi := ?o15) (v := ?v15) rfl ?a15 (by kernel_rfl) (by kernel_rfl) (by kernel_rfl) ?q15 ⟨Or.inl ⟨?g15, ?y15⟩, ?z15⟩ ?r15; (case' a15 => (simp only [List.getElem?_toArray, List.getElem?_cons_zero, List.getElem?_cons_succ]; rfl)); (case' q15 => (exact fun _ _ _ h => h)); (case' g15 => rfl); (case' y15 => (intro w; go_simp; try with_reducible rfl)); (case' z15 => (exact fun _ => rfl)); (case' r15 => (try simp only [Act.put, List.setIfInBounds_toArray, List.set_cons_zero, List.set_cons_succ]))
      refine wpAnyIn_ready (rs := [0, 5]) (by kernel_rfl) (by simp) ?_
      refine AllReadyIn.cons (o := ?o16) ?a16 (fun K hK => ?s16) ?m16; (case' a16 => (simp only [List.getElem?_toArray, List.getElem?_cons_zero]; rfl))
      case s16 =>
        go_simp
        refine hK _ _ ?_
        clear hK K
        (try simp only [Act.put, List.setIfInBounds_toArray, List.set_cons_zero, List.set_cons_succ])
        refine wpAnyIn_ready (rs := [5]) (by kernel_rfl) (by simp) ?_
        refine AllReadyIn.cons (o := ?o17) ?a17 (fun K hK => ?s17) ?m17; (case' a17 => (simp only [List.getElem?_toArray, List.getElem?_cons_zero, List.getElem?_cons_succ]; rfl))
        case s17 =>
          go_simp
          refine hK _ _ ?_
          clear hK K
          (try simp only [Act.put, List.setIfInBounds_toArray, List.set_cons_zero, List.set_cons_succ])
          refine wpAnyIn_ready (rs := [7]) (by kernel_rfl) (by simp) ?_
          refine AllReadyIn.cons (o := ?o18) ?a18 (fun K hK => ?s18) ?m18; (case' a18 => (simp only [List.getElem?_toArray, List.getElem?_cons_zero, List.getElem?_cons_succ]; rfl))
          case s18 =>
            go_simp
            refine hK _ _ ?_
            clear hK K
            (try simp only [Act.put, List.setIfInBounds_toArray, List.set_cons_zero, List.set_cons_succ])
            refine wpAnyIn_take (i := 8) (oi := ?o19) (v := ?v19) rfl ?a19 (by kernel_rfl) (by kernel_rfl) (by kernel_rfl) ?q19 ⟨Or.inl ⟨?g19, ?y19⟩, ?z19⟩ ?r19; (case' a19 => (simp only [List.getElem?_toArray, List.getElem?_cons_zero, List.getElem?_cons_succ]; rfl)); (case' q19 => (exact fun _ _ _ h => h)); (case' g19 => rfl); (case' y19 => (intro w; go_simp; try with_reducible rfl)); (case' z19 => (exact fun _ => rfl)); (case' r19 => (try simp only [Act.put, List.setIfInBounds_toArray, List.set_cons_zero, List.set_cons_succ]))
            refine wpAnyIn_ready (rs := [9]) (by kernel_rfl) (by simp) ?_
            refine AllReadyIn.cons (o := ?o20) ?a20 (fun K hK => ?s20) ?m20; (case' a20 => (simp only [List.getElem?_toArray, List.getElem?_cons_zero, List.getElem?_cons_succ]; rfl))
            case s20 =>
              go_simp
              refine hK _ _ ?_
              clear hK K
              (try simp only [Act.put, List.setIfInBounds_toArray, List.set_cons_zero, List.set_cons_succ])
              refine wpAnyIn_ready (rs := [10]) (by kernel_rfl) (by simp) ?_
              refine AllReadyIn.cons (o := ?o21) ?a21 (fun K hK => ?s21) ?m21; (case' a21 => (simp only [List.getElem?_toArray, List.getElem?_cons_zero, List.getElem?_cons_succ]; rfl))
              case s21 =>
                refine step_append_in (by rfl) _ _ _ (by rfl) (by rfl) (by rfl) hrun2 ?_
                refine hK _ _ ?_
                clear hK K
                (try simp only [Act.put, List.setIfInBounds_toArray, List.set_cons_zero, List.set_cons_succ])
                refine wpAnyIn_ready (rs := [11]) (by kernel_rfl) (by simp) ?_
                refine AllReadyIn.cons (o := ?o22) ?a22 (fun K hK => ?s22) ?m22; (case' a22 => (simp only [List.getElem?_toArray, List.getElem?_cons_zero, List.getElem?_cons_succ]; rfl))
                case s22 =>
                  go_simp
                  refine hK _ _ ?_
                  clear hK K
                  (try simp only [Act.put, List.setIfInBounds_toArray, List.set_cons_zero, List.set_cons_succ])
                  refine wpAnyIn_done (by kernel_rfl) ?_ _
                  exact HFIN.out
                exact AllReadyIn.nil
              exact AllReadyIn.nil
            exact AllReadyIn.nil
          exact AllReadyIn.nil
        exact AllReadyIn.nil
      refine AllReadyIn.cons (o := ?o23) ?a23 (fun K hK => ?s23) ?m23; (case' a23 => (simp only [List.getElem?_toArray, List.getElem?_cons_zero, List.getElem?_cons_succ]; rfl))
      case s23 =>
        go_simp
        refine hK _ _ ?_
        clear hK K
        (try simp only [Act.put, List.setIfInBounds_toArray, List.set_cons_zero, List.set_cons_succ])
        refine wpAnyIn_ready (rs := [0, 7]) (by kernel_rfl) (by simp) ?_
        refine AllReadyIn.cons (o := ?o24) ?a24 (fun K hK => ?s24) ?m24; (case' a24 => (simp only [List.getElem?_toArray, List.getElem?_cons_zero]; rfl))
        case s24 =>
          go_simp
          refine hK _ _ ?_
          clear hK K
          (try simp only [Act.put, List.setIfInBounds_toArray, List.set_cons_zero, List.set_cons_succ])
          refine wpAnyIn_ready (rs := [7]) (by kernel_rfl) (by simp) ?_
          refine AllReadyIn.cons (o := ?o25) ?a25 (fun K hK => ?s25) ?m25; (case' a25 => (simp only [List.getElem?_toArray, List.getElem?_cons_zero, List.getElem?_cons_succ]; rfl))
          case s25 =>
            go_simp
            refine hK _ _ ?_
            clear hK K
            (try simp only [Act.put, List.setIfInBounds_toArray, List.set_cons_zero, List.set_cons_succ])
            refine wpAnyIn_take (i := 8) (oi := ?o26) (v := ?v26) rfl ?a26 (by kernel_rfl) (by kernel_rfl) (by kernel_rfl) ?q26 ⟨Or.inl ⟨?g26, ?y26⟩, ?z26⟩ ?r26; (case' a26 => (simp only [List.getElem?_toArray, List.getElem?_cons_zero, List.getElem?_cons_succ]; rfl)); (case' q26 => (exact fun _ _ _ h => h)); (case' g26 => rfl); (case' y26 => (intro w; go_simp; try with_reducible rfl)); (case' z26 => (exact fun _ => rfl)); (case' r26 => (try simp only [Act.put, List.setIfInBounds_toArray, List.set_cons_zero, List.set_cons_succ]))
            refine wpAnyIn_ready (rs := [9]) (by kernel_rfl) (by simp) ?_
            refine AllReadyIn.cons (o := ?o27) ?a27 (fun K hK => ?s27) ?m27; (case' a27 => (simp only [List.getElem?_toArray, List.getElem?_cons_zero, List.getElem?_cons_succ]; rfl))
            case s27 =>
              go_simp
              refine hK _ _ ?_
              clear hK K
              (try simp only [Act.put, List.setIfInBounds_toArray, List.set_cons_zero, List.set_cons_succ])
              refine wpAnyIn_ready (rs := [10]) (by kernel_rfl) (by simp) ?_
              refine AllReadyIn.cons (o := ?o28) ?a28 (fun K hK => ?s28) ?m28; (case' a28 => (simp only [List.getElem?_toArray, List.getElem?_cons_zero, List.getElem?_cons_succ]; rfl))
              case s28 =>
                refine step_append_in (by rfl) _ _ _ (by rfl) (by rfl) (by rfl) hrun2 ?_
                refine hK _ _ ?_
                clear hK K
                (try simp only [Act.put, List.setIfInBounds_toArray, List.set_cons_zero, List.set_cons_succ])
                refine wpAnyIn_ready (rs := [11]) (by kernel_rfl) (by simp) ?_
                refine AllReadyIn.cons (o := ?o29) ?a29 (fun K hK => ?s29) ?m29; (case' a29 => (simp only [List.getElem?_toArray, List.getElem?_cons_zero, List.getElem?_cons_succ]; rfl))
                case s29 =>
                  go_simp
                  refine hK _ _ ?_
                  clear hK K
                  (try simp only [Act.put, List.setIfInBounds_toArray, List.set_cons_zero, List.set_cons_succ])
                  refine wpAnyIn_done (by kernel_rfl) ?_ _
                  exact HFIN.out
                exact AllReadyIn.nil
              exact AllReadyIn.nil
            exact AllReadyIn.nil
          exact AllReadyIn.nil
        refine AllReadyIn.cons (o := ?o30) ?a30 (fun K hK => ?s30) ?m30; (case' a30 => (simp only [List.getElem?_toArray, List.getElem?_cons_zero, List.getElem?_cons_succ]; rfl))
        case s30 =>
          go_simp
          refine hK _ _ ?_
          clear hK K
          (try simp only [Act.put, List.setIfInBounds_toArray, List.set_cons_zero, List.set_cons_succ])
          refine wpAnyIn_take (i := 8) (oi := ?o31) (v := ?v31) rfl ?a31 (by kernel_rfl) (by kernel_rfl) (by kernel_rfl) ?q31 ⟨Or.inl ⟨?g31, ?y31⟩, ?z31⟩ ?r31; (case' a31 => (simp only [List.getElem?_toArray, List.getElem?_cons_zero, List.getElem?_cons_succ]; rfl)); (case' q31 => (exact fun _ _ _ h => h)); (case' g31 => rfl); (case' y31 => (intro w; go_simp; try with_reducible rfl)); (case' z31 => (exact fun _ => rfl)); (case' r31 => (try simp only [Act.put, List.setIfInBounds_toArray, List.set_cons_zero, List.set_cons_succ]))
          refine wpAnyIn_ready (rs := [0, 9]) (by kernel_rfl) (by simp) ?_
          refine AllReadyIn.cons (o := ?o32) ?a32 (fun K hK => ?s32) ?m32; (case' a32 => (simp only [List.getElem?_toArray, List.getElem?_cons_zero]; rfl))
          case s32 =>
            go_simp
            refine hK _ _ ?_
            clear hK K
            (try simp only [Act.put, List.setIfInBounds_toArray, List.set_cons_zero, List.set_cons_succ])
            refine wpAnyIn_ready (rs := [9]) (by kernel_rfl) (by simp) ?_
            refine AllReadyIn.cons (o := ?o33) ?a33 (fun K hK => ?s33) ?m33; (case' a33 => (simp only [List.getElem?_toArray, List.getElem?_cons_zero, List.getElem?_cons_succ]; rfl))
            case s33 =>
              go_simp
              refine hK _ _ ?_
              clear hK K
              (try simp only [Act.put, List.setIfInBounds_toArray, List.set_cons_zero, List.set_cons_succ])
              refine wpAnyIn_ready (rs := [10]) (by kernel_rfl) (by simp) ?_
              refine AllReadyIn.cons (o := ?o34) ?a34 (fun K hK => ?s34) ?m34; (case' a34 => (simp only [List.getElem?_toArray, List.getElem?_cons_zero, List.getElem?_cons_succ]; rfl))
              case s34 =>
                refine step_append_in (by rfl) _ _ _ (by rfl) (by rfl) (by rfl) hrun2 ?_
                refine hK _ _ ?_
                clear hK K
                (try simp only [Act.put, List.setIfInBounds_toArray, List.set_cons_zero, List.set_cons_succ])
                refine wpAnyIn_ready (rs := [11]) (by kernel_rfl) (by simp) ?_
                refine AllReadyIn.cons (o := ?o35) ?a35 (fun K hK => ?s35) ?m35; (case' a35 => (simp only [List.getElem?_toArray, List.getElem?_cons_zero, List.getElem?_cons_succ]; rfl))
                case s35 =>
                  go_simp
                  refine hK _ _ ?_
                  clear hK K
                  (try simp only [Act.put, List.setIfInBounds_toArray, List.set_cons_zero, List.set_cons_succ])
                  refine wpAnyIn_done (by kernel_rfl) ?_ _
                  exact HFIN.out
                exact AllReadyIn.nil
              exact AllReadyIn.nil
            exact AllReadyIn.nil
          refine AllReadyIn.cons (o := ?o36) ?a36 (fun K hK => ?s36) ?m36; (case' a36 => (simp only [List.getElem?_toArray, List.getElem?_cons_zero, List.getElem?_cons_succ]; rfl))
          case s36 =>
            go_simp
            refine hK _ _ ?_
            clear hK K
            (try simp only [Act.put, List.setIfInBounds_toArray, List.set_cons_zero, List.set_cons_succ])
            refine wpAnyIn_ready (rs := [0]) (by kernel_rfl) (by simp) ?_
            refine AllReadyIn.cons (o := ?o37) ?a37 (fun K hK => ?s37) ?m37; (case' a37 => (simp only [List.getElem?_toArray, List.getElem?_cons_zero]; rfl))
            case s37 =>
              go_simp
              refine hK _ _ ?_
              clear hK K
              (try simp only [Act.put, List.setIfInBounds_toArray, List.set_cons_zero, List.set_cons_succ])
              refine wpAnyIn_ready (rs := [10]) (by kernel_rfl) (by simp) ?_
              refine AllReadyIn.cons (o := ?o38) ?a38 (fun K hK => ?s38) ?m38; (case' a38 => (simp only [List.getElem?_toArray, List.getElem?_cons_zero, List.getElem?_cons_succ]; rfl))
              case s38 =>
                refine step_append_in (by rfl) _ _ _ (by rfl) (by rfl) (by rfl) hrun2 ?_
                refine hK _ _ ?_
                clear hK K
                (try simp only [Act.put, List.setIfInBounds_toArray, List.set_cons_zero, List.set_cons_succ])
                refine wpAnyIn_ready (rs := [11]) (by kernel_rfl) (by simp) ?_
                refine AllReadyIn.cons (o := ?o39) ?a39 (fun K hK => ?s39) ?m39; (case' a39 => (simp only [List.getElem?_toArray, List.getElem?_cons_zero, List.getElem?_cons_succ]; rfl))
                case s39 =>
                  go_simp
                  refine hK _ _ ?_
                  clear hK K
                  (try simp only [Act.put, List.setIfInBounds_toArray, List.set_cons_zero, List.set_cons_succ])
                  refine wpAnyIn_done (by kernel_rfl) ?_ _
                  exact HFIN.out
                exact AllReadyIn.nil
              exact AllReadyIn.nil
            exact AllReadyIn.nil
          exact AllReadyIn.nil
        exact AllReadyIn.nil
      exact AllReadyIn.nil
    exact AllReadyIn.nil
    -- END REGION
  case done =>
    rintro D ys W hD rfl ⟨⟨bC1, v, bL1, hrow, _⟩, hB1⟩ hKd
    have lL := bL1.cell
    gi_wp2
    refine ⟨by simp, .inl ⟨_, _, rfl, run_takeDeferred hKd, ?_⟩⟩
    rw [atN_all, List.length_finRange, hm] at hrow
    obtain ⟨A, c, rfl⟩ := own_len hrow
    exact ⟨_, results_tmp rfl _ _ _, A, c, rfl, ownsRow_putObj hrow _ hKd rfl, hB1.trans (belowK_b (w := w) (Nat.le_refl _) W D _ _ (by omega) hKd rfl rfl)⟩
  case stop =>
    rintro D c pre W _ _ h _
    exact h.elim
end Go.Proofs.Ytohfbmgonjkhhaa.L9
