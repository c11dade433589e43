/-
  The document's Load.
-/
import Derived.Test.YtcmlopflandlgaaDdRmaker
import Derived.Test.YtcmlopflandlgaaDdRrow
import Derived.Test.YtcmlopflandlgaaDdBoth
import Derived.Deep.CutBlock
namespace Go.Proofs.Ytcmlopflandlgaa.L8
open Go.RowKit
open Go.Maps
open L3 L4

theorem RT.grownL {B : Nat} {w w1 : World} {k cE cL gl c' n' : Nat} {AE AL : Option Addr} {es : List Int} {vs vs' : List MV} (h : RT B w k AE cE AL cL es vs) (hw : Only (bk AL) w w1) (hown : w1.ownsRow B 48 5 (.slice (some ⟨gl, 0, none⟩) n' c') n' (rowM vs')) (hn : n' = vs'.length) (hk : gl ∈ bk AL ∨ w.heap.size ≤ gl) (hr : RowsIn w1 vs') :
    RT B (w1.setCell ⟨k, 1, none⟩ (.slice (some ⟨gl, 0, none⟩) n' c')) k AE cE (some ⟨gl, 0, none⟩) c' es vs' := by
  subst hn
  have hg : w1.heap[k]? = w.heap[k]? := hw.block k h.lt h.kL
  have kg : gl ≠ k := fun e => by
    rcases hk with q | q
    · exact h.kL (e ▸ q)
    · have := h.lt; omega
  have hrow := hg.trans h.row
  have hno : ∀ (q : Nat) (cs : Array Value) (fr : Nat × Nat), w1.heap[q]? = some (.cells cs 50 fr) → q ≠ k := fun q cs fr hq e => by
    rw [e, hrow] at hq; injection hq with e; injection e with _ e; exact absurd e (by decide)
  refine ⟨heap_setCell_same _ _ 1 _ _ _ hrow, own_at h.eown (fun j e => ?_), own_at hown (fun j e => ?_), fun v hv => ⟨(hr v hv).1.kept (fun q cs fr hq => Below.heap_setCell _ _ _ _ (hno q cs fr hq)), (hr v hv).2⟩⟩
  · have hj : j ∈ bk AE := mem_bk.2 (by rw [blk_own] at e; exact e)
    exact (Below.heap_setCell _ _ _ _ (fun e => h.kE (by rw [← show j = k from e]; exact hj))).trans (hw.block j (h.ltE j hj) (fun e => h.EL j hj e))
  · have e' : gl = j := by simpa [Value.ownBlock] using e
    subst e'
    exact Below.heap_setCell _ _ _ _ kg
/-- what the document's Load tells -/
def RLoadP (w : World) (x : Int) (es : List Int) (ms : List Mk) (e : Ending) (w' : World) : Prop :=
  Below w.heap.size w w' ∧ ((x ≠ 0 ∧ e = .returned (.tuple #[.pointer none, .int .i64 x])) ∨ (x = 0 ∧ ∃ k AE cE AL cL vs, e = .returned (.tuple #[.pointer (some ⟨k, 0, none⟩), .int .i64 0]) ∧ RT w.heap.size w' k AE cE AL cL es vs ∧ vs.map (·.m) = ms ∧ w.heap.size ≤ k))
/-- the one ahead -/
def prevM (ms : List Mk) : Nat → Option Mk
  | 0 => none
  | j + 1 => ms[j]?
theorem chain_at {es : List Int} {ms : List Mk} {j : Nat} {m : Mk} (h : ms[j]? = some m) : chainB es (prevM ms j) (ms.drop j) = (((match prevM ms j with | none => true | some x => befB x m) && fitB es m) && chainB es (prevM ms (j + 1)) (ms.drop (j + 1))) := by
  rw [drop_at h]
  have e : prevM ms (j + 1) = some m := h
  rw [e]
  rfl
theorem keep10w {W w1 w2 : World} {a1 a2 a3 a4 a5 a6 a7 a8 a9 a0 : Addr} {v1 v2 v3 v4 v5 v6 v7 v8 v9 v0 : Value} (h : ((w1.cell? a1 = some v1 ∧ w1.cell? a2 = some v2 ∧ w1.cell? a3 = some v3 ∧ w1.cell? a4 = some v4 ∧ w1.cell? a5 = some v5) ∧ (w1.cell? a6 = some v6 ∧ w1.cell? a7 = some v7 ∧ w1.cell? a8 = some v8 ∧ w1.cell? a9 = some v9 ∧ w1.cell? a0 = some v0)) ∧ Below W.heap.size W w1) (hb : Below w1.heap.size w1 w2) :
    ((w2.cell? a1 = some v1 ∧ w2.cell? a2 = some v2 ∧ w2.cell? a3 = some v3 ∧ w2.cell? a4 = some v4 ∧ w2.cell? a5 = some v5) ∧ (w2.cell? a6 = some v6 ∧ w2.cell? a7 = some v7 ∧ w2.cell? a8 = some v8 ∧ w2.cell? a9 = some v9 ∧ w2.cell? a0 = some v0)) ∧ Below W.heap.size W w2 := by
  obtain ⟨⟨⟨h1, h2, h3, h4, h5⟩, h6, h7, h8, h9, h0⟩, ho⟩ := h
  exact ⟨⟨⟨cell_at hb h1, cell_at hb h2, cell_at hb h3, cell_at hb h4, cell_at hb h5⟩, cell_at hb h6, cell_at hb h7, cell_at hb h8, cell_at hb h9, cell_at hb h0⟩, ho.trans (hb.mono ho.size)⟩
theorem ris_b {B : Nat} {w : World} {k cE cL : Nat} {AE AL : Option Addr} {es : List Int} {vs : List MV} (id : Int) (v : Bool) (h : Hid (RT B w k AE cE AL cL es vs)) (HV : Hid (decide (1 ≤ id ∧ id ≤ es.length) = v)) :
    Calls Try.prog 28 #[.pointer (some ⟨k, 0, none⟩), .int .i64 id] w fun e w' => e = .returned (.bool v) ∧ Below w.heap.size w w' := (ris_is id v h HV).mono fun _ _ ⟨h1, h2⟩ => ⟨h1, by rw [h2]; exact Below.refl _ _⟩
theorem fit_eq (es : List Int) (m : Mk) (L : Nat) (hL : m.l.length = L) : fitB es m = ((decide (1 ≤ m.id ∧ m.id ≤ es.length) && decide (es.getD (m.id - 1).toNat 0 = m.ep)) && ((decide (1 ≤ L) && decide (L ≤ 5)) && rowB none m.l)) := by
  unfold fitB
  rw [hL]
  by_cases h1 : 1 ≤ m.id <;> by_cases h2 : m.id ≤ es.length <;> simp [h1, h2]
theorem rload_step {B k cE cL c9 gg cc : Nat} {w9 w6 : World} {AE AL X9 : Option Addr} {es : List Int} {us : List MV} {m : Mk} {o : Obj} (h : RT B w9 k AE cE AL cL es us) (hR : RowC w9 X9 c9 m.l) (hn9 : X9 = none → c9 = 0) (hown6 : w6.ownsRow B 48 5 (.slice (some ⟨gg, 0, none⟩) (us.length + 1) cc) (us.length + 1) (rowM us ++ mkC ⟨m, X9, c9⟩))
    (hgrow : (w9.alloc o).grownBy w6 (Value.ownBlock (.slice AL us.length cL))) (hat : Value.ownBlock (.slice AL us.length cL) = some gg ∨ gg = w9.heap.size + 1) : RT B (w6.setCell ⟨k, 1, none⟩ (.slice (some ⟨gg, 0, none⟩) (us.length + 1) cc)) k AE cE (some ⟨gg, 0, none⟩) cc es (us ++ [⟨m, X9, c9⟩]) := by
  have hw : Only (bk AL) w9 w6 := (Only.ofBelow (one_box' o)).grown hgrow (fun j e => .inl (mem_bk.2 (by rw [blk_own] at e; exact e)))
  have hno : NoDid w9 (bk AL) := fun j hj => h.noDid j (by simp [hj])
  refine h.grownL hw (by rw [rowM_app]; simpa [rowM] using hown6) (by simp) ?_ (fun v hv => ?_)
  · rcases hat with e | e
    · exact .inl (mem_bk.2 (by rw [blk_own] at e; exact e))
    · right; omega
  · rcases List.mem_append.1 hv with hv | hv
    · exact ⟨(h.rows v hv).1.kept (did_only hw hno), (h.rows v hv).2⟩
    · rw [List.mem_singleton] at hv; subst hv
      exact ⟨hR.kept (did_only hw hno), hn9⟩
set_option maxRecDepth 100000 in
set_option maxHeartbeats 2000000 in
theorem rload_big (A X : Option Addr) (n cap m xc : Nat) (w : World) (h : 32 < n) :
    Calls Try.prog 20 #[.slice A n cap, .slice X m xc] w fun e w' => e = .returned (.tuple #[.pointer none, .int .i64 2]) ∧ w' = w := by
  have t : (n : Int) > 32 := by omega
  go_enter Try.func20, Try.ntmps20
  go_wp2_with fail
  go_ret2
  exact ⟨rfl, rfl⟩
set_option maxRecDepth 100000 in
set_option maxHeartbeats 16000000 in
theorem rload_run (A X : Option Addr) (n cap m xc : Nat) (es : List Int) (vs : List MV) (x : Int) (w : World) (hn : Hid (es.length = n)) (hn1 : n ≤ 32) (HE : Hid (ReadsN w A es)) (hA : Hid (A = none → cap = 0)) (hm : Hid (vs.length = m)) (hm1 : m ≤ 1000) (HX : Hid (ReadsM w X vs)) (HR : Hid (RowsIn w vs)) (HT : Hid (Cmp (vs.map (·.m)))) (HL : Hid (∀ v ∈ vs, v.m.l.length ≤ 1000)) (HC : Hid ((if (es.all numB8 && chainB es none (vs.map (·.m))) = true then 0 else 1) = x)) :
    Calls Try.prog 20 #[.slice A n cap, .slice X m xc] w (RLoadP w x es (vs.map (·.m))) := by
  obtain ⟨i0, hi0, hz0, hz1, hz2⟩ := info_parts numInfo
  obtain ⟨im, hi0m, hz0m, hz1m, hz2m⟩ := info_parts makerInfo
  have t : ¬ (n : Int) > 32 := by omega
  obtain ⟨ab, hab⟩ : ∃ b, es.all numB8 = b := ⟨_, rfl⟩
  have HAB := Lib.hid hab
  clear hab
  go_enter Try.func20, Try.ntmps20
  go_wp2_with fail
  go_loop [6] (fun i => ∃ j : Nat, j ≤ n ∧ i = .int .i64 j ∧ Hid ((es.drop j).all numB8 = ab)) (fun i => n - (intOf i).toNat)
  case atStart => exact ⟨0, by omega, rfl, by rw [List.drop_zero]; exact HAB⟩
  case round =>
    obtain ⟨j, hj, rfl, HJ⟩ := hrel
    by_cases hlt : j < n
    · obtain ⟨g, o, rfl, hc⟩ := HE.out (by rw [hn.out]; omega)
      obtain ⟨y, hy⟩ : ∃ y, es[j]? = some y := ⟨_, List.getElem?_eq_getElem (by rw [hn.out]; exact hlt)⟩
      have d0 := hc j y hy
      have k0 : (0 : Int) ≤ (j : Int) := by omega
      have k1 : (j : Int) < (n : Int) := by omega
      have hst := HJ.out
      rw [drop_at hy, List.all_cons] at hst
      clear hc hy hlt
      cases b1 : numB8 y with
      | false =>
        rw [b1, Bool.false_and] at hst
        have hx : x = 1 := by
          have e := HC.out
          rw [HAB.out, ← hst, Bool.false_and, if_neg (by simp)] at e
          exact e.symm
        subst hx
        have HY := Lib.hid b1
        clear hst b1
        go_wp2_with (go_at_call 34; (with_reducible refine (num8_is y false _ HY).mono ?_); rintro e w2 ⟨rfl, rfl⟩)
        go_ret2
        exact ⟨Below.refl _ _, .inl ⟨by decide, rfl⟩⟩
      | true =>
        rw [b1, Bool.true_and] at hst
        have HY := Lib.hid b1
        have HS := Lib.hid hst
        clear hst b1
        go_wp2_with (go_at_call 34; (with_reducible refine (num8_is y true _ HY).mono ?_); rintro e w2 ⟨rfl, rfl⟩)
        go_round
        case rel => exact ⟨j + 1, by omega, by go_num, HS⟩
        case measure => simp [intOf]; omega
    · obtain rfl : j = n := by omega
      have k1 : ¬ (j : Int) < (j : Int) := by omega
      have hab : ab = true := by
        have e := HJ.out
        rw [List.drop_of_length_le (by rw [hn.out]; exact Nat.le_refl _)] at e
        rw [← e]; rfl
      subst hab
      have HC2 : Hid ((if chainB es none (vs.map (·.m)) = true then (0 : Int) else 1) = x) := Lib.hid (by have e := HC.out; rw [HAB.out, Bool.true_and] at e; exact e)
      clear hlt HJ
      go_wp2_with (at_builtin; refine wpList_append_src (by rfl) _ _ 26 (by rfl) w.heap.size 3 i0 _ 1 8 Try.underlying26 hi0 hz0 hz1 hz2 rfl (by omega) (.slice (some ⟨w.heap.size, 0, none⟩) 0 0) 0 [] (by rfl) (World.ownsRow_made (size := 1) w #[] 0 (Nat.le_refl _) (by unfold maxLen; omega) rfl) A j cap (rowN es) (by rfl) (by rw [rowN_len, hn.out, Nat.mul_one]) (HE.out.below (one_box' _)).src (fun e => by have h0 := HE.out; have hc := hA.out e; subst e; refine ⟨?_, hc⟩; rcases Nat.eq_zero_or_pos j with q | q; exact q; exact (by obtain ⟨g, o, e, _⟩ := h0 (by rw [hn.out]; exact q); cases e)) (rowN_one es) (by unfold maxLen; omega) (by omega) (by simp) ?_; intro v2 w2 hown2 hgrow2; rw [Nat.zero_add, List.nil_append] at hown2; have HB2 : Hid (Below w.heap.size w w2) := Lib.hid ((one_box' _).grown hgrow2 (by simp) (fun z e => by injection e with e; subst e; exact Nat.le_refl _)); obtain ⟨A2, c2, rfl⟩ := own_len hown2; have HO2 := Lib.hid hown2; clear hown2 hgrow2)
      obtain ⟨k, hk⟩ : ∃ k, w2.heap.size = k := ⟨_, rfl⟩
      obtain ⟨W3, hW3⟩ : ∃ W3, w2.alloc (.cells #[.slice A2 j c2, .slice none 0 0] 29) = W3 := ⟨_, rfl⟩
      have HB3 : Hid (Below w.heap.size w W3) := Lib.hid (HB2.out.trans (by rw [← hW3]; exact (one_box' _).mono HB2.out.size))
      have HT3 : Hid (RT w.heap.size W3 k A2 c2 none 0 es []) := Lib.hid (by
        rw [← hW3, ← hk, ← hn.out] at *
        exact ⟨heap_alloc_new _ _, own_below HO2.out (one_box' _), ⟨rfl, .inl ⟨rfl, rfl⟩⟩, fun v hv => by cases hv⟩)
      have HK : Hid (w.heap.size ≤ k) := Lib.hid (by rw [← hk]; exact HB2.out.size)
      rw [hW3, hk]
      clear hW3 hk HO2 HB2
      go_loopw [8] (fun i wr => ∃ (q : Nat) (AL : Option Addr) (cL : Nat) (us : List MV), q ≤ m ∧ i = .int .i64 q ∧ Hid (us.length = q) ∧ Hid (us.map (·.m) = (vs.map (·.m)).take q) ∧ Hid (RT w.heap.size wr k A2 c2 AL cL es us) ∧ Hid (Below w.heap.size w wr) ∧ Hid (chainB es (prevM (vs.map (·.m)) q) ((vs.map (·.m)).drop q) = chainB es none (vs.map (·.m)))) (fun i _ => m - (intOf i).toNat)
      case atStart => exact ⟨0, none, 0, [], by omega, rfl, Lib.hid rfl, Lib.hid rfl, HT3, HB3, Lib.hid rfl⟩
      case round =>
        clear HT3 HB3
        obtain ⟨q, AL, cL, us, hq, rfl, HUL, HUM, HTR, HBR, HCH⟩ := hrel
        by_cases hlt : q < m
        · obtain ⟨mg, mo, rfl, hmg, hmc⟩ := HX.out (by rw [hm.out]; omega)
          obtain ⟨⟨⟨xi, xe, xt, xp, xl⟩, vA, vc⟩, hv⟩ : ∃ v, vs[q]? = some v := ⟨_, List.getElem?_eq_getElem (by rw [hm.out]; exact hlt)⟩
          obtain ⟨b0, b1, b2, b3, b4⟩ := hmc q _ hv
          dsimp only at b0 b1 b2 b3 b4
          obtain ⟨xn, hxn⟩ : ∃ n, xl.length = n := ⟨_, rfl⟩
          rw [hxn] at b4
          have HXN := Lib.hid hxn
          have hxl : xn ≤ 1000 := by rw [← hxn]; exact HL.out _ (List.mem_of_getElem? hv)
          have hxl6 : xn ≤ 1000000 := by omega
          have HRV := Lib.hid (HR.out _ (List.mem_of_getElem? hv))
          have hvm : (vs.map (·.m))[q]? = some ⟨xi, xe, xt, xp, xl⟩ := by rw [List.getElem?_map, hv]; rfl
          have hxt := (HT.out _ (List.mem_of_getElem? hvm)).1
          dsimp only at hxt
          have hst := HCH.out
          rw [chain_at hvm, fit_eq es _ xn hxn] at hst
          dsimp only at hst
          obtain ⟨pb, hpb⟩ : ∃ b, (match prevM (vs.map (·.m)) q with | none => true | some x => befB x ⟨xi, xe, xt, xp, xl⟩) = b := ⟨_, rfl⟩
          obtain ⟨ib, hib⟩ : ∃ b, decide (1 ≤ xi ∧ xi ≤ es.length) = b := ⟨_, rfl⟩
          obtain ⟨rb, hrb⟩ : ∃ b, ((decide (1 ≤ xn) && decide (xn ≤ 5)) && rowB none xl) = b := ⟨_, rfl⟩
          obtain ⟨eb, heb⟩ : ∃ b, decide (es.getD (xi - 1).toNat 0 = xe) = b := ⟨_, rfl⟩
          rw [hpb, hib, hrb, heb] at hst
          have HST := Lib.hid hst
          have HPB := Lib.hid hpb
          have HIB := Lib.hid hib
          have HRB := Lib.hid hrb
          have HEB := Lib.hid heb
          have HVM := Lib.hid hvm
          have HB0 := Lib.hid b0
          have HB1 := Lib.hid b1
          have HB2 := Lib.hid b2
          have HB3 := Lib.hid b3
          have HB4 := Lib.hid b4
          have HMG := Lib.hid hmg
          have HMC := Lib.hid hmc
          have RDR : Hid (RowD wr vA xl) := Lib.hid (HRV.out.1.1.below HBR.out)
          have c0 := cell_at HBR.out b0
          have c1 := cell_at HBR.out b1
          have c2_ := cell_at HBR.out b2
          have c3 := cell_at HBR.out b3
          have c4 := cell_at HBR.out b4
          have k0 : (0 : Int) ≤ (q : Int) := by omega
          have k1 : (q : Int) < (m : Int) := by omega
          clear hmc hv hvm hst hpb hib hrb heb b0 b1 b2 b3 b4 hxn hmg hlt
          go_upto_region 12 with fail
          go_cut [68] (fun sv wd => sv = .bool (!pb || !ib || !rb) ∧ Hid (Below wr.heap.size wr wd))
          case first =>
            by_cases hq0 : q = 0
            · obtain rfl : true = pb := by
                have e := HPB.out
                rw [hq0] at e
                exact e
              have z1 : decide ((0 : Int) < (q : Int)) = false := decide_eq_false (by omega)
              have z2 : decide (0 < q) = false := decide_eq_false (by omega)
              have hS := And.intro (And.intro c0 (And.intro c1 (And.intro c2_ (And.intro c3 c4)))) (Below.refl wr.heap.size wr)
              clear hq0 c0 c1 c2_ c3 c4
              cases ib with
              | false =>
                refine wp_region_held_drew (S := (fun w' => (w'.cell? ⟨mg, mo + q * 5, none⟩ = some (.int .i64 xi) ∧ w'.cell? ⟨mg, mo + q * 5 + 1, none⟩ = some (.int .i64 xe) ∧ w'.cell? ⟨mg, mo + q * 5 + 2, none⟩ = some (.string xt) ∧ w'.cell? ⟨mg, mo + q * 5 + 3, none⟩ = some (.int .i64 xp) ∧ w'.cell? ⟨mg, mo + q * 5 + 4, none⟩ = some (.slice vA xn vc)) ∧ Below wr.heap.size wr w')) (by kernel_rfl) (keep5w hS (drewB _)) (fun hHeld => ?_)
                refine wpAnyH_take (i := 0) (oi := ?o1) (v := ?v1) ?a1 (by kernel_rfl) (by kernel_rfl) (by kernel_rfl) ?q1 (Or.inl ⟨?g1, ?y1⟩) (by assumption) ?r1; (case' a1 => (simp only [List.getElem?_toArray, List.getElem?_cons_zero]; rfl)); (case' q1 => (exact fun _ _ _ h => h)); (case' g1 => rfl); (case' y1 => (intro w hSw; (try dsimp only at hSw); go_simp; try with_reducible rfl)); (case' r1 => (try simp only [Act.put, List.setIfInBounds_toArray, List.set_cons_zero, List.set_cons_succ]))
                refine wpAnyH_take (i := 1) (oi := ?o2) (v := ?v2) ?a2 (by kernel_rfl) (by kernel_rfl) (by kernel_rfl) ?q2 (Or.inl ⟨?g2, ?y2⟩) (by assumption) ?r2; (case' a2 => (simp only [List.getElem?_toArray, List.getElem?_cons_zero, List.getElem?_cons_succ]; rfl)); (case' q2 => (exact fun _ _ _ h => h)); (case' g2 => rfl); (case' y2 => (intro w hSw; (try dsimp only at hSw); go_simp; try with_reducible rfl)); (case' r2 => (try simp only [Act.put, List.setIfInBounds_toArray, List.set_cons_zero, List.set_cons_succ]))
                refine wpAnyH_take (i := 2) (oi := ?o3) (v := ?v3) ?a3 (by kernel_rfl) (by kernel_rfl) (by kernel_rfl) ?q3 (Or.inl ⟨?g3, ?y3⟩) (by assumption) ?r3; (case' a3 => (simp only [List.getElem?_toArray, List.getElem?_cons_zero, List.getElem?_cons_succ]; rfl)); (case' q3 => (exact fun _ _ _ h => h)); (case' g3 => rfl); (case' y3 => (intro w hSw; (try dsimp only at hSw); go_simp; try with_reducible rfl)); (case' r3 => (try simp only [Act.put, List.setIfInBounds_toArray, List.set_cons_zero, List.set_cons_succ]))
                refine wpAnyH_take (i := 3) (oi := ?o4) (v := undef) ?a4 (by kernel_rfl) (by kernel_rfl) (by kernel_rfl) ?q4 (Or.inr ⟨?g4, rfl⟩) (by assumption) ?r4; (case' a4 => (simp only [List.getElem?_toArray, List.getElem?_cons_zero, List.getElem?_cons_succ]; rfl)); (case' q4 => (exact fun _ _ _ h => h)); (case' g4 => rfl); (case' r4 => (try simp only [Act.put, List.setIfInBounds_toArray, List.set_cons_zero, List.set_cons_succ]))
                refine wpAnyH_take (i := 4) (oi := ?o5) (v := undef) ?a5 (by kernel_rfl) (by kernel_rfl) (by kernel_rfl) ?q5 (Or.inr ⟨?g5, rfl⟩) (by assumption) ?r5; (case' a5 => (simp only [List.getElem?_toArray, List.getElem?_cons_zero, List.getElem?_cons_succ]; rfl)); (case' q5 => (exact fun _ _ _ h => h)); (case' g5 => rfl); (case' r5 => (try simp only [Act.put, List.setIfInBounds_toArray, List.set_cons_zero, List.set_cons_succ]))
                refine wpAnyH_take (i := 5) (oi := ?o6) (v := undef) ?a6 (by kernel_rfl) (by kernel_rfl) (by kernel_rfl) ?q6 (Or.inr ⟨?g6, rfl⟩) (by assumption) ?r6; (case' a6 => (simp only [List.getElem?_toArray, List.getElem?_cons_zero, List.getElem?_cons_succ]; rfl)); (case' q6 => (exact fun _ _ _ h => h)); (case' g6 => rfl); (case' r6 => (try simp only [Act.put, List.setIfInBounds_toArray, List.set_cons_zero, List.set_cons_succ]))
                refine wpAnyH_take (i := 6) (oi := ?o7) (v := undef) ?a7 (by kernel_rfl) (by kernel_rfl) (by kernel_rfl) ?q7 (Or.inr ⟨?g7, rfl⟩) (by assumption) ?r7; (case' a7 => (simp only [List.getElem?_toArray, List.getElem?_cons_zero, List.getElem?_cons_succ]; rfl)); (case' q7 => (exact fun _ _ _ h => h)); (case' g7 => rfl); (case' r7 => (try simp only [Act.put, List.setIfInBounds_toArray, List.set_cons_zero, List.set_cons_succ]))
                refine wpAnyH_take (i := 7) (oi := ?o8) (v := undef) ?a8 (by kernel_rfl) (by kernel_rfl) (by kernel_rfl) ?q8 (Or.inr ⟨?g8, rfl⟩) (by assumption) ?r8; (case' a8 => (simp only [List.getElem?_toArray, List.getElem?_cons_zero, List.getElem?_cons_succ]; rfl)); (case' q8 => (exact fun _ _ _ h => h)); (case' g8 => rfl); (case' r8 => (try simp only [Act.put, List.setIfInBounds_toArray, List.set_cons_zero, List.set_cons_succ]))
                refine wpAnyH_take (i := 8) (oi := ?o9) (v := undef) ?a9 (by kernel_rfl) (by kernel_rfl) (by kernel_rfl) ?q9 (Or.inr ⟨?g9, rfl⟩) (by assumption) ?r9; (case' a9 => (simp only [List.getElem?_toArray, List.getElem?_cons_zero, List.getElem?_cons_succ]; rfl)); (case' q9 => (exact fun _ _ _ h => h)); (case' g9 => rfl); (case' r9 => (try simp only [Act.put, List.setIfInBounds_toArray, List.set_cons_zero, List.set_cons_succ]))
                refine wpAnyH_take (i := 9) (oi := ?o10) (v := undef) ?a10 (by kernel_rfl) (by kernel_rfl) (by kernel_rfl) ?q10 (Or.inr ⟨?g10, rfl⟩) (by assumption) ?r10; (case' a10 => (simp only [List.getElem?_toArray, List.getElem?_cons_zero, List.getElem?_cons_succ]; rfl)); (case' q10 => (exact fun _ _ _ h => h)); (case' g10 => rfl); (case' r10 => (try simp only [Act.put, List.setIfInBounds_toArray, List.set_cons_zero, List.set_cons_succ]))
                refine wpAnyH_take (i := 10) (oi := ?o11) (v := undef) ?a11 (by kernel_rfl) (by kernel_rfl) (by kernel_rfl) ?q11 (Or.inr ⟨?g11, rfl⟩) (by assumption) ?r11; (case' a11 => (simp only [List.getElem?_toArray, List.getElem?_cons_zero, List.getElem?_cons_succ]; rfl)); (case' q11 => (exact fun _ _ _ h => h)); (case' g11 => rfl); (case' r11 => (try simp only [Act.put, List.setIfInBounds_toArray, List.set_cons_zero, List.set_cons_succ]))
                refine wpAnyH_take (i := 11) (oi := ?o12) (v := undef) ?a12 (by kernel_rfl) (by kernel_rfl) (by kernel_rfl) ?q12 (Or.inr ⟨?g12, rfl⟩) (by assumption) ?r12; (case' a12 => (simp only [List.getElem?_toArray, List.getElem?_cons_zero, List.getElem?_cons_succ]; rfl)); (case' q12 => (exact fun _ _ _ h => h)); (case' g12 => rfl); (case' r12 => (try simp only [Act.put, List.setIfInBounds_toArray, List.set_cons_zero, List.set_cons_succ]))
                refine wpAnyH_take (i := 12) (oi := ?o13) (v := undef) ?a13 (by kernel_rfl) (by kernel_rfl) (by kernel_rfl) ?q13 (Or.inr ⟨?g13, rfl⟩) (by assumption) ?r13; (case' a13 => (simp only [List.getElem?_toArray, List.getElem?_cons_zero, List.getElem?_cons_succ]; rfl)); (case' q13 => (exact fun _ _ _ h => h)); (case' g13 => rfl); (case' r13 => (try simp only [Act.put, List.setIfInBounds_toArray, List.set_cons_zero, List.set_cons_succ]))
                refine wpAnyH_take (i := 13) (oi := ?o14) (v := undef) ?a14 (by kernel_rfl) (by kernel_rfl) (by kernel_rfl) ?q14 (Or.inr ⟨?g14, rfl⟩) (by assumption) ?r14; (case' a14 => (simp only [List.getElem?_toArray, List.getElem?_cons_zero, List.getElem?_cons_succ]; rfl)); (case' q14 => (exact fun _ _ _ h => h)); (case' g14 => rfl); (case' r14 => (try simp only [Act.put, List.setIfInBounds_toArray, List.set_cons_zero, List.set_cons_succ]))
                refine wpAnyH_take (i := 14) (oi := ?o15) (v := ?v15) ?a15 (by kernel_rfl) (by kernel_rfl) (by kernel_rfl) ?q15 (Or.inl ⟨?g15, ?y15⟩) (by assumption) ?r15; (case' a15 => (simp only [List.getElem?_toArray, List.getElem?_cons_zero, List.getElem?_cons_succ]; rfl)); (case' q15 => (exact fun _ _ _ h => h)); (case' g15 => rfl); (case' y15 => (intro w hSw; (try dsimp only at hSw); go_simp; try with_reducible rfl)); (case' r15 => (try simp only [Act.put, List.setIfInBounds_toArray, List.set_cons_zero, List.set_cons_succ]))
                refine wpAnyH_take (i := 15) (oi := ?o16) (v := ?v16) ?a16 (by kernel_rfl) (by kernel_rfl) (by kernel_rfl) ?q16 (Or.inl ⟨?g16, ?y16⟩) (by assumption) ?r16; (case' a16 => (simp only [List.getElem?_toArray, List.getElem?_cons_zero, List.getElem?_cons_succ]; rfl)); (case' q16 => (exact fun _ _ _ h => h)); (case' g16 => rfl); (case' y16 => (intro w hSw; (try dsimp only at hSw); go_simp; try with_reducible rfl)); (case' r16 => (try simp only [Act.put, List.setIfInBounds_toArray, List.set_cons_zero, List.set_cons_succ]))
                refine wpAnyH_take (i := 16) (oi := ?o17) (v := ?v17) ?a17 (by kernel_rfl) (by kernel_rfl) (by kernel_rfl) ?q17 (Or.inl ⟨?g17, ?y17⟩) (by assumption) ?r17; (case' a17 => (simp only [List.getElem?_toArray, List.getElem?_cons_zero, List.getElem?_cons_succ]; rfl)); (case' q17 => (exact fun _ _ _ h => h)); (case' g17 => rfl); (case' y17 => (intro w hSw; (try dsimp only at hSw); go_simp; try with_reducible rfl)); (case' r17 => (try simp only [Act.put, List.setIfInBounds_toArray, List.set_cons_zero, List.set_cons_succ]))
                refine wpAnyH_take (i := 17) (oi := ?o18) (v := ?v18) ?a18 (by kernel_rfl) (by kernel_rfl) (by kernel_rfl) ?q18 (Or.inl ⟨?g18, ?y18⟩) (by assumption) ?r18; (case' a18 => (simp only [List.getElem?_toArray, List.getElem?_cons_zero, List.getElem?_cons_succ]; rfl)); (case' q18 => (exact fun _ _ _ h => h)); (case' g18 => rfl); (case' y18 => (intro w hSw; (try dsimp only at hSw); go_simp; try with_reducible rfl)); (case' r18 => (try simp only [Act.put, List.setIfInBounds_toArray, List.set_cons_zero, List.set_cons_succ]))
                refine wpAnyH_take (i := 18) (oi := ?o19) (v := ?v19) ?a19 (by kernel_rfl) (by kernel_rfl) (by kernel_rfl) ?q19 (Or.inl ⟨?g19, ?y19⟩) (by assumption) ?r19; (case' a19 => (simp only [List.getElem?_toArray, List.getElem?_cons_zero, List.getElem?_cons_succ]; rfl)); (case' q19 => (exact fun _ _ _ h => h)); (case' g19 => rfl); (case' y19 => (intro w hSw; (try dsimp only at hSw); go_simp; try with_reducible rfl)); (case' r19 => (try simp only [Act.put, List.setIfInBounds_toArray, List.set_cons_zero, List.set_cons_succ]))
                refine wpAnyH_take (i := 19) (oi := ?o20) (v := ?v20) ?a20 (by kernel_rfl) (by kernel_rfl) (by kernel_rfl) ?q20 (Or.inl ⟨?g20, ?y20⟩) (by assumption) ?r20; (case' a20 => (simp only [List.getElem?_toArray, List.getElem?_cons_zero, List.getElem?_cons_succ]; rfl)); (case' q20 => (exact fun _ _ _ h => h)); (case' g20 => rfl); (case' y20 => (intro w hSw; (try dsimp only at hSw); go_simp; try with_reducible rfl)); (case' r20 => (try simp only [Act.put, List.setIfInBounds_toArray, List.set_cons_zero, List.set_cons_succ]))
                refine wpAnyH_take (i := 20) (oi := ?o21) (v := ?v21) ?a21 (by kernel_rfl) (by kernel_rfl) (by kernel_rfl) ?q21 (Or.inl ⟨?g21, ?y21⟩) (by assumption) ?r21; (case' a21 => (simp only [List.getElem?_toArray, List.getElem?_cons_zero, List.getElem?_cons_succ]; rfl)); (case' q21 => (exact fun _ _ _ h => h)); (case' g21 => rfl); (case' y21 => (intro w hSw; (try dsimp only at hSw); go_simp; try with_reducible rfl)); (case' r21 => (try simp only [Act.put, List.setIfInBounds_toArray, List.set_cons_zero, List.set_cons_succ]))
                refine wpAnyH_take (i := 21) (oi := ?o22) (v := ?v22) ?a22 (by kernel_rfl) (by kernel_rfl) (by kernel_rfl) ?q22 (Or.inl ⟨?g22, ?y22⟩) (by assumption) ?r22; (case' a22 => (simp only [List.getElem?_toArray, List.getElem?_cons_zero, List.getElem?_cons_succ]; rfl)); (case' q22 => (exact fun _ _ _ h => h)); (case' g22 => rfl); (case' y22 => (intro w hSw; (try dsimp only at hSw); go_simp; try with_reducible rfl)); (case' r22 => (try simp only [Act.put, List.setIfInBounds_toArray, List.set_cons_zero, List.set_cons_succ]))
                refine wpAnyH_ready (rs := [22]) (by kernel_rfl) (by simp) ?_
                refine AllReadyH.cons (o := ?o23) ?a23 (fun K hK => ?s23) ?m23; (case' a23 => (simp only [List.getElem?_toArray, List.getElem?_cons_zero, List.getElem?_cons_succ]; rfl))
                case s23 =>
                  go_simp
                  go_at_call 28
                  refine (ris_b xi false (Lib.hid (HTR.out.below hHeld.2)) HIB).mono ?_
                  rintro e wn ⟨rfl, hbn⟩
                  go_wp2_with fail
                  refine hK.out _ _ (keep5w hHeld hbn) (fun hHeld => ?_)
                  clear hK K
                  (try simp only [Act.put, List.setIfInBounds_toArray, List.set_cons_zero, List.set_cons_succ])
                  refine wpAnyH_take (i := 23) (oi := ?o24) (v := ?v24) ?a24 (by kernel_rfl) (by kernel_rfl) (by kernel_rfl) ?q24 (Or.inl ⟨?g24, ?y24⟩) (by assumption) ?r24; (case' a24 => (simp only [List.getElem?_toArray, List.getElem?_cons_zero, List.getElem?_cons_succ]; rfl)); (case' q24 => (exact fun _ _ _ h => h)); (case' g24 => rfl); (case' y24 => (intro w hSw; (try dsimp only at hSw); go_simp; try with_reducible rfl)); (case' r24 => (try simp only [Act.put, List.setIfInBounds_toArray, List.set_cons_zero, List.set_cons_succ]))
                  refine wpAnyH_take (i := 24) (oi := ?o25) (v := ?v25) ?a25 (by kernel_rfl) (by kernel_rfl) (by kernel_rfl) ?q25 (Or.inl ⟨?g25, ?y25⟩) (by assumption) ?r25; (case' a25 => (simp only [List.getElem?_toArray, List.getElem?_cons_zero, List.getElem?_cons_succ]; rfl)); (case' q25 => (exact fun _ _ _ h => h)); (case' g25 => rfl); (case' y25 => (intro w hSw; (try dsimp only at hSw); go_simp; try with_reducible rfl)); (case' r25 => (try simp only [Act.put, List.setIfInBounds_toArray, List.set_cons_zero, List.set_cons_succ]))
                  refine wpAnyH_take (i := 25) (oi := ?o26) (v := ?v26) ?a26 (by kernel_rfl) (by kernel_rfl) (by kernel_rfl) ?q26 (Or.inl ⟨?g26, ?y26⟩) (by assumption) ?r26; (case' a26 => (simp only [List.getElem?_toArray, List.getElem?_cons_zero, List.getElem?_cons_succ]; rfl)); (case' q26 => (exact fun _ _ _ h => h)); (case' g26 => rfl); (case' y26 => (intro w hSw; (try dsimp only at hSw); go_simp; try with_reducible rfl)); (case' r26 => (try simp only [Act.put, List.setIfInBounds_toArray, List.set_cons_zero, List.set_cons_succ]))
                  refine wpAnyH_take (i := 26) (oi := ?o27) (v := undef) ?a27 (by kernel_rfl) (by kernel_rfl) (by kernel_rfl) ?q27 (Or.inr ⟨?g27, rfl⟩) (by assumption) ?r27; (case' a27 => (simp only [List.getElem?_toArray, List.getElem?_cons_zero, List.getElem?_cons_succ]; rfl)); (case' q27 => (exact fun _ _ _ h => h)); (case' g27 => rfl); (case' r27 => (try simp only [Act.put, List.setIfInBounds_toArray, List.set_cons_zero, List.set_cons_succ]))
                  refine wpAnyH_take (i := 27) (oi := ?o28) (v := undef) ?a28 (by kernel_rfl) (by kernel_rfl) (by kernel_rfl) ?q28 (Or.inr ⟨?g28, rfl⟩) (by assumption) ?r28; (case' a28 => (simp only [List.getElem?_toArray, List.getElem?_cons_zero, List.getElem?_cons_succ]; rfl)); (case' q28 => (exact fun _ _ _ h => h)); (case' g28 => rfl); (case' r28 => (try simp only [Act.put, List.setIfInBounds_toArray, List.set_cons_zero, List.set_cons_succ]))
                  refine wpAnyH_take (i := 28) (oi := ?o29) (v := undef) ?a29 (by kernel_rfl) (by kernel_rfl) (by kernel_rfl) ?q29 (Or.inr ⟨?g29, rfl⟩) (by assumption) ?r29; (case' a29 => (simp only [List.getElem?_toArray, List.getElem?_cons_zero, List.getElem?_cons_succ]; rfl)); (case' q29 => (exact fun _ _ _ h => h)); (case' g29 => rfl); (case' r29 => (try simp only [Act.put, List.setIfInBounds_toArray, List.set_cons_zero, List.set_cons_succ]))
                  refine wpAnyH_take (i := 29) (oi := ?o30) (v := undef) ?a30 (by kernel_rfl) (by kernel_rfl) (by kernel_rfl) ?q30 (Or.inr ⟨?g30, rfl⟩) (by assumption) ?r30; (case' a30 => (simp only [List.getElem?_toArray, List.getElem?_cons_zero, List.getElem?_cons_succ]; rfl)); (case' q30 => (exact fun _ _ _ h => h)); (case' g30 => rfl); (case' r30 => (try simp only [Act.put, List.setIfInBounds_toArray, List.set_cons_zero, List.set_cons_succ]))
                  refine wpAnyH_take (i := 30) (oi := ?o31) (v := undef) ?a31 (by kernel_rfl) (by kernel_rfl) (by kernel_rfl) ?q31 (Or.inr ⟨?g31, rfl⟩) (by assumption) ?r31; (case' a31 => (simp only [List.getElem?_toArray, List.getElem?_cons_zero, List.getElem?_cons_succ]; rfl)); (case' q31 => (exact fun _ _ _ h => h)); (case' g31 => rfl); (case' r31 => (try simp only [Act.put, List.setIfInBounds_toArray, List.set_cons_zero, List.set_cons_succ]))
                  refine wpAnyH_take (i := 31) (oi := ?o32) (v := undef) ?a32 (by kernel_rfl) (by kernel_rfl) (by kernel_rfl) ?q32 (Or.inr ⟨?g32, rfl⟩) (by assumption) ?r32; (case' a32 => (simp only [List.getElem?_toArray, List.getElem?_cons_zero, List.getElem?_cons_succ]; rfl)); (case' q32 => (exact fun _ _ _ h => h)); (case' g32 => rfl); (case' r32 => (try simp only [Act.put, List.setIfInBounds_toArray, List.set_cons_zero, List.set_cons_succ]))
                  refine wpAnyH_take (i := 32) (oi := ?o33) (v := undef) ?a33 (by kernel_rfl) (by kernel_rfl) (by kernel_rfl) ?q33 (Or.inr ⟨?g33, rfl⟩) (by assumption) ?r33; (case' a33 => (simp only [List.getElem?_toArray, List.getElem?_cons_zero, List.getElem?_cons_succ]; rfl)); (case' q33 => (exact fun _ _ _ h => h)); (case' g33 => rfl); (case' r33 => (try simp only [Act.put, List.setIfInBounds_toArray, List.set_cons_zero, List.set_cons_succ]))
                  refine wpAnyH_take (i := 33) (oi := ?o34) (v := ?v34) ?a34 (by kernel_rfl) (by kernel_rfl) (by kernel_rfl) ?q34 (Or.inl ⟨?g34, ?y34⟩) (by assumption) ?r34; (case' a34 => (simp only [List.getElem?_toArray, List.getElem?_cons_zero, List.getElem?_cons_succ]; rfl)); (case' q34 => (exact fun _ _ _ h => h)); (case' g34 => rfl); (case' y34 => (intro w hSw; (try dsimp only at hSw); go_simp; try with_reducible rfl)); (case' r34 => (try simp only [Act.put, List.setIfInBounds_toArray, List.set_cons_zero, List.set_cons_succ]))
                  refine wpAnyH_done (by kernel_rfl) ?_ _
                  have hbw := hHeld.2
                  clear hHeld
                  go_wp2_with fail
                  go_meet
                  exact ⟨by simp, Lib.hid hbw⟩
                exact AllReadyH.nil
              | true =>
                refine wp_region_held_drew (S := (fun w' => (w'.cell? ⟨mg, mo + q * 5, none⟩ = some (.int .i64 xi) ∧ w'.cell? ⟨mg, mo + q * 5 + 1, none⟩ = some (.int .i64 xe) ∧ w'.cell? ⟨mg, mo + q * 5 + 2, none⟩ = some (.string xt) ∧ w'.cell? ⟨mg, mo + q * 5 + 3, none⟩ = some (.int .i64 xp) ∧ w'.cell? ⟨mg, mo + q * 5 + 4, none⟩ = some (.slice vA xn vc)) ∧ Below wr.heap.size wr w')) (by kernel_rfl) (keep5w hS (drewB _)) (fun hHeld => ?_)
                refine wpAnyH_take (i := 0) (oi := ?o35) (v := ?v35) ?a35 (by kernel_rfl) (by kernel_rfl) (by kernel_rfl) ?q35 (Or.inl ⟨?g35, ?y35⟩) (by assumption) ?r35; (case' a35 => (simp only [List.getElem?_toArray, List.getElem?_cons_zero]; rfl)); (case' q35 => (exact fun _ _ _ h => h)); (case' g35 => rfl); (case' y35 => (intro w hSw; (try dsimp only at hSw); go_simp; try with_reducible rfl)); (case' r35 => (try simp only [Act.put, List.setIfInBounds_toArray, List.set_cons_zero, List.set_cons_succ]))
                refine wpAnyH_take (i := 1) (oi := ?o36) (v := ?v36) ?a36 (by kernel_rfl) (by kernel_rfl) (by kernel_rfl) ?q36 (Or.inl ⟨?g36, ?y36⟩) (by assumption) ?r36; (case' a36 => (simp only [List.getElem?_toArray, List.getElem?_cons_zero, List.getElem?_cons_succ]; rfl)); (case' q36 => (exact fun _ _ _ h => h)); (case' g36 => rfl); (case' y36 => (intro w hSw; (try dsimp only at hSw); go_simp; try with_reducible rfl)); (case' r36 => (try simp only [Act.put, List.setIfInBounds_toArray, List.set_cons_zero, List.set_cons_succ]))
                refine wpAnyH_take (i := 2) (oi := ?o37) (v := ?v37) ?a37 (by kernel_rfl) (by kernel_rfl) (by kernel_rfl) ?q37 (Or.inl ⟨?g37, ?y37⟩) (by assumption) ?r37; (case' a37 => (simp only [List.getElem?_toArray, List.getElem?_cons_zero, List.getElem?_cons_succ]; rfl)); (case' q37 => (exact fun _ _ _ h => h)); (case' g37 => rfl); (case' y37 => (intro w hSw; (try dsimp only at hSw); go_simp; try with_reducible rfl)); (case' r37 => (try simp only [Act.put, List.setIfInBounds_toArray, List.set_cons_zero, List.set_cons_succ]))
                refine wpAnyH_take (i := 3) (oi := ?o38) (v := undef) ?a38 (by kernel_rfl) (by kernel_rfl) (by kernel_rfl) ?q38 (Or.inr ⟨?g38, rfl⟩) (by assumption) ?r38; (case' a38 => (simp only [List.getElem?_toArray, List.getElem?_cons_zero, List.getElem?_cons_succ]; rfl)); (case' q38 => (exact fun _ _ _ h => h)); (case' g38 => rfl); (case' r38 => (try simp only [Act.put, List.setIfInBounds_toArray, List.set_cons_zero, List.set_cons_succ]))
                refine wpAnyH_take (i := 4) (oi := ?o39) (v := undef) ?a39 (by kernel_rfl) (by kernel_rfl) (by kernel_rfl) ?q39 (Or.inr ⟨?g39, rfl⟩) (by assumption) ?r39; (case' a39 => (simp only [List.getElem?_toArray, List.getElem?_cons_zero, List.getElem?_cons_succ]; rfl)); (case' q39 => (exact fun _ _ _ h => h)); (case' g39 => rfl); (case' r39 => (try simp only [Act.put, List.setIfInBounds_toArray, List.set_cons_zero, List.set_cons_succ]))
                refine wpAnyH_take (i := 5) (oi := ?o40) (v := undef) ?a40 (by kernel_rfl) (by kernel_rfl) (by kernel_rfl) ?q40 (Or.inr ⟨?g40, rfl⟩) (by assumption) ?r40; (case' a40 => (simp only [List.getElem?_toArray, List.getElem?_cons_zero, List.getElem?_cons_succ]; rfl)); (case' q40 => (exact fun _ _ _ h => h)); (case' g40 => rfl); (case' r40 => (try simp only [Act.put, List.setIfInBounds_toArray, List.set_cons_zero, List.set_cons_succ]))
                refine wpAnyH_take (i := 6) (oi := ?o41) (v := undef) ?a41 (by kernel_rfl) (by kernel_rfl) (by kernel_rfl) ?q41 (Or.inr ⟨?g41, rfl⟩) (by assumption) ?r41; (case' a41 => (simp only [List.getElem?_toArray, List.getElem?_cons_zero, List.getElem?_cons_succ]; rfl)); (case' q41 => (exact fun _ _ _ h => h)); (case' g41 => rfl); (case' r41 => (try simp only [Act.put, List.setIfInBounds_toArray, List.set_cons_zero, List.set_cons_succ]))
                refine wpAnyH_take (i := 7) (oi := ?o42) (v := undef) ?a42 (by kernel_rfl) (by kernel_rfl) (by kernel_rfl) ?q42 (Or.inr ⟨?g42, rfl⟩) (by assumption) ?r42; (case' a42 => (simp only [List.getElem?_toArray, List.getElem?_cons_zero, List.getElem?_cons_succ]; rfl)); (case' q42 => (exact fun _ _ _ h => h)); (case' g42 => rfl); (case' r42 => (try simp only [Act.put, List.setIfInBounds_toArray, List.set_cons_zero, List.set_cons_succ]))
                refine wpAnyH_take (i := 8) (oi := ?o43) (v := undef) ?a43 (by kernel_rfl) (by kernel_rfl) (by kernel_rfl) ?q43 (Or.inr ⟨?g43, rfl⟩) (by assumption) ?r43; (case' a43 => (simp only [List.getElem?_toArray, List.getElem?_cons_zero, List.getElem?_cons_succ]; rfl)); (case' q43 => (exact fun _ _ _ h => h)); (case' g43 => rfl); (case' r43 => (try simp only [Act.put, List.setIfInBounds_toArray, List.set_cons_zero, List.set_cons_succ]))
                refine wpAnyH_take (i := 9) (oi := ?o44) (v := undef) ?a44 (by kernel_rfl) (by kernel_rfl) (by kernel_rfl) ?q44 (Or.inr ⟨?g44, rfl⟩) (by assumption) ?r44; (case' a44 => (simp only [List.getElem?_toArray, List.getElem?_cons_zero, List.getElem?_cons_succ]; rfl)); (case' q44 => (exact fun _ _ _ h => h)); (case' g44 => rfl); (case' r44 => (try simp only [Act.put, List.setIfInBounds_toArray, List.set_cons_zero, List.set_cons_succ]))
                refine wpAnyH_take (i := 10) (oi := ?o45) (v := undef) ?a45 (by kernel_rfl) (by kernel_rfl) (by kernel_rfl) ?q45 (Or.inr ⟨?g45, rfl⟩) (by assumption) ?r45; (case' a45 => (simp only [List.getElem?_toArray, List.getElem?_cons_zero, List.getElem?_cons_succ]; rfl)); (case' q45 => (exact fun _ _ _ h => h)); (case' g45 => rfl); (case' r45 => (try simp only [Act.put, List.setIfInBounds_toArray, List.set_cons_zero, List.set_cons_succ]))
                refine wpAnyH_take (i := 11) (oi := ?o46) (v := undef) ?a46 (by kernel_rfl) (by kernel_rfl) (by kernel_rfl) ?q46 (Or.inr ⟨?g46, rfl⟩) (by assumption) ?r46; (case' a46 => (simp only [List.getElem?_toArray, List.getElem?_cons_zero, List.getElem?_cons_succ]; rfl)); (case' q46 => (exact fun _ _ _ h => h)); (case' g46 => rfl); (case' r46 => (try simp only [Act.put, List.setIfInBounds_toArray, List.set_cons_zero, List.set_cons_succ]))
                refine wpAnyH_take (i := 12) (oi := ?o47) (v := undef) ?a47 (by kernel_rfl) (by kernel_rfl) (by kernel_rfl) ?q47 (Or.inr ⟨?g47, rfl⟩) (by assumption) ?r47; (case' a47 => (simp only [List.getElem?_toArray, List.getElem?_cons_zero, List.getElem?_cons_succ]; rfl)); (case' q47 => (exact fun _ _ _ h => h)); (case' g47 => rfl); (case' r47 => (try simp only [Act.put, List.setIfInBounds_toArray, List.set_cons_zero, List.set_cons_succ]))
                refine wpAnyH_take (i := 13) (oi := ?o48) (v := undef) ?a48 (by kernel_rfl) (by kernel_rfl) (by kernel_rfl) ?q48 (Or.inr ⟨?g48, rfl⟩) (by assumption) ?r48; (case' a48 => (simp only [List.getElem?_toArray, List.getElem?_cons_zero, List.getElem?_cons_succ]; rfl)); (case' q48 => (exact fun _ _ _ h => h)); (case' g48 => rfl); (case' r48 => (try simp only [Act.put, List.setIfInBounds_toArray, List.set_cons_zero, List.set_cons_succ]))
                refine wpAnyH_take (i := 14) (oi := ?o49) (v := ?v49) ?a49 (by kernel_rfl) (by kernel_rfl) (by kernel_rfl) ?q49 (Or.inl ⟨?g49, ?y49⟩) (by assumption) ?r49; (case' a49 => (simp only [List.getElem?_toArray, List.getElem?_cons_zero, List.getElem?_cons_succ]; rfl)); (case' q49 => (exact fun _ _ _ h => h)); (case' g49 => rfl); (case' y49 => (intro w hSw; (try dsimp only at hSw); go_simp; try with_reducible rfl)); (case' r49 => (try simp only [Act.put, List.setIfInBounds_toArray, List.set_cons_zero, List.set_cons_succ]))
                refine wpAnyH_take (i := 15) (oi := ?o50) (v := ?v50) ?a50 (by kernel_rfl) (by kernel_rfl) (by kernel_rfl) ?q50 (Or.inl ⟨?g50, ?y50⟩) (by assumption) ?r50; (case' a50 => (simp only [List.getElem?_toArray, List.getElem?_cons_zero, List.getElem?_cons_succ]; rfl)); (case' q50 => (exact fun _ _ _ h => h)); (case' g50 => rfl); (case' y50 => (intro w hSw; (try dsimp only at hSw); go_simp; try with_reducible rfl)); (case' r50 => (try simp only [Act.put, List.setIfInBounds_toArray, List.set_cons_zero, List.set_cons_succ]))
                refine wpAnyH_take (i := 16) (oi := ?o51) (v := ?v51) ?a51 (by kernel_rfl) (by kernel_rfl) (by kernel_rfl) ?q51 (Or.inl ⟨?g51, ?y51⟩) (by assumption) ?r51; (case' a51 => (simp only [List.getElem?_toArray, List.getElem?_cons_zero, List.getElem?_cons_succ]; rfl)); (case' q51 => (exact fun _ _ _ h => h)); (case' g51 => rfl); (case' y51 => (intro w hSw; (try dsimp only at hSw); go_simp; try with_reducible rfl)); (case' r51 => (try simp only [Act.put, List.setIfInBounds_toArray, List.set_cons_zero, List.set_cons_succ]))
                refine wpAnyH_take (i := 17) (oi := ?o52) (v := ?v52) ?a52 (by kernel_rfl) (by kernel_rfl) (by kernel_rfl) ?q52 (Or.inl ⟨?g52, ?y52⟩) (by assumption) ?r52; (case' a52 => (simp only [List.getElem?_toArray, List.getElem?_cons_zero, List.getElem?_cons_succ]; rfl)); (case' q52 => (exact fun _ _ _ h => h)); (case' g52 => rfl); (case' y52 => (intro w hSw; (try dsimp only at hSw); go_simp; try with_reducible rfl)); (case' r52 => (try simp only [Act.put, List.setIfInBounds_toArray, List.set_cons_zero, List.set_cons_succ]))
                refine wpAnyH_take (i := 18) (oi := ?o53) (v := ?v53) ?a53 (by kernel_rfl) (by kernel_rfl) (by kernel_rfl) ?q53 (Or.inl ⟨?g53, ?y53⟩) (by assumption) ?r53; (case' a53 => (simp only [List.getElem?_toArray, List.getElem?_cons_zero, List.getElem?_cons_succ]; rfl)); (case' q53 => (exact fun _ _ _ h => h)); (case' g53 => rfl); (case' y53 => (intro w hSw; (try dsimp only at hSw); go_simp; try with_reducible rfl)); (case' r53 => (try simp only [Act.put, List.setIfInBounds_toArray, List.set_cons_zero, List.set_cons_succ]))
                refine wpAnyH_take (i := 19) (oi := ?o54) (v := ?v54) ?a54 (by kernel_rfl) (by kernel_rfl) (by kernel_rfl) ?q54 (Or.inl ⟨?g54, ?y54⟩) (by assumption) ?r54; (case' a54 => (simp only [List.getElem?_toArray, List.getElem?_cons_zero, List.getElem?_cons_succ]; rfl)); (case' q54 => (exact fun _ _ _ h => h)); (case' g54 => rfl); (case' y54 => (intro w hSw; (try dsimp only at hSw); go_simp; try with_reducible rfl)); (case' r54 => (try simp only [Act.put, List.setIfInBounds_toArray, List.set_cons_zero, List.set_cons_succ]))
                refine wpAnyH_take (i := 20) (oi := ?o55) (v := ?v55) ?a55 (by kernel_rfl) (by kernel_rfl) (by kernel_rfl) ?q55 (Or.inl ⟨?g55, ?y55⟩) (by assumption) ?r55; (case' a55 => (simp only [List.getElem?_toArray, List.getElem?_cons_zero, List.getElem?_cons_succ]; rfl)); (case' q55 => (exact fun _ _ _ h => h)); (case' g55 => rfl); (case' y55 => (intro w hSw; (try dsimp only at hSw); go_simp; try with_reducible rfl)); (case' r55 => (try simp only [Act.put, List.setIfInBounds_toArray, List.set_cons_zero, List.set_cons_succ]))
                refine wpAnyH_take (i := 21) (oi := ?o56) (v := ?v56) ?a56 (by kernel_rfl) (by kernel_rfl) (by kernel_rfl) ?q56 (Or.inl ⟨?g56, ?y56⟩) (by assumption) ?r56; (case' a56 => (simp only [List.getElem?_toArray, List.getElem?_cons_zero, List.getElem?_cons_succ]; rfl)); (case' q56 => (exact fun _ _ _ h => h)); (case' g56 => rfl); (case' y56 => (intro w hSw; (try dsimp only at hSw); go_simp; try with_reducible rfl)); (case' r56 => (try simp only [Act.put, List.setIfInBounds_toArray, List.set_cons_zero, List.set_cons_succ]))
                refine wpAnyH_ready (rs := [22]) (by kernel_rfl) (by simp) ?_
                refine AllReadyH.cons (o := ?o57) ?a57 (fun K hK => ?s57) ?m57; (case' a57 => (simp only [List.getElem?_toArray, List.getElem?_cons_zero, List.getElem?_cons_succ]; rfl))
                case s57 =>
                  go_simp
                  go_at_call 28
                  refine (ris_b xi true (Lib.hid (HTR.out.below hHeld.2)) HIB).mono ?_
                  rintro e wn ⟨rfl, hbn⟩
                  go_wp2_with fail
                  refine hK.out _ _ (keep5w hHeld hbn) (fun hHeld => ?_)
                  clear hK K
                  (try simp only [Act.put, List.setIfInBounds_toArray, List.set_cons_zero, List.set_cons_succ])
                  refine wpAnyH_take (i := 23) (oi := ?o58) (v := ?v58) ?a58 (by kernel_rfl) (by kernel_rfl) (by kernel_rfl) ?q58 (Or.inl ⟨?g58, ?y58⟩) (by assumption) ?r58; (case' a58 => (simp only [List.getElem?_toArray, List.getElem?_cons_zero, List.getElem?_cons_succ]; rfl)); (case' q58 => (exact fun _ _ _ h => h)); (case' g58 => rfl); (case' y58 => (intro w hSw; (try dsimp only at hSw); go_simp; try with_reducible rfl)); (case' r58 => (try simp only [Act.put, List.setIfInBounds_toArray, List.set_cons_zero, List.set_cons_succ]))
                  refine wpAnyH_take (i := 24) (oi := ?o59) (v := ?v59) ?a59 (by kernel_rfl) (by kernel_rfl) (by kernel_rfl) ?q59 (Or.inl ⟨?g59, ?y59⟩) (by assumption) ?r59; (case' a59 => (simp only [List.getElem?_toArray, List.getElem?_cons_zero, List.getElem?_cons_succ]; rfl)); (case' q59 => (exact fun _ _ _ h => h)); (case' g59 => rfl); (case' y59 => (intro w hSw; (try dsimp only at hSw); go_simp; try with_reducible rfl)); (case' r59 => (try simp only [Act.put, List.setIfInBounds_toArray, List.set_cons_zero, List.set_cons_succ]))
                  refine wpAnyH_take (i := 25) (oi := ?o60) (v := ?v60) ?a60 (by kernel_rfl) (by kernel_rfl) (by kernel_rfl) ?q60 (Or.inl ⟨?g60, ?y60⟩) (by assumption) ?r60; (case' a60 => (simp only [List.getElem?_toArray, List.getElem?_cons_zero, List.getElem?_cons_succ]; rfl)); (case' q60 => (exact fun _ _ _ h => h)); (case' g60 => rfl); (case' y60 => (intro w hSw; (try dsimp only at hSw); go_simp; try with_reducible rfl)); (case' r60 => (try simp only [Act.put, List.setIfInBounds_toArray, List.set_cons_zero, List.set_cons_succ]))
                  refine wpAnyH_take (i := 26) (oi := ?o61) (v := ?v61) ?a61 (by kernel_rfl) (by kernel_rfl) (by kernel_rfl) ?q61 (Or.inl ⟨?g61, ?y61⟩) (by assumption) ?r61; (case' a61 => (simp only [List.getElem?_toArray, List.getElem?_cons_zero, List.getElem?_cons_succ]; rfl)); (case' q61 => (exact fun _ _ _ h => h)); (case' g61 => rfl); (case' y61 => (intro w hSw; (try dsimp only at hSw); go_simp; try with_reducible rfl)); (case' r61 => (try simp only [Act.put, List.setIfInBounds_toArray, List.set_cons_zero, List.set_cons_succ]))
                  refine wpAnyH_take (i := 27) (oi := ?o62) (v := ?v62) ?a62 (by kernel_rfl) (by kernel_rfl) (by kernel_rfl) ?q62 (Or.inl ⟨?g62, ?y62⟩) (by assumption) ?r62; (case' a62 => (simp only [List.getElem?_toArray, List.getElem?_cons_zero, List.getElem?_cons_succ]; rfl)); (case' q62 => (exact fun _ _ _ h => h)); (case' g62 => rfl); (case' y62 => (intro w hSw; (try dsimp only at hSw); go_simp; try with_reducible rfl)); (case' r62 => (try simp only [Act.put, List.setIfInBounds_toArray, List.set_cons_zero, List.set_cons_succ]))
                  refine wpAnyH_take (i := 28) (oi := ?o63) (v := ?v63) ?a63 (by kernel_rfl) (by kernel_rfl) (by kernel_rfl) ?q63 (Or.inl ⟨?g63, ?y63⟩) (by assumption) ?r63; (case' a63 => (simp only [List.getElem?_toArray, List.getElem?_cons_zero, List.getElem?_cons_succ]; rfl)); (case' q63 => (exact fun _ _ _ h => h)); (case' g63 => rfl); (case' y63 => (intro w hSw; (try dsimp only at hSw); go_simp; try with_reducible rfl)); (case' r63 => (try simp only [Act.put, List.setIfInBounds_toArray, List.set_cons_zero, List.set_cons_succ]))
                  refine wpAnyH_take (i := 29) (oi := ?o64) (v := ?v64) ?a64 (by kernel_rfl) (by kernel_rfl) (by kernel_rfl) ?q64 (Or.inl ⟨?g64, ?y64⟩) (by assumption) ?r64; (case' a64 => (simp only [List.getElem?_toArray, List.getElem?_cons_zero, List.getElem?_cons_succ]; rfl)); (case' q64 => (exact fun _ _ _ h => h)); (case' g64 => rfl); (case' y64 => (intro w hSw; (try dsimp only at hSw); go_simp; try with_reducible rfl)); (case' r64 => (try simp only [Act.put, List.setIfInBounds_toArray, List.set_cons_zero, List.set_cons_succ]))
                  refine wpAnyH_take (i := 30) (oi := ?o65) (v := ?v65) ?a65 (by kernel_rfl) (by kernel_rfl) (by kernel_rfl) ?q65 (Or.inl ⟨?g65, ?y65⟩) (by assumption) ?r65; (case' a65 => (simp only [List.getElem?_toArray, List.getElem?_cons_zero, List.getElem?_cons_succ]; rfl)); (case' q65 => (exact fun _ _ _ h => h)); (case' g65 => rfl); (case' y65 => (intro w hSw; (try dsimp only at hSw); go_simp; try with_reducible rfl)); (case' r65 => (try simp only [Act.put, List.setIfInBounds_toArray, List.set_cons_zero, List.set_cons_succ]))
                  refine wpAnyH_ready (rs := [31]) (by kernel_rfl) (by simp) ?_
                  refine AllReadyH.cons (o := ?o66) ?a66 (fun K hK => ?s66) ?m66; (case' a66 => (simp only [List.getElem?_toArray, List.getElem?_cons_zero, List.getElem?_cons_succ]; rfl))
                  case s66 =>
                    go_simp
                    go_at_call 42
                    refine (rrow_is vA xl xn vc rb _ (Lib.hid (RDR.out.below hHeld.2)) HXN hxl6 HRB).mono ?_
                    rintro e wn ⟨rfl, hbn⟩
                    go_wp2_with fail
                    refine hK.out _ _ (keep5w hHeld hbn) (fun hHeld => ?_)
                    clear hK K
                    (try simp only [Act.put, List.setIfInBounds_toArray, List.set_cons_zero, List.set_cons_succ])
                    refine wpAnyH_take (i := 32) (oi := ?o67) (v := ?v67) ?a67 (by kernel_rfl) (by kernel_rfl) (by kernel_rfl) ?q67 (Or.inl ⟨?g67, ?y67⟩) (by assumption) ?r67; (case' a67 => (simp only [List.getElem?_toArray, List.getElem?_cons_zero, List.getElem?_cons_succ]; rfl)); (case' q67 => (exact fun _ _ _ h => h)); (case' g67 => rfl); (case' y67 => (intro w hSw; (try dsimp only at hSw); go_simp; try with_reducible rfl)); (case' r67 => (try simp only [Act.put, List.setIfInBounds_toArray, List.set_cons_zero, List.set_cons_succ]))
                    refine wpAnyH_take (i := 33) (oi := ?o68) (v := ?v68) ?a68 (by kernel_rfl) (by kernel_rfl) (by kernel_rfl) ?q68 (Or.inl ⟨?g68, ?y68⟩) (by assumption) ?r68; (case' a68 => (simp only [List.getElem?_toArray, List.getElem?_cons_zero, List.getElem?_cons_succ]; rfl)); (case' q68 => (exact fun _ _ _ h => h)); (case' g68 => rfl); (case' y68 => (intro w hSw; (try dsimp only at hSw); go_simp; try with_reducible rfl)); (case' r68 => (try simp only [Act.put, List.setIfInBounds_toArray, List.set_cons_zero, List.set_cons_succ]))
                    refine wpAnyH_done (by kernel_rfl) ?_ _
                    have hbw := hHeld.2
                    clear hHeld
                    go_wp2_with fail
                    go_meet
                    exact ⟨by simp, Lib.hid hbw⟩
                  exact AllReadyH.nil
                exact AllReadyH.nil
            · obtain ⟨q1, hq1⟩ : ∃ x, x + 1 = q := ⟨q - 1, by omega⟩
              obtain ⟨⟨⟨yi, ye, yt, yp, yl⟩, yA, yc⟩, hy⟩ : ∃ v, vs[q1]? = some v := ⟨_, List.getElem?_eq_getElem (by rw [hm.out]; omega)⟩
              obtain ⟨a0, a1, a2, a3, a4⟩ := HMC.out q1 _ hy
              dsimp only at a0 a1 a2 a3 a4
              obtain ⟨yn, hyn⟩ : ∃ n, yl.length = n := ⟨_, rfl⟩
              rw [hyn] at a4
              have hym : (vs.map (·.m))[q1]? = some ⟨yi, ye, yt, yp, yl⟩ := by rw [List.getElem?_map, hy]; rfl
              have hyt := (HT.out _ (List.mem_of_getElem? hym)).1
              dsimp only at hyt
              have HBF : Hid (befB ⟨yi, ye, yt, yp, yl⟩ ⟨xi, xe, xt, xp, xl⟩ = pb) := Lib.hid (by
                have e := HPB.out
                rw [← hq1] at e
                have e2 : prevM (vs.map (·.m)) (q1 + 1) = some ⟨yi, ye, yt, yp, yl⟩ := hym
                rw [e2] at e
                exact e)
              have y0 := cell_at HBR.out a0
              have y1 := cell_at HBR.out a1
              have y2 := cell_at HBR.out a2
              have y3 := cell_at HBR.out a3
              have y4 := cell_at HBR.out a4
              have hS := And.intro (And.intro (And.intro y0 (And.intro y1 (And.intro y2 (And.intro y3 y4)))) (And.intro c0 (And.intro c1 (And.intro c2_ (And.intro c3 c4))))) (Below.refl wr.heap.size wr)
              have z1 : decide ((0 : Int) < (q : Int)) = true := decide_eq_true (by omega)
              have z2 : decide (0 < q) = true := decide_eq_true (by omega)
              have z3 : (0 : Int) < (q : Int) := by omega
              have z4 : (q : Int) - 1 = (q1 : Int) := by omega
              have w4_ : IntKind.i64.wrap ((q : Int) - 1) = (q1 : Int) := by rw [z4]; exact IntWalk.i64_in _ (by omega)
              have i1 : (0 : Int) ≤ (q1 : Int) := by omega
              have i2 : (q1 : Int) < (m : Int) := by omega
              clear hq0 hq1 hy hym hyn a0 a1 a2 a3 a4 y0 y1 y2 y3 y4 c0 c1 c2_ c3 c4 z4
              cases pb with
              | false =>
                refine wp_region_held_drew (S := (fun w' => ((w'.cell? ⟨mg, mo + q1 * 5, none⟩ = some (.int .i64 yi) ∧ w'.cell? ⟨mg, mo + q1 * 5 + 1, none⟩ = some (.int .i64 ye) ∧ w'.cell? ⟨mg, mo + q1 * 5 + 2, none⟩ = some (.string yt) ∧ w'.cell? ⟨mg, mo + q1 * 5 + 3, none⟩ = some (.int .i64 yp) ∧ w'.cell? ⟨mg, mo + q1 * 5 + 4, none⟩ = some (.slice yA yn yc)) ∧ (w'.cell? ⟨mg, mo + q * 5, none⟩ = some (.int .i64 xi) ∧ w'.cell? ⟨mg, mo + q * 5 + 1, none⟩ = some (.int .i64 xe) ∧ w'.cell? ⟨mg, mo + q * 5 + 2, none⟩ = some (.string xt) ∧ w'.cell? ⟨mg, mo + q * 5 + 3, none⟩ = some (.int .i64 xp) ∧ w'.cell? ⟨mg, mo + q * 5 + 4, none⟩ = some (.slice vA xn vc))) ∧ Below wr.heap.size wr w')) (by kernel_rfl) (keep10w hS (drewB _)) (fun hHeld => ?_)
                refine wpAnyH_take (i := 0) (oi := ?o69) (v := ?v69) ?a69 (by kernel_rfl) (by kernel_rfl) (by kernel_rfl) ?q69 (Or.inl ⟨?g69, ?y69⟩) (by assumption) ?r69; (case' a69 => (simp only [List.getElem?_toArray, List.getElem?_cons_zero]; rfl)); (case' q69 => (exact fun _ _ _ h => h)); (case' g69 => rfl); (case' y69 => (intro w hSw; (try dsimp only at hSw); go_simp; try with_reducible rfl)); (case' r69 => (try simp only [Act.put, List.setIfInBounds_toArray, List.set_cons_zero, List.set_cons_succ]))
                refine wpAnyH_take (i := 1) (oi := ?o70) (v := ?v70) ?a70 (by kernel_rfl) (by kernel_rfl) (by kernel_rfl) ?q70 (Or.inl ⟨?g70, ?y70⟩) (by assumption) ?r70; (case' a70 => (simp only [List.getElem?_toArray, List.getElem?_cons_zero, List.getElem?_cons_succ]; rfl)); (case' q70 => (exact fun _ _ _ h => h)); (case' g70 => rfl); (case' y70 => (intro w hSw; (try dsimp only at hSw); go_simp; try with_reducible rfl)); (case' r70 => (try simp only [Act.put, List.setIfInBounds_toArray, List.set_cons_zero, List.set_cons_succ]))
                refine wpAnyH_take (i := 2) (oi := ?o71) (v := ?v71) ?a71 (by kernel_rfl) (by kernel_rfl) (by kernel_rfl) ?q71 (Or.inl ⟨?g71, ?y71⟩) (by assumption) ?r71; (case' a71 => (simp only [List.getElem?_toArray, List.getElem?_cons_zero, List.getElem?_cons_succ]; rfl)); (case' q71 => (exact fun _ _ _ h => h)); (case' g71 => rfl); (case' y71 => (intro w hSw; (try dsimp only at hSw); go_simp; try with_reducible rfl)); (case' r71 => (try simp only [Act.put, List.setIfInBounds_toArray, List.set_cons_zero, List.set_cons_succ]))
                refine wpAnyH_take (i := 3) (oi := ?o72) (v := ?v72) ?a72 (by kernel_rfl) (by kernel_rfl) (by kernel_rfl) ?q72 (Or.inl ⟨?g72, ?y72⟩) (by assumption) ?r72; (case' a72 => (simp only [List.getElem?_toArray, List.getElem?_cons_zero, List.getElem?_cons_succ]; rfl)); (case' q72 => (exact fun _ _ _ h => h)); (case' g72 => rfl); (case' y72 => (intro w hSw; (try dsimp only at hSw); go_simp; try with_reducible rfl)); (case' r72 => (try simp only [Act.put, List.setIfInBounds_toArray, List.set_cons_zero, List.set_cons_succ]))
                refine wpAnyH_take (i := 4) (oi := ?o73) (v := ?v73) ?a73 (by kernel_rfl) (by kernel_rfl) (by kernel_rfl) ?q73 (Or.inl ⟨?g73, ?y73⟩) (by assumption) ?r73; (case' a73 => (simp only [List.getElem?_toArray, List.getElem?_cons_zero, List.getElem?_cons_succ]; rfl)); (case' q73 => (exact fun _ _ _ h => h)); (case' g73 => rfl); (case' y73 => (intro w hSw; (try dsimp only at hSw); go_simp; try with_reducible rfl)); (case' r73 => (try simp only [Act.put, List.setIfInBounds_toArray, List.set_cons_zero, List.set_cons_succ]))
                refine wpAnyH_take (i := 5) (oi := ?o74) (v := ?v74) ?a74 (by kernel_rfl) (by kernel_rfl) (by kernel_rfl) ?q74 (Or.inl ⟨?g74, ?y74⟩) (by assumption) ?r74; (case' a74 => (simp only [List.getElem?_toArray, List.getElem?_cons_zero, List.getElem?_cons_succ]; rfl)); (case' q74 => (exact fun _ _ _ h => h)); (case' g74 => rfl); (case' y74 => (intro w hSw; (try dsimp only at hSw); go_simp; try with_reducible rfl)); (case' r74 => (try simp only [Act.put, List.setIfInBounds_toArray, List.set_cons_zero, List.set_cons_succ]))
                refine wpAnyH_take (i := 6) (oi := ?o75) (v := ?v75) ?a75 (by kernel_rfl) (by kernel_rfl) (by kernel_rfl) ?q75 (Or.inl ⟨?g75, ?y75⟩) (by assumption) ?r75; (case' a75 => (simp only [List.getElem?_toArray, List.getElem?_cons_zero, List.getElem?_cons_succ]; rfl)); (case' q75 => (exact fun _ _ _ h => h)); (case' g75 => rfl); (case' y75 => (intro w hSw; (try dsimp only at hSw); go_simp; try with_reducible rfl)); (case' r75 => (try simp only [Act.put, List.setIfInBounds_toArray, List.set_cons_zero, List.set_cons_succ]))
                refine wpAnyH_take (i := 7) (oi := ?o76) (v := ?v76) ?a76 (by kernel_rfl) (by kernel_rfl) (by kernel_rfl) ?q76 (Or.inl ⟨?g76, ?y76⟩) (by assumption) ?r76; (case' a76 => (simp only [List.getElem?_toArray, List.getElem?_cons_zero, List.getElem?_cons_succ]; rfl)); (case' q76 => (exact fun _ _ _ h => h)); (case' g76 => rfl); (case' y76 => (intro w hSw; (try dsimp only at hSw); go_simp; try with_reducible rfl)); (case' r76 => (try simp only [Act.put, List.setIfInBounds_toArray, List.set_cons_zero, List.set_cons_succ]))
                refine wpAnyH_take (i := 8) (oi := ?o77) (v := ?v77) ?a77 (by kernel_rfl) (by kernel_rfl) (by kernel_rfl) ?q77 (Or.inl ⟨?g77, ?y77⟩) (by assumption) ?r77; (case' a77 => (simp only [List.getElem?_toArray, List.getElem?_cons_zero, List.getElem?_cons_succ]; rfl)); (case' q77 => (exact fun _ _ _ h => h)); (case' g77 => rfl); (case' y77 => (intro w hSw; (try dsimp only at hSw); go_simp; try with_reducible rfl)); (case' r77 => (try simp only [Act.put, List.setIfInBounds_toArray, List.set_cons_zero, List.set_cons_succ]))
                refine wpAnyH_take (i := 9) (oi := ?o78) (v := ?v78) ?a78 (by kernel_rfl) (by kernel_rfl) (by kernel_rfl) ?q78 (Or.inl ⟨?g78, ?y78⟩) (by assumption) ?r78; (case' a78 => (simp only [List.getElem?_toArray, List.getElem?_cons_zero, List.getElem?_cons_succ]; rfl)); (case' q78 => (exact fun _ _ _ h => h)); (case' g78 => rfl); (case' y78 => (intro w hSw; (try dsimp only at hSw); go_simp; try with_reducible rfl)); (case' r78 => (try simp only [Act.put, List.setIfInBounds_toArray, List.set_cons_zero, List.set_cons_succ]))
                refine wpAnyH_take (i := 10) (oi := ?o79) (v := ?v79) ?a79 (by kernel_rfl) (by kernel_rfl) (by kernel_rfl) ?q79 (Or.inl ⟨?g79, ?y79⟩) (by assumption) ?r79; (case' a79 => (simp only [List.getElem?_toArray, List.getElem?_cons_zero, List.getElem?_cons_succ]; rfl)); (case' q79 => (exact fun _ _ _ h => h)); (case' g79 => rfl); (case' y79 => (intro w hSw; (try dsimp only at hSw); go_simp; try with_reducible rfl)); (case' r79 => (try simp only [Act.put, List.setIfInBounds_toArray, List.set_cons_zero, List.set_cons_succ]))
                refine wpAnyH_take (i := 11) (oi := ?o80) (v := ?v80) ?a80 (by kernel_rfl) (by kernel_rfl) (by kernel_rfl) ?q80 (Or.inl ⟨?g80, ?y80⟩) (by assumption) ?r80; (case' a80 => (simp only [List.getElem?_toArray, List.getElem?_cons_zero, List.getElem?_cons_succ]; rfl)); (case' q80 => (exact fun _ _ _ h => h)); (case' g80 => rfl); (case' y80 => (intro w hSw; (try dsimp only at hSw); go_simp; try with_reducible rfl)); (case' r80 => (try simp only [Act.put, List.setIfInBounds_toArray, List.set_cons_zero, List.set_cons_succ]))
                refine wpAnyH_ready (rs := [12]) (by kernel_rfl) (by simp) ?_
                refine AllReadyH.cons (o := ?o81) ?a81 (fun K hK => ?s81) ?m81; (case' a81 => (simp only [List.getElem?_toArray, List.getElem?_cons_zero, List.getElem?_cons_succ]; rfl))
                case s81 =>
                  go_simp
                  go_at_call 22
                  refine (rbefore_is yi ye yp xi xe xp yt xt yl xl yA vA yn yc xn vc false _ hyt hxt HBF).mono ?_
                  rintro e wn ⟨rfl, hbn⟩
                  go_wp2_with fail
                  refine hK.out _ _ (keep10w hHeld hbn) (fun hHeld => ?_)
                  clear hK K
                  (try simp only [Act.put, List.setIfInBounds_toArray, List.set_cons_zero, List.set_cons_succ])
                  refine wpAnyH_take (i := 13) (oi := ?o82) (v := ?v82) ?a82 (by kernel_rfl) (by kernel_rfl) (by kernel_rfl) ?q82 (Or.inl ⟨?g82, ?y82⟩) (by assumption) ?r82; (case' a82 => (simp only [List.getElem?_toArray, List.getElem?_cons_zero, List.getElem?_cons_succ]; rfl)); (case' q82 => (exact fun _ _ _ h => h)); (case' g82 => rfl); (case' y82 => (intro w hSw; (try dsimp only at hSw); go_simp; try with_reducible rfl)); (case' r82 => (try simp only [Act.put, List.setIfInBounds_toArray, List.set_cons_zero, List.set_cons_succ]))
                  refine wpAnyH_take (i := 14) (oi := ?o83) (v := ?v83) ?a83 (by kernel_rfl) (by kernel_rfl) (by kernel_rfl) ?q83 (Or.inl ⟨?g83, ?y83⟩) (by assumption) ?r83; (case' a83 => (simp only [List.getElem?_toArray, List.getElem?_cons_zero, List.getElem?_cons_succ]; rfl)); (case' q83 => (exact fun _ _ _ h => h)); (case' g83 => rfl); (case' y83 => (intro w hSw; (try dsimp only at hSw); go_simp; try with_reducible rfl)); (case' r83 => (try simp only [Act.put, List.setIfInBounds_toArray, List.set_cons_zero, List.set_cons_succ]))
                  refine wpAnyH_take (i := 15) (oi := ?o84) (v := ?v84) ?a84 (by kernel_rfl) (by kernel_rfl) (by kernel_rfl) ?q84 (Or.inl ⟨?g84, ?y84⟩) (by assumption) ?r84; (case' a84 => (simp only [List.getElem?_toArray, List.getElem?_cons_zero, List.getElem?_cons_succ]; rfl)); (case' q84 => (exact fun _ _ _ h => h)); (case' g84 => rfl); (case' y84 => (intro w hSw; (try dsimp only at hSw); go_simp; try with_reducible rfl)); (case' r84 => (try simp only [Act.put, List.setIfInBounds_toArray, List.set_cons_zero, List.set_cons_succ]))
                  refine wpAnyH_take (i := 16) (oi := ?o85) (v := undef) ?a85 (by kernel_rfl) (by kernel_rfl) (by kernel_rfl) ?q85 (Or.inr ⟨?g85, rfl⟩) (by assumption) ?r85; (case' a85 => (simp only [List.getElem?_toArray, List.getElem?_cons_zero, List.getElem?_cons_succ]; rfl)); (case' q85 => (exact fun _ _ _ h => h)); (case' g85 => rfl); (case' r85 => (try simp only [Act.put, List.setIfInBounds_toArray, List.set_cons_zero, List.set_cons_succ]))
                  refine wpAnyH_take (i := 17) (oi := ?o86) (v := undef) ?a86 (by kernel_rfl) (by kernel_rfl) (by kernel_rfl) ?q86 (Or.inr ⟨?g86, rfl⟩) (by assumption) ?r86; (case' a86 => (simp only [List.getElem?_toArray, List.getElem?_cons_zero, List.getElem?_cons_succ]; rfl)); (case' q86 => (exact fun _ _ _ h => h)); (case' g86 => rfl); (case' r86 => (try simp only [Act.put, List.setIfInBounds_toArray, List.set_cons_zero, List.set_cons_succ]))
                  refine wpAnyH_take (i := 18) (oi := ?o87) (v := undef) ?a87 (by kernel_rfl) (by kernel_rfl) (by kernel_rfl) ?q87 (Or.inr ⟨?g87, rfl⟩) (by assumption) ?r87; (case' a87 => (simp only [List.getElem?_toArray, List.getElem?_cons_zero, List.getElem?_cons_succ]; rfl)); (case' q87 => (exact fun _ _ _ h => h)); (case' g87 => rfl); (case' r87 => (try simp only [Act.put, List.setIfInBounds_toArray, List.set_cons_zero, List.set_cons_succ]))
                  refine wpAnyH_take (i := 19) (oi := ?o88) (v := undef) ?a88 (by kernel_rfl) (by kernel_rfl) (by kernel_rfl) ?q88 (Or.inr ⟨?g88, rfl⟩) (by assumption) ?r88; (case' a88 => (simp only [List.getElem?_toArray, List.getElem?_cons_zero, List.getElem?_cons_succ]; rfl)); (case' q88 => (exact fun _ _ _ h => h)); (case' g88 => rfl); (case' r88 => (try simp only [Act.put, List.setIfInBounds_toArray, List.set_cons_zero, List.set_cons_succ]))
                  refine wpAnyH_take (i := 20) (oi := ?o89) (v := undef) ?a89 (by kernel_rfl) (by kernel_rfl) (by kernel_rfl) ?q89 (Or.inr ⟨?g89, rfl⟩) (by assumption) ?r89; (case' a89 => (simp only [List.getElem?_toArray, List.getElem?_cons_zero, List.getElem?_cons_succ]; rfl)); (case' q89 => (exact fun _ _ _ h => h)); (case' g89 => rfl); (case' r89 => (try simp only [Act.put, List.setIfInBounds_toArray, List.set_cons_zero, List.set_cons_succ]))
                  refine wpAnyH_take (i := 21) (oi := ?o90) (v := undef) ?a90 (by kernel_rfl) (by kernel_rfl) (by kernel_rfl) ?q90 (Or.inr ⟨?g90, rfl⟩) (by assumption) ?r90; (case' a90 => (simp only [List.getElem?_toArray, List.getElem?_cons_zero, List.getElem?_cons_succ]; rfl)); (case' q90 => (exact fun _ _ _ h => h)); (case' g90 => rfl); (case' r90 => (try simp only [Act.put, List.setIfInBounds_toArray, List.set_cons_zero, List.set_cons_succ]))
                  refine wpAnyH_take (i := 22) (oi := ?o91) (v := undef) ?a91 (by kernel_rfl) (by kernel_rfl) (by kernel_rfl) ?q91 (Or.inr ⟨?g91, rfl⟩) (by assumption) ?r91; (case' a91 => (simp only [List.getElem?_toArray, List.getElem?_cons_zero, List.getElem?_cons_succ]; rfl)); (case' q91 => (exact fun _ _ _ h => h)); (case' g91 => rfl); (case' r91 => (try simp only [Act.put, List.setIfInBounds_toArray, List.set_cons_zero, List.set_cons_succ]))
                  refine wpAnyH_take (i := 23) (oi := ?o92) (v := undef) ?a92 (by kernel_rfl) (by kernel_rfl) (by kernel_rfl) ?q92 (Or.inr ⟨?g92, rfl⟩) (by assumption) ?r92; (case' a92 => (simp only [List.getElem?_toArray, List.getElem?_cons_zero, List.getElem?_cons_succ]; rfl)); (case' q92 => (exact fun _ _ _ h => h)); (case' g92 => rfl); (case' r92 => (try simp only [Act.put, List.setIfInBounds_toArray, List.set_cons_zero, List.set_cons_succ]))
                  refine wpAnyH_take (i := 24) (oi := ?o93) (v := ?v93) ?a93 (by kernel_rfl) (by kernel_rfl) (by kernel_rfl) ?q93 (Or.inl ⟨?g93, ?y93⟩) (by assumption) ?r93; (case' a93 => (simp only [List.getElem?_toArray, List.getElem?_cons_zero, List.getElem?_cons_succ]; rfl)); (case' q93 => (exact fun _ _ _ h => h)); (case' g93 => rfl); (case' y93 => (intro w hSw; (try dsimp only at hSw); go_simp; try with_reducible rfl)); (case' r93 => (try simp only [Act.put, List.setIfInBounds_toArray, List.set_cons_zero, List.set_cons_succ]))
                  refine wpAnyH_take (i := 25) (oi := ?o94) (v := ?v94) ?a94 (by kernel_rfl) (by kernel_rfl) (by kernel_rfl) ?q94 (Or.inl ⟨?g94, ?y94⟩) (by assumption) ?r94; (case' a94 => (simp only [List.getElem?_toArray, List.getElem?_cons_zero, List.getElem?_cons_succ]; rfl)); (case' q94 => (exact fun _ _ _ h => h)); (case' g94 => rfl); (case' y94 => (intro w hSw; (try dsimp only at hSw); go_simp; try with_reducible rfl)); (case' r94 => (try simp only [Act.put, List.setIfInBounds_toArray, List.set_cons_zero, List.set_cons_succ]))
                  refine wpAnyH_take (i := 26) (oi := ?o95) (v := undef) ?a95 (by kernel_rfl) (by kernel_rfl) (by kernel_rfl) ?q95 (Or.inr ⟨?g95, rfl⟩) (by assumption) ?r95; (case' a95 => (simp only [List.getElem?_toArray, List.getElem?_cons_zero, List.getElem?_cons_succ]; rfl)); (case' q95 => (exact fun _ _ _ h => h)); (case' g95 => rfl); (case' r95 => (try simp only [Act.put, List.setIfInBounds_toArray, List.set_cons_zero, List.set_cons_succ]))
                  refine wpAnyH_take (i := 27) (oi := ?o96) (v := undef) ?a96 (by kernel_rfl) (by kernel_rfl) (by kernel_rfl) ?q96 (Or.inr ⟨?g96, rfl⟩) (by assumption) ?r96; (case' a96 => (simp only [List.getElem?_toArray, List.getElem?_cons_zero, List.getElem?_cons_succ]; rfl)); (case' q96 => (exact fun _ _ _ h => h)); (case' g96 => rfl); (case' r96 => (try simp only [Act.put, List.setIfInBounds_toArray, List.set_cons_zero, List.set_cons_succ]))
                  refine wpAnyH_take (i := 28) (oi := ?o97) (v := undef) ?a97 (by kernel_rfl) (by kernel_rfl) (by kernel_rfl) ?q97 (Or.inr ⟨?g97, rfl⟩) (by assumption) ?r97; (case' a97 => (simp only [List.getElem?_toArray, List.getElem?_cons_zero, List.getElem?_cons_succ]; rfl)); (case' q97 => (exact fun _ _ _ h => h)); (case' g97 => rfl); (case' r97 => (try simp only [Act.put, List.setIfInBounds_toArray, List.set_cons_zero, List.set_cons_succ]))
                  refine wpAnyH_take (i := 29) (oi := ?o98) (v := undef) ?a98 (by kernel_rfl) (by kernel_rfl) (by kernel_rfl) ?q98 (Or.inr ⟨?g98, rfl⟩) (by assumption) ?r98; (case' a98 => (simp only [List.getElem?_toArray, List.getElem?_cons_zero, List.getElem?_cons_succ]; rfl)); (case' q98 => (exact fun _ _ _ h => h)); (case' g98 => rfl); (case' r98 => (try simp only [Act.put, List.setIfInBounds_toArray, List.set_cons_zero, List.set_cons_succ]))
                  refine wpAnyH_take (i := 30) (oi := ?o99) (v := undef) ?a99 (by kernel_rfl) (by kernel_rfl) (by kernel_rfl) ?q99 (Or.inr ⟨?g99, rfl⟩) (by assumption) ?r99; (case' a99 => (simp only [List.getElem?_toArray, List.getElem?_cons_zero, List.getElem?_cons_succ]; rfl)); (case' q99 => (exact fun _ _ _ h => h)); (case' g99 => rfl); (case' r99 => (try simp only [Act.put, List.setIfInBounds_toArray, List.set_cons_zero, List.set_cons_succ]))
                  refine wpAnyH_take (i := 31) (oi := ?o100) (v := undef) ?a100 (by kernel_rfl) (by kernel_rfl) (by kernel_rfl) ?q100 (Or.inr ⟨?g100, rfl⟩) (by assumption) ?r100; (case' a100 => (simp only [List.getElem?_toArray, List.getElem?_cons_zero, List.getElem?_cons_succ]; rfl)); (case' q100 => (exact fun _ _ _ h => h)); (case' g100 => rfl); (case' r100 => (try simp only [Act.put, List.setIfInBounds_toArray, List.set_cons_zero, List.set_cons_succ]))
                  refine wpAnyH_take (i := 32) (oi := ?o101) (v := undef) ?a101 (by kernel_rfl) (by kernel_rfl) (by kernel_rfl) ?q101 (Or.inr ⟨?g101, rfl⟩) (by assumption) ?r101; (case' a101 => (simp only [List.getElem?_toArray, List.getElem?_cons_zero, List.getElem?_cons_succ]; rfl)); (case' q101 => (exact fun _ _ _ h => h)); (case' g101 => rfl); (case' r101 => (try simp only [Act.put, List.setIfInBounds_toArray, List.set_cons_zero, List.set_cons_succ]))
                  refine wpAnyH_take (i := 33) (oi := ?o102) (v := ?v102) ?a102 (by kernel_rfl) (by kernel_rfl) (by kernel_rfl) ?q102 (Or.inl ⟨?g102, ?y102⟩) (by assumption) ?r102; (case' a102 => (simp only [List.getElem?_toArray, List.getElem?_cons_zero, List.getElem?_cons_succ]; rfl)); (case' q102 => (exact fun _ _ _ h => h)); (case' g102 => rfl); (case' y102 => (intro w hSw; (try dsimp only at hSw); go_simp; try with_reducible rfl)); (case' r102 => (try simp only [Act.put, List.setIfInBounds_toArray, List.set_cons_zero, List.set_cons_succ]))
                  refine wpAnyH_done (by kernel_rfl) ?_ _
                  have hbw := hHeld.2
                  clear hHeld
                  go_wp2_with fail
                  go_meet
                  exact ⟨by simp, Lib.hid hbw⟩
                exact AllReadyH.nil
              | true =>
                cases ib with
                | false =>
                  refine wp_region_held_drew (S := (fun w' => ((w'.cell? ⟨mg, mo + q1 * 5, none⟩ = some (.int .i64 yi) ∧ w'.cell? ⟨mg, mo + q1 * 5 + 1, none⟩ = some (.int .i64 ye) ∧ w'.cell? ⟨mg, mo + q1 * 5 + 2, none⟩ = some (.string yt) ∧ w'.cell? ⟨mg, mo + q1 * 5 + 3, none⟩ = some (.int .i64 yp) ∧ w'.cell? ⟨mg, mo + q1 * 5 + 4, none⟩ = some (.slice yA yn yc)) ∧ (w'.cell? ⟨mg, mo + q * 5, none⟩ = some (.int .i64 xi) ∧ w'.cell? ⟨mg, mo + q * 5 + 1, none⟩ = some (.int .i64 xe) ∧ w'.cell? ⟨mg, mo + q * 5 + 2, none⟩ = some (.string xt) ∧ w'.cell? ⟨mg, mo + q * 5 + 3, none⟩ = some (.int .i64 xp) ∧ w'.cell? ⟨mg, mo + q * 5 + 4, none⟩ = some (.slice vA xn vc))) ∧ Below wr.heap.size wr w')) (by kernel_rfl) (keep10w hS (drewB _)) (fun hHeld => ?_)
                  refine wpAnyH_take (i := 0) (oi := ?o103) (v := ?v103) ?a103 (by kernel_rfl) (by kernel_rfl) (by kernel_rfl) ?q103 (Or.inl ⟨?g103, ?y103⟩) (by assumption) ?r103; (case' a103 => (simp only [List.getElem?_toArray, List.getElem?_cons_zero]; rfl)); (case' q103 => (exact fun _ _ _ h => h)); (case' g103 => rfl); (case' y103 => (intro w hSw; (try dsimp only at hSw); go_simp; try with_reducible rfl)); (case' r103 => (try simp only [Act.put, List.setIfInBounds_toArray, List.set_cons_zero, List.set_cons_succ]))
                  refine wpAnyH_take (i := 1) (oi := ?o104) (v := ?v104) ?a104 (by kernel_rfl) (by kernel_rfl) (by kernel_rfl) ?q104 (Or.inl ⟨?g104, ?y104⟩) (by assumption) ?r104; (case' a104 => (simp only [List.getElem?_toArray, List.getElem?_cons_zero, List.getElem?_cons_succ]; rfl)); (case' q104 => (exact fun _ _ _ h => h)); (case' g104 => rfl); (case' y104 => (intro w hSw; (try dsimp only at hSw); go_simp; try with_reducible rfl)); (case' r104 => (try simp only [Act.put, List.setIfInBounds_toArray, List.set_cons_zero, List.set_cons_succ]))
                  refine wpAnyH_take (i := 2) (oi := ?o105) (v := ?v105) ?a105 (by kernel_rfl) (by kernel_rfl) (by kernel_rfl) ?q105 (Or.inl ⟨?g105, ?y105⟩) (by assumption) ?r105; (case' a105 => (simp only [List.getElem?_toArray, List.getElem?_cons_zero, List.getElem?_cons_succ]; rfl)); (case' q105 => (exact fun _ _ _ h => h)); (case' g105 => rfl); (case' y105 => (intro w hSw; (try dsimp only at hSw); go_simp; try with_reducible rfl)); (case' r105 => (try simp only [Act.put, List.setIfInBounds_toArray, List.set_cons_zero, List.set_cons_succ]))
                  refine wpAnyH_take (i := 3) (oi := ?o106) (v := ?v106) ?a106 (by kernel_rfl) (by kernel_rfl) (by kernel_rfl) ?q106 (Or.inl ⟨?g106, ?y106⟩) (by assumption) ?r106; (case' a106 => (simp only [List.getElem?_toArray, List.getElem?_cons_zero, List.getElem?_cons_succ]; rfl)); (case' q106 => (exact fun _ _ _ h => h)); (case' g106 => rfl); (case' y106 => (intro w hSw; (try dsimp only at hSw); go_simp; try with_reducible rfl)); (case' r106 => (try simp only [Act.put, List.setIfInBounds_toArray, List.set_cons_zero, List.set_cons_succ]))
                  refine wpAnyH_take (i := 4) (oi := ?o107) (v := ?v107) ?a107 (by kernel_rfl) (by kernel_rfl) (by kernel_rfl) ?q107 (Or.inl ⟨?g107, ?y107⟩) (by assumption) ?r107; (case' a107 => (simp only [List.getElem?_toArray, List.getElem?_cons_zero, List.getElem?_cons_succ]; rfl)); (case' q107 => (exact fun _ _ _ h => h)); (case' g107 => rfl); (case' y107 => (intro w hSw; (try dsimp only at hSw); go_simp; try with_reducible rfl)); (case' r107 => (try simp only [Act.put, List.setIfInBounds_toArray, List.set_cons_zero, List.set_cons_succ]))
                  refine wpAnyH_take (i := 5) (oi := ?o108) (v := ?v108) ?a108 (by kernel_rfl) (by kernel_rfl) (by kernel_rfl) ?q108 (Or.inl ⟨?g108, ?y108⟩) (by assumption) ?r108; (case' a108 => (simp only [List.getElem?_toArray, List.getElem?_cons_zero, List.getElem?_cons_succ]; rfl)); (case' q108 => (exact fun _ _ _ h => h)); (case' g108 => rfl); (case' y108 => (intro w hSw; (try dsimp only at hSw); go_simp; try with_reducible rfl)); (case' r108 => (try simp only [Act.put, List.setIfInBounds_toArray, List.set_cons_zero, List.set_cons_succ]))
                  refine wpAnyH_take (i := 6) (oi := ?o109) (v := ?v109) ?a109 (by kernel_rfl) (by kernel_rfl) (by kernel_rfl) ?q109 (Or.inl ⟨?g109, ?y109⟩) (by assumption) ?r109; (case' a109 => (simp only [List.getElem?_toArray, List.getElem?_cons_zero, List.getElem?_cons_succ]; rfl)); (case' q109 => (exact fun _ _ _ h => h)); (case' g109 => rfl); (case' y109 => (intro w hSw; (try dsimp only at hSw); go_simp; try with_reducible rfl)); (case' r109 => (try simp only [Act.put, List.setIfInBounds_toArray, List.set_cons_zero, List.set_cons_succ]))
                  refine wpAnyH_take (i := 7) (oi := ?o110) (v := ?v110) ?a110 (by kernel_rfl) (by kernel_rfl) (by kernel_rfl) ?q110 (Or.inl ⟨?g110, ?y110⟩) (by assumption) ?r110; (case' a110 => (simp only [List.getElem?_toArray, List.getElem?_cons_zero, List.getElem?_cons_succ]; rfl)); (case' q110 => (exact fun _ _ _ h => h)); (case' g110 => rfl); (case' y110 => (intro w hSw; (try dsimp only at hSw); go_simp; try with_reducible rfl)); (case' r110 => (try simp only [Act.put, List.setIfInBounds_toArray, List.set_cons_zero, List.set_cons_succ]))
                  refine wpAnyH_take (i := 8) (oi := ?o111) (v := ?v111) ?a111 (by kernel_rfl) (by kernel_rfl) (by kernel_rfl) ?q111 (Or.inl ⟨?g111, ?y111⟩) (by assumption) ?r111; (case' a111 => (simp only [List.getElem?_toArray, List.getElem?_cons_zero, List.getElem?_cons_succ]; rfl)); (case' q111 => (exact fun _ _ _ h => h)); (case' g111 => rfl); (case' y111 => (intro w hSw; (try dsimp only at hSw); go_simp; try with_reducible rfl)); (case' r111 => (try simp only [Act.put, List.setIfInBounds_toArray, List.set_cons_zero, List.set_cons_succ]))
                  refine wpAnyH_take (i := 9) (oi := ?o112) (v := ?v112) ?a112 (by kernel_rfl) (by kernel_rfl) (by kernel_rfl) ?q112 (Or.inl ⟨?g112, ?y112⟩) (by assumption) ?r112; (case' a112 => (simp only [List.getElem?_toArray, List.getElem?_cons_zero, List.getElem?_cons_succ]; rfl)); (case' q112 => (exact fun _ _ _ h => h)); (case' g112 => rfl); (case' y112 => (intro w hSw; (try dsimp only at hSw); go_simp; try with_reducible rfl)); (case' r112 => (try simp only [Act.put, List.setIfInBounds_toArray, List.set_cons_zero, List.set_cons_succ]))
                  refine wpAnyH_take (i := 10) (oi := ?o113) (v := ?v113) ?a113 (by kernel_rfl) (by kernel_rfl) (by kernel_rfl) ?q113 (Or.inl ⟨?g113, ?y113⟩) (by assumption) ?r113; (case' a113 => (simp only [List.getElem?_toArray, List.getElem?_cons_zero, List.getElem?_cons_succ]; rfl)); (case' q113 => (exact fun _ _ _ h => h)); (case' g113 => rfl); (case' y113 => (intro w hSw; (try dsimp only at hSw); go_simp; try with_reducible rfl)); (case' r113 => (try simp only [Act.put, List.setIfInBounds_toArray, List.set_cons_zero, List.set_cons_succ]))
                  refine wpAnyH_take (i := 11) (oi := ?o114) (v := ?v114) ?a114 (by kernel_rfl) (by kernel_rfl) (by kernel_rfl) ?q114 (Or.inl ⟨?g114, ?y114⟩) (by assumption) ?r114; (case' a114 => (simp only [List.getElem?_toArray, List.getElem?_cons_zero, List.getElem?_cons_succ]; rfl)); (case' q114 => (exact fun _ _ _ h => h)); (case' g114 => rfl); (case' y114 => (intro w hSw; (try dsimp only at hSw); go_simp; try with_reducible rfl)); (case' r114 => (try simp only [Act.put, List.setIfInBounds_toArray, List.set_cons_zero, List.set_cons_succ]))
                  refine wpAnyH_ready (rs := [12]) (by kernel_rfl) (by simp) ?_
                  refine AllReadyH.cons (o := ?o115) ?a115 (fun K hK => ?s115) ?m115; (case' a115 => (simp only [List.getElem?_toArray, List.getElem?_cons_zero, List.getElem?_cons_succ]; rfl))
                  case s115 =>
                    go_simp
                    go_at_call 22
                    refine (rbefore_is yi ye yp xi xe xp yt xt yl xl yA vA yn yc xn vc true _ hyt hxt HBF).mono ?_
                    rintro e wn ⟨rfl, hbn⟩
                    go_wp2_with fail
                    refine hK.out _ _ (keep10w hHeld hbn) (fun hHeld => ?_)
                    clear hK K
                    (try simp only [Act.put, List.setIfInBounds_toArray, List.set_cons_zero, List.set_cons_succ])
                    refine wpAnyH_take (i := 13) (oi := ?o116) (v := ?v116) ?a116 (by kernel_rfl) (by kernel_rfl) (by kernel_rfl) ?q116 (Or.inl ⟨?g116, ?y116⟩) (by assumption) ?r116; (case' a116 => (simp only [List.getElem?_toArray, List.getElem?_cons_zero, List.getElem?_cons_succ]; rfl)); (case' q116 => (exact fun _ _ _ h => h)); (case' g116 => rfl); (case' y116 => (intro w hSw; (try dsimp only at hSw); go_simp; try with_reducible rfl)); (case' r116 => (try simp only [Act.put, List.setIfInBounds_toArray, List.set_cons_zero, List.set_cons_succ]))
                    refine wpAnyH_take (i := 14) (oi := ?o117) (v := ?v117) ?a117 (by kernel_rfl) (by kernel_rfl) (by kernel_rfl) ?q117 (Or.inl ⟨?g117, ?y117⟩) (by assumption) ?r117; (case' a117 => (simp only [List.getElem?_toArray, List.getElem?_cons_zero, List.getElem?_cons_succ]; rfl)); (case' q117 => (exact fun _ _ _ h => h)); (case' g117 => rfl); (case' y117 => (intro w hSw; (try dsimp only at hSw); go_simp; try with_reducible rfl)); (case' r117 => (try simp only [Act.put, List.setIfInBounds_toArray, List.set_cons_zero, List.set_cons_succ]))
                    refine wpAnyH_take (i := 15) (oi := ?o118) (v := ?v118) ?a118 (by kernel_rfl) (by kernel_rfl) (by kernel_rfl) ?q118 (Or.inl ⟨?g118, ?y118⟩) (by assumption) ?r118; (case' a118 => (simp only [List.getElem?_toArray, List.getElem?_cons_zero, List.getElem?_cons_succ]; rfl)); (case' q118 => (exact fun _ _ _ h => h)); (case' g118 => rfl); (case' y118 => (intro w hSw; (try dsimp only at hSw); go_simp; try with_reducible rfl)); (case' r118 => (try simp only [Act.put, List.setIfInBounds_toArray, List.set_cons_zero, List.set_cons_succ]))
                    refine wpAnyH_take (i := 16) (oi := ?o119) (v := ?v119) ?a119 (by kernel_rfl) (by kernel_rfl) (by kernel_rfl) ?q119 (Or.inl ⟨?g119, ?y119⟩) (by assumption) ?r119; (case' a119 => (simp only [List.getElem?_toArray, List.getElem?_cons_zero, List.getElem?_cons_succ]; rfl)); (case' q119 => (exact fun _ _ _ h => h)); (case' g119 => rfl); (case' y119 => (intro w hSw; (try dsimp only at hSw); go_simp; try with_reducible rfl)); (case' r119 => (try simp only [Act.put, List.setIfInBounds_toArray, List.set_cons_zero, List.set_cons_succ]))
                    refine wpAnyH_take (i := 17) (oi := ?o120) (v := ?v120) ?a120 (by kernel_rfl) (by kernel_rfl) (by kernel_rfl) ?q120 (Or.inl ⟨?g120, ?y120⟩) (by assumption) ?r120; (case' a120 => (simp only [List.getElem?_toArray, List.getElem?_cons_zero, List.getElem?_cons_succ]; rfl)); (case' q120 => (exact fun _ _ _ h => h)); (case' g120 => rfl); (case' y120 => (intro w hSw; (try dsimp only at hSw); go_simp; try with_reducible rfl)); (case' r120 => (try simp only [Act.put, List.setIfInBounds_toArray, List.set_cons_zero, List.set_cons_succ]))
                    refine wpAnyH_take (i := 18) (oi := ?o121) (v := ?v121) ?a121 (by kernel_rfl) (by kernel_rfl) (by kernel_rfl) ?q121 (Or.inl ⟨?g121, ?y121⟩) (by assumption) ?r121; (case' a121 => (simp only [List.getElem?_toArray, List.getElem?_cons_zero, List.getElem?_cons_succ]; rfl)); (case' q121 => (exact fun _ _ _ h => h)); (case' g121 => rfl); (case' y121 => (intro w hSw; (try dsimp only at hSw); go_simp; try with_reducible rfl)); (case' r121 => (try simp only [Act.put, List.setIfInBounds_toArray, List.set_cons_zero, List.set_cons_succ]))
                    refine wpAnyH_take (i := 19) (oi := ?o122) (v := ?v122) ?a122 (by kernel_rfl) (by kernel_rfl) (by kernel_rfl) ?q122 (Or.inl ⟨?g122, ?y122⟩) (by assumption) ?r122; (case' a122 => (simp only [List.getElem?_toArray, List.getElem?_cons_zero, List.getElem?_cons_succ]; rfl)); (case' q122 => (exact fun _ _ _ h => h)); (case' g122 => rfl); (case' y122 => (intro w hSw; (try dsimp only at hSw); go_simp; try with_reducible rfl)); (case' r122 => (try simp only [Act.put, List.setIfInBounds_toArray, List.set_cons_zero, List.set_cons_succ]))
                    refine wpAnyH_take (i := 20) (oi := ?o123) (v := ?v123) ?a123 (by kernel_rfl) (by kernel_rfl) (by kernel_rfl) ?q123 (Or.inl ⟨?g123, ?y123⟩) (by assumption) ?r123; (case' a123 => (simp only [List.getElem?_toArray, List.getElem?_cons_zero, List.getElem?_cons_succ]; rfl)); (case' q123 => (exact fun _ _ _ h => h)); (case' g123 => rfl); (case' y123 => (intro w hSw; (try dsimp only at hSw); go_simp; try with_reducible rfl)); (case' r123 => (try simp only [Act.put, List.setIfInBounds_toArray, List.set_cons_zero, List.set_cons_succ]))
                    refine wpAnyH_take (i := 21) (oi := ?o124) (v := ?v124) ?a124 (by kernel_rfl) (by kernel_rfl) (by kernel_rfl) ?q124 (Or.inl ⟨?g124, ?y124⟩) (by assumption) ?r124; (case' a124 => (simp only [List.getElem?_toArray, List.getElem?_cons_zero, List.getElem?_cons_succ]; rfl)); (case' q124 => (exact fun _ _ _ h => h)); (case' g124 => rfl); (case' y124 => (intro w hSw; (try dsimp only at hSw); go_simp; try with_reducible rfl)); (case' r124 => (try simp only [Act.put, List.setIfInBounds_toArray, List.set_cons_zero, List.set_cons_succ]))
                    refine wpAnyH_ready (rs := [22]) (by kernel_rfl) (by simp) ?_
                    refine AllReadyH.cons (o := ?o125) ?a125 (fun K hK => ?s125) ?m125; (case' a125 => (simp only [List.getElem?_toArray, List.getElem?_cons_zero, List.getElem?_cons_succ]; rfl))
                    case s125 =>
                      go_simp
                      go_at_call 28
                      refine (ris_b xi false (Lib.hid (HTR.out.below hHeld.2)) HIB).mono ?_
                      rintro e wn ⟨rfl, hbn⟩
                      go_wp2_with fail
                      refine hK.out _ _ (keep10w hHeld hbn) (fun hHeld => ?_)
                      clear hK K
                      (try simp only [Act.put, List.setIfInBounds_toArray, List.set_cons_zero, List.set_cons_succ])
                      refine wpAnyH_take (i := 23) (oi := ?o126) (v := ?v126) ?a126 (by kernel_rfl) (by kernel_rfl) (by kernel_rfl) ?q126 (Or.inl ⟨?g126, ?y126⟩) (by assumption) ?r126; (case' a126 => (simp only [List.getElem?_toArray, List.getElem?_cons_zero, List.getElem?_cons_succ]; rfl)); (case' q126 => (exact fun _ _ _ h => h)); (case' g126 => rfl); (case' y126 => (intro w hSw; (try dsimp only at hSw); go_simp; try with_reducible rfl)); (case' r126 => (try simp only [Act.put, List.setIfInBounds_toArray, List.set_cons_zero, List.set_cons_succ]))
                      refine wpAnyH_take (i := 24) (oi := ?o127) (v := ?v127) ?a127 (by kernel_rfl) (by kernel_rfl) (by kernel_rfl) ?q127 (Or.inl ⟨?g127, ?y127⟩) (by assumption) ?r127; (case' a127 => (simp only [List.getElem?_toArray, List.getElem?_cons_zero, List.getElem?_cons_succ]; rfl)); (case' q127 => (exact fun _ _ _ h => h)); (case' g127 => rfl); (case' y127 => (intro w hSw; (try dsimp only at hSw); go_simp; try with_reducible rfl)); (case' r127 => (try simp only [Act.put, List.setIfInBounds_toArray, List.set_cons_zero, List.set_cons_succ]))
                      refine wpAnyH_take (i := 25) (oi := ?o128) (v := ?v128) ?a128 (by kernel_rfl) (by kernel_rfl) (by kernel_rfl) ?q128 (Or.inl ⟨?g128, ?y128⟩) (by assumption) ?r128; (case' a128 => (simp only [List.getElem?_toArray, List.getElem?_cons_zero, List.getElem?_cons_succ]; rfl)); (case' q128 => (exact fun _ _ _ h => h)); (case' g128 => rfl); (case' y128 => (intro w hSw; (try dsimp only at hSw); go_simp; try with_reducible rfl)); (case' r128 => (try simp only [Act.put, List.setIfInBounds_toArray, List.set_cons_zero, List.set_cons_succ]))
                      refine wpAnyH_take (i := 26) (oi := ?o129) (v := undef) ?a129 (by kernel_rfl) (by kernel_rfl) (by kernel_rfl) ?q129 (Or.inr ⟨?g129, rfl⟩) (by assumption) ?r129; (case' a129 => (simp only [List.getElem?_toArray, List.getElem?_cons_zero, List.getElem?_cons_succ]; rfl)); (case' q129 => (exact fun _ _ _ h => h)); (case' g129 => rfl); (case' r129 => (try simp only [Act.put, List.setIfInBounds_toArray, List.set_cons_zero, List.set_cons_succ]))
                      refine wpAnyH_take (i := 27) (oi := ?o130) (v := undef) ?a130 (by kernel_rfl) (by kernel_rfl) (by kernel_rfl) ?q130 (Or.inr ⟨?g130, rfl⟩) (by assumption) ?r130; (case' a130 => (simp only [List.getElem?_toArray, List.getElem?_cons_zero, List.getElem?_cons_succ]; rfl)); (case' q130 => (exact fun _ _ _ h => h)); (case' g130 => rfl); (case' r130 => (try simp only [Act.put, List.setIfInBounds_toArray, List.set_cons_zero, List.set_cons_succ]))
                      refine wpAnyH_take (i := 28) (oi := ?o131) (v := undef) ?a131 (by kernel_rfl) (by kernel_rfl) (by kernel_rfl) ?q131 (Or.inr ⟨?g131, rfl⟩) (by assumption) ?r131; (case' a131 => (simp only [List.getElem?_toArray, List.getElem?_cons_zero, List.getElem?_cons_succ]; rfl)); (case' q131 => (exact fun _ _ _ h => h)); (case' g131 => rfl); (case' r131 => (try simp only [Act.put, List.setIfInBounds_toArray, List.set_cons_zero, List.set_cons_succ]))
                      refine wpAnyH_take (i := 29) (oi := ?o132) (v := undef) ?a132 (by kernel_rfl) (by kernel_rfl) (by kernel_rfl) ?q132 (Or.inr ⟨?g132, rfl⟩) (by assumption) ?r132; (case' a132 => (simp only [List.getElem?_toArray, List.getElem?_cons_zero, List.getElem?_cons_succ]; rfl)); (case' q132 => (exact fun _ _ _ h => h)); (case' g132 => rfl); (case' r132 => (try simp only [Act.put, List.setIfInBounds_toArray, List.set_cons_zero, List.set_cons_succ]))
                      refine wpAnyH_take (i := 30) (oi := ?o133) (v := undef) ?a133 (by kernel_rfl) (by kernel_rfl) (by kernel_rfl) ?q133 (Or.inr ⟨?g133, rfl⟩) (by assumption) ?r133; (case' a133 => (simp only [List.getElem?_toArray, List.getElem?_cons_zero, List.getElem?_cons_succ]; rfl)); (case' q133 => (exact fun _ _ _ h => h)); (case' g133 => rfl); (case' r133 => (try simp only [Act.put, List.setIfInBounds_toArray, List.set_cons_zero, List.set_cons_succ]))
                      refine wpAnyH_take (i := 31) (oi := ?o134) (v := undef) ?a134 (by kernel_rfl) (by kernel_rfl) (by kernel_rfl) ?q134 (Or.inr ⟨?g134, rfl⟩) (by assumption) ?r134; (case' a134 => (simp only [List.getElem?_toArray, List.getElem?_cons_zero, List.getElem?_cons_succ]; rfl)); (case' q134 => (exact fun _ _ _ h => h)); (case' g134 => rfl); (case' r134 => (try simp only [Act.put, List.setIfInBounds_toArray, List.set_cons_zero, List.set_cons_succ]))
                      refine wpAnyH_take (i := 32) (oi := ?o135) (v := undef) ?a135 (by kernel_rfl) (by kernel_rfl) (by kernel_rfl) ?q135 (Or.inr ⟨?g135, rfl⟩) (by assumption) ?r135; (case' a135 => (simp only [List.getElem?_toArray, List.getElem?_cons_zero, List.getElem?_cons_succ]; rfl)); (case' q135 => (exact fun _ _ _ h => h)); (case' g135 => rfl); (case' r135 => (try simp only [Act.put, List.setIfInBounds_toArray, List.set_cons_zero, List.set_cons_succ]))
                      refine wpAnyH_take (i := 33) (oi := ?o136) (v := ?v136) ?a136 (by kernel_rfl) (by kernel_rfl) (by kernel_rfl) ?q136 (Or.inl ⟨?g136, ?y136⟩) (by assumption) ?r136; (case' a136 => (simp only [List.getElem?_toArray, List.getElem?_cons_zero, List.getElem?_cons_succ]; rfl)); (case' q136 => (exact fun _ _ _ h => h)); (case' g136 => rfl); (case' y136 => (intro w hSw; (try dsimp only at hSw); go_simp; try with_reducible rfl)); (case' r136 => (try simp only [Act.put, List.setIfInBounds_toArray, List.set_cons_zero, List.set_cons_succ]))
                      refine wpAnyH_done (by kernel_rfl) ?_ _
                      have hbw := hHeld.2
                      clear hHeld
                      go_wp2_with fail
                      go_meet
                      exact ⟨by simp, Lib.hid hbw⟩
                    exact AllReadyH.nil
                  exact AllReadyH.nil
                | true =>
                  refine wp_region_held_drew (S := (fun w' => ((w'.cell? ⟨mg, mo + q1 * 5, none⟩ = some (.int .i64 yi) ∧ w'.cell? ⟨mg, mo + q1 * 5 + 1, none⟩ = some (.int .i64 ye) ∧ w'.cell? ⟨mg, mo + q1 * 5 + 2, none⟩ = some (.string yt) ∧ w'.cell? ⟨mg, mo + q1 * 5 + 3, none⟩ = some (.int .i64 yp) ∧ w'.cell? ⟨mg, mo + q1 * 5 + 4, none⟩ = some (.slice yA yn yc)) ∧ (w'.cell? ⟨mg, mo + q * 5, none⟩ = some (.int .i64 xi) ∧ w'.cell? ⟨mg, mo + q * 5 + 1, none⟩ = some (.int .i64 xe) ∧ w'.cell? ⟨mg, mo + q * 5 + 2, none⟩ = some (.string xt) ∧ w'.cell? ⟨mg, mo + q * 5 + 3, none⟩ = some (.int .i64 xp) ∧ w'.cell? ⟨mg, mo + q * 5 + 4, none⟩ = some (.slice vA xn vc))) ∧ Below wr.heap.size wr w')) (by kernel_rfl) (keep10w hS (drewB _)) (fun hHeld => ?_)
                  refine wpAnyH_take (i := 0) (oi := ?o137) (v := ?v137) ?a137 (by kernel_rfl) (by kernel_rfl) (by kernel_rfl) ?q137 (Or.inl ⟨?g137, ?y137⟩) (by assumption) ?r137; (case' a137 => (simp only [List.getElem?_toArray, List.getElem?_cons_zero]; rfl)); (case' q137 => (exact fun _ _ _ h => h)); (case' g137 => rfl); (case' y137 => (intro w hSw; (try dsimp only at hSw); go_simp; try with_reducible rfl)); (case' r137 => (try simp only [Act.put, List.setIfInBounds_toArray, List.set_cons_zero, List.set_cons_succ]))
                  refine wpAnyH_take (i := 1) (oi := ?o138) (v := ?v138) ?a138 (by kernel_rfl) (by kernel_rfl) (by kernel_rfl) ?q138 (Or.inl ⟨?g138, ?y138⟩) (by assumption) ?r138; (case' a138 => (simp only [List.getElem?_toArray, List.getElem?_cons_zero, List.getElem?_cons_succ]; rfl)); (case' q138 => (exact fun _ _ _ h => h)); (case' g138 => rfl); (case' y138 => (intro w hSw; (try dsimp only at hSw); go_simp; try with_reducible rfl)); (case' r138 => (try simp only [Act.put, List.setIfInBounds_toArray, List.set_cons_zero, List.set_cons_succ]))
                  refine wpAnyH_take (i := 2) (oi := ?o139) (v := ?v139) ?a139 (by kernel_rfl) (by kernel_rfl) (by kernel_rfl) ?q139 (Or.inl ⟨?g139, ?y139⟩) (by assumption) ?r139; (case' a139 => (simp only [List.getElem?_toArray, List.getElem?_cons_zero, List.getElem?_cons_succ]; rfl)); (case' q139 => (exact fun _ _ _ h => h)); (case' g139 => rfl); (case' y139 => (intro w hSw; (try dsimp only at hSw); go_simp; try with_reducible rfl)); (case' r139 => (try simp only [Act.put, List.setIfInBounds_toArray, List.set_cons_zero, List.set_cons_succ]))
                  refine wpAnyH_take (i := 3) (oi := ?o140) (v := ?v140) ?a140 (by kernel_rfl) (by kernel_rfl) (by kernel_rfl) ?q140 (Or.inl ⟨?g140, ?y140⟩) (by assumption) ?r140; (case' a140 => (simp only [List.getElem?_toArray, List.getElem?_cons_zero, List.getElem?_cons_succ]; rfl)); (case' q140 => (exact fun _ _ _ h => h)); (case' g140 => rfl); (case' y140 => (intro w hSw; (try dsimp only at hSw); go_simp; try with_reducible rfl)); (case' r140 => (try simp only [Act.put, List.setIfInBounds_toArray, List.set_cons_zero, List.set_cons_succ]))
                  refine wpAnyH_take (i := 4) (oi := ?o141) (v := ?v141) ?a141 (by kernel_rfl) (by kernel_rfl) (by kernel_rfl) ?q141 (Or.inl ⟨?g141, ?y141⟩) (by assumption) ?r141; (case' a141 => (simp only [List.getElem?_toArray, List.getElem?_cons_zero, List.getElem?_cons_succ]; rfl)); (case' q141 => (exact fun _ _ _ h => h)); (case' g141 => rfl); (case' y141 => (intro w hSw; (try dsimp only at hSw); go_simp; try with_reducible rfl)); (case' r141 => (try simp only [Act.put, List.setIfInBounds_toArray, List.set_cons_zero, List.set_cons_succ]))
                  refine wpAnyH_take (i := 5) (oi := ?o142) (v := ?v142) ?a142 (by kernel_rfl) (by kernel_rfl) (by kernel_rfl) ?q142 (Or.inl ⟨?g142, ?y142⟩) (by assumption) ?r142; (case' a142 => (simp only [List.getElem?_toArray, List.getElem?_cons_zero, List.getElem?_cons_succ]; rfl)); (case' q142 => (exact fun _ _ _ h => h)); (case' g142 => rfl); (case' y142 => (intro w hSw; (try dsimp only at hSw); go_simp; try with_reducible rfl)); (case' r142 => (try simp only [Act.put, List.setIfInBounds_toArray, List.set_cons_zero, List.set_cons_succ]))
                  refine wpAnyH_take (i := 6) (oi := ?o143) (v := ?v143) ?a143 (by kernel_rfl) (by kernel_rfl) (by kernel_rfl) ?q143 (Or.inl ⟨?g143, ?y143⟩) (by assumption) ?r143; (case' a143 => (simp only [List.getElem?_toArray, List.getElem?_cons_zero, List.getElem?_cons_succ]; rfl)); (case' q143 => (exact fun _ _ _ h => h)); (case' g143 => rfl); (case' y143 => (intro w hSw; (try dsimp only at hSw); go_simp; try with_reducible rfl)); (case' r143 => (try simp only [Act.put, List.setIfInBounds_toArray, List.set_cons_zero, List.set_cons_succ]))
                  refine wpAnyH_take (i := 7) (oi := ?o144) (v := ?v144) ?a144 (by kernel_rfl) (by kernel_rfl) (by kernel_rfl) ?q144 (Or.inl ⟨?g144, ?y144⟩) (by assumption) ?r144; (case' a144 => (simp only [List.getElem?_toArray, List.getElem?_cons_zero, List.getElem?_cons_succ]; rfl)); (case' q144 => (exact fun _ _ _ h => h)); (case' g144 => rfl); (case' y144 => (intro w hSw; (try dsimp only at hSw); go_simp; try with_reducible rfl)); (case' r144 => (try simp only [Act.put, List.setIfInBounds_toArray, List.set_cons_zero, List.set_cons_succ]))
                  refine wpAnyH_take (i := 8) (oi := ?o145) (v := ?v145) ?a145 (by kernel_rfl) (by kernel_rfl) (by kernel_rfl) ?q145 (Or.inl ⟨?g145, ?y145⟩) (by assumption) ?r145; (case' a145 => (simp only [List.getElem?_toArray, List.getElem?_cons_zero, List.getElem?_cons_succ]; rfl)); (case' q145 => (exact fun _ _ _ h => h)); (case' g145 => rfl); (case' y145 => (intro w hSw; (try dsimp only at hSw); go_simp; try with_reducible rfl)); (case' r145 => (try simp only [Act.put, List.setIfInBounds_toArray, List.set_cons_zero, List.set_cons_succ]))
                  refine wpAnyH_take (i := 9) (oi := ?o146) (v := ?v146) ?a146 (by kernel_rfl) (by kernel_rfl) (by kernel_rfl) ?q146 (Or.inl ⟨?g146, ?y146⟩) (by assumption) ?r146; (case' a146 => (simp only [List.getElem?_toArray, List.getElem?_cons_zero, List.getElem?_cons_succ]; rfl)); (case' q146 => (exact fun _ _ _ h => h)); (case' g146 => rfl); (case' y146 => (intro w hSw; (try dsimp only at hSw); go_simp; try with_reducible rfl)); (case' r146 => (try simp only [Act.put, List.setIfInBounds_toArray, List.set_cons_zero, List.set_cons_succ]))
                  refine wpAnyH_take (i := 10) (oi := ?o147) (v := ?v147) ?a147 (by kernel_rfl) (by kernel_rfl) (by kernel_rfl) ?q147 (Or.inl ⟨?g147, ?y147⟩) (by assumption) ?r147; (case' a147 => (simp only [List.getElem?_toArray, List.getElem?_cons_zero, List.getElem?_cons_succ]; rfl)); (case' q147 => (exact fun _ _ _ h => h)); (case' g147 => rfl); (case' y147 => (intro w hSw; (try dsimp only at hSw); go_simp; try with_reducible rfl)); (case' r147 => (try simp only [Act.put, List.setIfInBounds_toArray, List.set_cons_zero, List.set_cons_succ]))
                  refine wpAnyH_take (i := 11) (oi := ?o148) (v := ?v148) ?a148 (by kernel_rfl) (by kernel_rfl) (by kernel_rfl) ?q148 (Or.inl ⟨?g148, ?y148⟩) (by assumption) ?r148; (case' a148 => (simp only [List.getElem?_toArray, List.getElem?_cons_zero, List.getElem?_cons_succ]; rfl)); (case' q148 => (exact fun _ _ _ h => h)); (case' g148 => rfl); (case' y148 => (intro w hSw; (try dsimp only at hSw); go_simp; try with_reducible rfl)); (case' r148 => (try simp only [Act.put, List.setIfInBounds_toArray, List.set_cons_zero, List.set_cons_succ]))
                  refine wpAnyH_ready (rs := [12]) (by kernel_rfl) (by simp) ?_
                  refine AllReadyH.cons (o := ?o149) ?a149 (fun K hK => ?s149) ?m149; (case' a149 => (simp only [List.getElem?_toArray, List.getElem?_cons_zero, List.getElem?_cons_succ]; rfl))
                  case s149 =>
                    go_simp
                    go_at_call 22
                    refine (rbefore_is yi ye yp xi xe xp yt xt yl xl yA vA yn yc xn vc true _ hyt hxt HBF).mono ?_
                    rintro e wn ⟨rfl, hbn⟩
                    go_wp2_with fail
                    refine hK.out _ _ (keep10w hHeld hbn) (fun hHeld => ?_)
                    clear hK K
                    (try simp only [Act.put, List.setIfInBounds_toArray, List.set_cons_zero, List.set_cons_succ])
                    refine wpAnyH_take (i := 13) (oi := ?o150) (v := ?v150) ?a150 (by kernel_rfl) (by kernel_rfl) (by kernel_rfl) ?q150 (Or.inl ⟨?g150, ?y150⟩) (by assumption) ?r150; (case' a150 => (simp only [List.getElem?_toArray, List.getElem?_cons_zero, List.getElem?_cons_succ]; rfl)); (case' q150 => (exact fun _ _ _ h => h)); (case' g150 => rfl); (case' y150 => (intro w hSw; (try dsimp only at hSw); go_simp; try with_reducible rfl)); (case' r150 => (try simp only [Act.put, List.setIfInBounds_toArray, List.set_cons_zero, List.set_cons_succ]))
                    refine wpAnyH_take (i := 14) (oi := ?o151) (v := ?v151) ?a151 (by kernel_rfl) (by kernel_rfl) (by kernel_rfl) ?q151 (Or.inl ⟨?g151, ?y151⟩) (by assumption) ?r151; (case' a151 => (simp only [List.getElem?_toArray, List.getElem?_cons_zero, List.getElem?_cons_succ]; rfl)); (case' q151 => (exact fun _ _ _ h => h)); (case' g151 => rfl); (case' y151 => (intro w hSw; (try dsimp only at hSw); go_simp; try with_reducible rfl)); (case' r151 => (try simp only [Act.put, List.setIfInBounds_toArray, List.set_cons_zero, List.set_cons_succ]))
                    refine wpAnyH_take (i := 15) (oi := ?o152) (v := ?v152) ?a152 (by kernel_rfl) (by kernel_rfl) (by kernel_rfl) ?q152 (Or.inl ⟨?g152, ?y152⟩) (by assumption) ?r152; (case' a152 => (simp only [List.getElem?_toArray, List.getElem?_cons_zero, List.getElem?_cons_succ]; rfl)); (case' q152 => (exact fun _ _ _ h => h)); (case' g152 => rfl); (case' y152 => (intro w hSw; (try dsimp only at hSw); go_simp; try with_reducible rfl)); (case' r152 => (try simp only [Act.put, List.setIfInBounds_toArray, List.set_cons_zero, List.set_cons_succ]))
                    refine wpAnyH_take (i := 16) (oi := ?o153) (v := ?v153) ?a153 (by kernel_rfl) (by kernel_rfl) (by kernel_rfl) ?q153 (Or.inl ⟨?g153, ?y153⟩) (by assumption) ?r153; (case' a153 => (simp only [List.getElem?_toArray, List.getElem?_cons_zero, List.getElem?_cons_succ]; rfl)); (case' q153 => (exact fun _ _ _ h => h)); (case' g153 => rfl); (case' y153 => (intro w hSw; (try dsimp only at hSw); go_simp; try with_reducible rfl)); (case' r153 => (try simp only [Act.put, List.setIfInBounds_toArray, List.set_cons_zero, List.set_cons_succ]))
                    refine wpAnyH_take (i := 17) (oi := ?o154) (v := ?v154) ?a154 (by kernel_rfl) (by kernel_rfl) (by kernel_rfl) ?q154 (Or.inl ⟨?g154, ?y154⟩) (by assumption) ?r154; (case' a154 => (simp only [List.getElem?_toArray, List.getElem?_cons_zero, List.getElem?_cons_succ]; rfl)); (case' q154 => (exact fun _ _ _ h => h)); (case' g154 => rfl); (case' y154 => (intro w hSw; (try dsimp only at hSw); go_simp; try with_reducible rfl)); (case' r154 => (try simp only [Act.put, List.setIfInBounds_toArray, List.set_cons_zero, List.set_cons_succ]))
                    refine wpAnyH_take (i := 18) (oi := ?o155) (v := ?v155) ?a155 (by kernel_rfl) (by kernel_rfl) (by kernel_rfl) ?q155 (Or.inl ⟨?g155, ?y155⟩) (by assumption) ?r155; (case' a155 => (simp only [List.getElem?_toArray, List.getElem?_cons_zero, List.getElem?_cons_succ]; rfl)); (case' q155 => (exact fun _ _ _ h => h)); (case' g155 => rfl); (case' y155 => (intro w hSw; (try dsimp only at hSw); go_simp; try with_reducible rfl)); (case' r155 => (try simp only [Act.put, List.setIfInBounds_toArray, List.set_cons_zero, List.set_cons_succ]))
                    refine wpAnyH_take (i := 19) (oi := ?o156) (v := ?v156) ?a156 (by kernel_rfl) (by kernel_rfl) (by kernel_rfl) ?q156 (Or.inl ⟨?g156, ?y156⟩) (by assumption) ?r156; (case' a156 => (simp only [List.getElem?_toArray, List.getElem?_cons_zero, List.getElem?_cons_succ]; rfl)); (case' q156 => (exact fun _ _ _ h => h)); (case' g156 => rfl); (case' y156 => (intro w hSw; (try dsimp only at hSw); go_simp; try with_reducible rfl)); (case' r156 => (try simp only [Act.put, List.setIfInBounds_toArray, List.set_cons_zero, List.set_cons_succ]))
                    refine wpAnyH_take (i := 20) (oi := ?o157) (v := ?v157) ?a157 (by kernel_rfl) (by kernel_rfl) (by kernel_rfl) ?q157 (Or.inl ⟨?g157, ?y157⟩) (by assumption) ?r157; (case' a157 => (simp only [List.getElem?_toArray, List.getElem?_cons_zero, List.getElem?_cons_succ]; rfl)); (case' q157 => (exact fun _ _ _ h => h)); (case' g157 => rfl); (case' y157 => (intro w hSw; (try dsimp only at hSw); go_simp; try with_reducible rfl)); (case' r157 => (try simp only [Act.put, List.setIfInBounds_toArray, List.set_cons_zero, List.set_cons_succ]))
                    refine wpAnyH_take (i := 21) (oi := ?o158) (v := ?v158) ?a158 (by kernel_rfl) (by kernel_rfl) (by kernel_rfl) ?q158 (Or.inl ⟨?g158, ?y158⟩) (by assumption) ?r158; (case' a158 => (simp only [List.getElem?_toArray, List.getElem?_cons_zero, List.getElem?_cons_succ]; rfl)); (case' q158 => (exact fun _ _ _ h => h)); (case' g158 => rfl); (case' y158 => (intro w hSw; (try dsimp only at hSw); go_simp; try with_reducible rfl)); (case' r158 => (try simp only [Act.put, List.setIfInBounds_toArray, List.set_cons_zero, List.set_cons_succ]))
                    refine wpAnyH_ready (rs := [22]) (by kernel_rfl) (by simp) ?_
                    refine AllReadyH.cons (o := ?o159) ?a159 (fun K hK => ?s159) ?m159; (case' a159 => (simp only [List.getElem?_toArray, List.getElem?_cons_zero, List.getElem?_cons_succ]; rfl))
                    case s159 =>
                      go_simp
                      go_at_call 28
                      refine (ris_b xi true (Lib.hid (HTR.out.below hHeld.2)) HIB).mono ?_
                      rintro e wn ⟨rfl, hbn⟩
                      go_wp2_with fail
                      refine hK.out _ _ (keep10w hHeld hbn) (fun hHeld => ?_)
                      clear hK K
                      (try simp only [Act.put, List.setIfInBounds_toArray, List.set_cons_zero, List.set_cons_succ])
                      refine wpAnyH_take (i := 23) (oi := ?o160) (v := ?v160) ?a160 (by kernel_rfl) (by kernel_rfl) (by kernel_rfl) ?q160 (Or.inl ⟨?g160, ?y160⟩) (by assumption) ?r160; (case' a160 => (simp only [List.getElem?_toArray, List.getElem?_cons_zero, List.getElem?_cons_succ]; rfl)); (case' q160 => (exact fun _ _ _ h => h)); (case' g160 => rfl); (case' y160 => (intro w hSw; (try dsimp only at hSw); go_simp; try with_reducible rfl)); (case' r160 => (try simp only [Act.put, List.setIfInBounds_toArray, List.set_cons_zero, List.set_cons_succ]))
                      refine wpAnyH_take (i := 24) (oi := ?o161) (v := ?v161) ?a161 (by kernel_rfl) (by kernel_rfl) (by kernel_rfl) ?q161 (Or.inl ⟨?g161, ?y161⟩) (by assumption) ?r161; (case' a161 => (simp only [List.getElem?_toArray, List.getElem?_cons_zero, List.getElem?_cons_succ]; rfl)); (case' q161 => (exact fun _ _ _ h => h)); (case' g161 => rfl); (case' y161 => (intro w hSw; (try dsimp only at hSw); go_simp; try with_reducible rfl)); (case' r161 => (try simp only [Act.put, List.setIfInBounds_toArray, List.set_cons_zero, List.set_cons_succ]))
                      refine wpAnyH_take (i := 25) (oi := ?o162) (v := ?v162) ?a162 (by kernel_rfl) (by kernel_rfl) (by kernel_rfl) ?q162 (Or.inl ⟨?g162, ?y162⟩) (by assumption) ?r162; (case' a162 => (simp only [List.getElem?_toArray, List.getElem?_cons_zero, List.getElem?_cons_succ]; rfl)); (case' q162 => (exact fun _ _ _ h => h)); (case' g162 => rfl); (case' y162 => (intro w hSw; (try dsimp only at hSw); go_simp; try with_reducible rfl)); (case' r162 => (try simp only [Act.put, List.setIfInBounds_toArray, List.set_cons_zero, List.set_cons_succ]))
                      refine wpAnyH_take (i := 26) (oi := ?o163) (v := ?v163) ?a163 (by kernel_rfl) (by kernel_rfl) (by kernel_rfl) ?q163 (Or.inl ⟨?g163, ?y163⟩) (by assumption) ?r163; (case' a163 => (simp only [List.getElem?_toArray, List.getElem?_cons_zero, List.getElem?_cons_succ]; rfl)); (case' q163 => (exact fun _ _ _ h => h)); (case' g163 => rfl); (case' y163 => (intro w hSw; (try dsimp only at hSw); go_simp; try with_reducible rfl)); (case' r163 => (try simp only [Act.put, List.setIfInBounds_toArray, List.set_cons_zero, List.set_cons_succ]))
                      refine wpAnyH_take (i := 27) (oi := ?o164) (v := ?v164) ?a164 (by kernel_rfl) (by kernel_rfl) (by kernel_rfl) ?q164 (Or.inl ⟨?g164, ?y164⟩) (by assumption) ?r164; (case' a164 => (simp only [List.getElem?_toArray, List.getElem?_cons_zero, List.getElem?_cons_succ]; rfl)); (case' q164 => (exact fun _ _ _ h => h)); (case' g164 => rfl); (case' y164 => (intro w hSw; (try dsimp only at hSw); go_simp; try with_reducible rfl)); (case' r164 => (try simp only [Act.put, List.setIfInBounds_toArray, List.set_cons_zero, List.set_cons_succ]))
                      refine wpAnyH_take (i := 28) (oi := ?o165) (v := ?v165) ?a165 (by kernel_rfl) (by kernel_rfl) (by kernel_rfl) ?q165 (Or.inl ⟨?g165, ?y165⟩) (by assumption) ?r165; (case' a165 => (simp only [List.getElem?_toArray, List.getElem?_cons_zero, List.getElem?_cons_succ]; rfl)); (case' q165 => (exact fun _ _ _ h => h)); (case' g165 => rfl); (case' y165 => (intro w hSw; (try dsimp only at hSw); go_simp; try with_reducible rfl)); (case' r165 => (try simp only [Act.put, List.setIfInBounds_toArray, List.set_cons_zero, List.set_cons_succ]))
                      refine wpAnyH_take (i := 29) (oi := ?o166) (v := ?v166) ?a166 (by kernel_rfl) (by kernel_rfl) (by kernel_rfl) ?q166 (Or.inl ⟨?g166, ?y166⟩) (by assumption) ?r166; (case' a166 => (simp only [List.getElem?_toArray, List.getElem?_cons_zero, List.getElem?_cons_succ]; rfl)); (case' q166 => (exact fun _ _ _ h => h)); (case' g166 => rfl); (case' y166 => (intro w hSw; (try dsimp only at hSw); go_simp; try with_reducible rfl)); (case' r166 => (try simp only [Act.put, List.setIfInBounds_toArray, List.set_cons_zero, List.set_cons_succ]))
                      refine wpAnyH_take (i := 30) (oi := ?o167) (v := ?v167) ?a167 (by kernel_rfl) (by kernel_rfl) (by kernel_rfl) ?q167 (Or.inl ⟨?g167, ?y167⟩) (by assumption) ?r167; (case' a167 => (simp only [List.getElem?_toArray, List.getElem?_cons_zero, List.getElem?_cons_succ]; rfl)); (case' q167 => (exact fun _ _ _ h => h)); (case' g167 => rfl); (case' y167 => (intro w hSw; (try dsimp only at hSw); go_simp; try with_reducible rfl)); (case' r167 => (try simp only [Act.put, List.setIfInBounds_toArray, List.set_cons_zero, List.set_cons_succ]))
                      refine wpAnyH_ready (rs := [31]) (by kernel_rfl) (by simp) ?_
                      refine AllReadyH.cons (o := ?o168) ?a168 (fun K hK => ?s168) ?m168; (case' a168 => (simp only [List.getElem?_toArray, List.getElem?_cons_zero, List.getElem?_cons_succ]; rfl))
                      case s168 =>
                        go_simp
                        go_at_call 42
                        refine (rrow_is vA xl xn vc rb _ (Lib.hid (RDR.out.below hHeld.2)) HXN hxl6 HRB).mono ?_
                        rintro e wn ⟨rfl, hbn⟩
                        go_wp2_with fail
                        refine hK.out _ _ (keep10w hHeld hbn) (fun hHeld => ?_)
                        clear hK K
                        (try simp only [Act.put, List.setIfInBounds_toArray, List.set_cons_zero, List.set_cons_succ])
                        refine wpAnyH_take (i := 32) (oi := ?o169) (v := ?v169) ?a169 (by kernel_rfl) (by kernel_rfl) (by kernel_rfl) ?q169 (Or.inl ⟨?g169, ?y169⟩) (by assumption) ?r169; (case' a169 => (simp only [List.getElem?_toArray, List.getElem?_cons_zero, List.getElem?_cons_succ]; rfl)); (case' q169 => (exact fun _ _ _ h => h)); (case' g169 => rfl); (case' y169 => (intro w hSw; (try dsimp only at hSw); go_simp; try with_reducible rfl)); (case' r169 => (try simp only [Act.put, List.setIfInBounds_toArray, List.set_cons_zero, List.set_cons_succ]))
                        refine wpAnyH_take (i := 33) (oi := ?o170) (v := ?v170) ?a170 (by kernel_rfl) (by kernel_rfl) (by kernel_rfl) ?q170 (Or.inl ⟨?g170, ?y170⟩) (by assumption) ?r170; (case' a170 => (simp only [List.getElem?_toArray, List.getElem?_cons_zero, List.getElem?_cons_succ]; rfl)); (case' q170 => (exact fun _ _ _ h => h)); (case' g170 => rfl); (case' y170 => (intro w hSw; (try dsimp only at hSw); go_simp; try with_reducible rfl)); (case' r170 => (try simp only [Act.put, List.setIfInBounds_toArray, List.set_cons_zero, List.set_cons_succ]))
                        refine wpAnyH_done (by kernel_rfl) ?_ _
                        have hbw := hHeld.2
                        clear hHeld
                        go_wp2_with fail
                        go_meet
                        exact ⟨by simp, Lib.hid hbw⟩
                      exact AllReadyH.nil
                    exact AllReadyH.nil
                  exact AllReadyH.nil
          case rest =>
            obtain ⟨rfl, HBD⟩ := hcut
            obtain ⟨g1, hg1⟩ : ∃ g, (!pb || !ib || !rb) = g := ⟨_, rfl⟩
            have HG1 := Lib.hid hg1
            rw [hg1]
            have HBWC : Hid (Below w.heap.size w wc) := Lib.hid (HBR.out.trans (HBD.out.mono HBR.out.size))
            clear hg1 c0 c1 c2_ c3 c4
            cases g1 with
            | true =>
              have hx : x = 1 := by
                have e := HST.out
                have e2 := HC2.out
                have e3 := HG1.out
                rw [← e] at e2
                rw [if_neg (by revert e3; cases pb <;> cases ib <;> cases rb <;> simp)] at e2
                exact e2.symm
              subst hx
              go_wp2_with fail
              go_ret2
              exact ⟨HBWC.out, .inl ⟨by decide, rfl⟩⟩
            | false =>
              obtain ⟨rfl, rfl, rfl⟩ : true = pb ∧ true = ib ∧ true = rb := by have e3 := HG1.out; revert e3; cases pb <;> cases ib <;> cases rb <;> simp
              have hin := of_decide_eq_true HIB.out
              have hx1 : 0 < xn := by
                have e := HRB.out
                simp only [Bool.and_eq_true, decide_eq_true_eq] at e
                omega
              rw [hn.out] at hin
              obtain ⟨i, hi⟩ : ∃ i : Nat, (xi - 1).toNat = i := ⟨_, rfl⟩
              have hat : es[i]? = some (es.getD i 0) := at_getD (by rw [hn.out]; omega)
              have HTC := Lib.hid (HTR.out.below HBD.out)
              obtain ⟨kb, rfl, _, _, _, hce, _⟩ := own_num HTC.out.eown hat
              obtain ⟨y, hy⟩ : ∃ y, es.getD i 0 = y := ⟨_, rfl⟩
              have heb := HEB.out
              rw [hi, hy] at heb
              rw [hy] at hce
              have c0 := cell_at HBWC.out HB0.out
              have c1 := cell_at HBWC.out HB1.out
              have ek := HTC.out.c0
              rw [hn.out] at ek
              have e1 : wrap64 (xi - 1) = (i : Int) := by simp only [wrap64]; omega
              have e2 : xi - 1 = (i : Int) := by omega
              have e3 : IntKind.i64.wrap (xi - 1) = (i : Int) := by rw [e2]; exact IntWalk.i64_in _ (by omega)
              have i0' : (0 : Int) ≤ (i : Int) := by omega
              have i1' : (i : Int) < (j : Int) := by omega
              clear hat hi hy hin
              cases eb with
              | false =>
                have hne : (xe != y) = true := by
                  have h := of_decide_eq_false heb
                  simpa using (fun e => h e.symm : ¬ xe = y)
                have hx : x = 1 := by
                  have e := HST.out
                  have e2 := HC2.out
                  rw [← e] at e2
                  rw [if_neg (by simp)] at e2
                  exact e2.symm
                subst hx
                clear heb
                go_upto_region 14 with fail
                go_quiet (fail)
                go_wp2_with fail
                go_ret2
                exact ⟨drewN_below HBWC.out _, .inl ⟨by decide, rfl⟩⟩
              | true =>
                have hye := (of_decide_eq_true heb).symm
                subst hye
                have hne : (xe != xe) = false := by simp
                have HCN : Hid (chainB es (prevM (vs.map (·.m)) (q + 1)) ((vs.map (·.m)).drop (q + 1)) = chainB es none (vs.map (·.m))) := Lib.hid (by
                  have e := HST.out
                  simpa using e)
                clear heb
                go_upto_region 14 with fail
                go_quiet (fail)
                obtain ⟨W14, hW14⟩ : ∃ W14, wc.drewN nq = W14 := ⟨_, rfl⟩
                have hbq : Below wc.heap.size wc W14 := by rw [← hW14]; exact drewN_below (Below.refl _ _) _
                rw [hW14]
                have HB14 : Hid (Below w.heap.size w W14) := Lib.hid (HBWC.out.trans (hbq.mono HBWC.out.size))
                have HT14 := Lib.hid (HTC.out.below hbq)
                have RD14 : Hid (RowD W14 vA xl) := Lib.hid (HRV.out.1.1.below HB14.out)
                have HS : Hid (∀ w', Below w.heap.size w w' → (w'.cell? ⟨mg, mo + q * 5, none⟩ = some (.int .i64 xi) ∧ w'.cell? ⟨mg, mo + q * 5 + 1, none⟩ = some (.int .i64 xe) ∧ w'.cell? ⟨mg, mo + q * 5 + 2, none⟩ = some (.string xt) ∧ w'.cell? ⟨mg, mo + q * 5 + 3, none⟩ = some (.int .i64 xp) ∧ w'.cell? ⟨mg, mo + q * 5 + 4, none⟩ = some (.slice vA xn vc)) ∧ Below w.heap.size w w') := Lib.hid (fun w' hb => ⟨⟨cell_at hb HB0.out, cell_at hb HB1.out, cell_at hb HB2.out, cell_at hb HB3.out, cell_at hb HB4.out⟩, hb⟩)
                clear c0 c1 ek hce hbq hW14 e1 e2 e3 i0' i1' hne
                go_upto_region 16 with fail
                refine wp_region_held_drew (S := (fun w' => (w'.cell? ⟨mg, mo + q * 5, none⟩ = some (.int .i64 xi) ∧ w'.cell? ⟨mg, mo + q * 5 + 1, none⟩ = some (.int .i64 xe) ∧ w'.cell? ⟨mg, mo + q * 5 + 2, none⟩ = some (.string xt) ∧ w'.cell? ⟨mg, mo + q * 5 + 3, none⟩ = some (.int .i64 xp) ∧ w'.cell? ⟨mg, mo + q * 5 + 4, none⟩ = some (.slice vA xn vc)) ∧ Below w.heap.size w w')) (by kernel_rfl) (HS.out _ (HB14.out.trans ((drewB _).mono HB14.out.size))) (fun hHeld => ?_)
                refine wpAnyH_take (i := 0) (oi := ?o171) (v := ?v171) ?a171 (by kernel_rfl) (by kernel_rfl) (by kernel_rfl) ?q171 (Or.inl ⟨?g171, ?y171⟩) (by assumption) ?r171; (case' a171 => (simp only [List.getElem?_toArray, List.getElem?_cons_zero]; rfl)); (case' q171 => (exact fun _ _ _ h => h)); (case' g171 => rfl); (case' y171 => (intro w hSw; (try dsimp only at hSw); go_simp; try with_reducible rfl)); (case' r171 => (try simp only [Act.put, List.setIfInBounds_toArray, List.set_cons_zero, List.set_cons_succ]))
                refine wpAnyH_take (i := 1) (oi := ?o172) (v := ?v172) ?a172 (by kernel_rfl) (by kernel_rfl) (by kernel_rfl) ?q172 (Or.inl ⟨?g172, ?y172⟩) (by assumption) ?r172; (case' a172 => (simp only [List.getElem?_toArray, List.getElem?_cons_zero, List.getElem?_cons_succ]; rfl)); (case' q172 => (exact fun _ _ _ h => h)); (case' g172 => rfl); (case' y172 => (intro w hSw; (try dsimp only at hSw); go_simp; try with_reducible rfl)); (case' r172 => (try simp only [Act.put, List.setIfInBounds_toArray, List.set_cons_zero, List.set_cons_succ]))
                refine wpAnyH_take (i := 2) (oi := ?o173) (v := ?v173) ?a173 (by kernel_rfl) (by kernel_rfl) (by kernel_rfl) ?q173 (Or.inl ⟨?g173, ?y173⟩) (by assumption) ?r173; (case' a173 => (simp only [List.getElem?_toArray, List.getElem?_cons_zero, List.getElem?_cons_succ]; rfl)); (case' q173 => (exact fun _ _ _ h => h)); (case' g173 => rfl); (case' y173 => (intro w hSw; (try dsimp only at hSw); go_simp; try with_reducible rfl)); (case' r173 => (try simp only [Act.put, List.setIfInBounds_toArray, List.set_cons_zero, List.set_cons_succ]))
                refine wpAnyH_take (i := 3) (oi := ?o174) (v := ?v174) ?a174 (by kernel_rfl) (by kernel_rfl) (by kernel_rfl) ?q174 (Or.inl ⟨?g174, ?y174⟩) (by assumption) ?r174; (case' a174 => (simp only [List.getElem?_toArray, List.getElem?_cons_zero, List.getElem?_cons_succ]; rfl)); (case' q174 => (exact fun _ _ _ h => h)); (case' g174 => rfl); (case' y174 => (intro w hSw; (try dsimp only at hSw); go_simp; try with_reducible rfl)); (case' r174 => (try simp only [Act.put, List.setIfInBounds_toArray, List.set_cons_zero, List.set_cons_succ]))
                refine wpAnyH_take (i := 5) (oi := ?o175) (v := ?v175) ?a175 (by kernel_rfl) (by kernel_rfl) (by kernel_rfl) ?q175 (Or.inl ⟨?g175, ?y175⟩) (by assumption) ?r175; (case' a175 => (simp only [List.getElem?_toArray, List.getElem?_cons_zero, List.getElem?_cons_succ]; rfl)); (case' q175 => (exact fun _ _ _ h => h)); (case' g175 => rfl); (case' y175 => (intro w hSw; (try dsimp only at hSw); go_simp; try with_reducible rfl)); (case' r175 => (try simp only [Act.put, List.setIfInBounds_toArray, List.set_cons_zero, List.set_cons_succ]))
                refine wpAnyH_take (i := 6) (oi := ?o176) (v := ?v176) ?a176 (by kernel_rfl) (by kernel_rfl) (by kernel_rfl) ?q176 (Or.inl ⟨?g176, ?y176⟩) (by assumption) ?r176; (case' a176 => (simp only [List.getElem?_toArray, List.getElem?_cons_zero, List.getElem?_cons_succ]; rfl)); (case' q176 => (exact fun _ _ _ h => h)); (case' g176 => rfl); (case' y176 => (intro w hSw; (try dsimp only at hSw); go_simp; try with_reducible rfl)); (case' r176 => (try simp only [Act.put, List.setIfInBounds_toArray, List.set_cons_zero, List.set_cons_succ]))
                refine wpAnyH_take (i := 7) (oi := ?o177) (v := ?v177) ?a177 (by kernel_rfl) (by kernel_rfl) (by kernel_rfl) ?q177 (Or.inl ⟨?g177, ?y177⟩) (by assumption) ?r177; (case' a177 => (simp only [List.getElem?_toArray, List.getElem?_cons_zero, List.getElem?_cons_succ]; rfl)); (case' q177 => (exact fun _ _ _ h => h)); (case' g177 => rfl); (case' y177 => (intro w hSw; (try dsimp only at hSw); go_simp; try with_reducible rfl)); (case' r177 => (try simp only [Act.put, List.setIfInBounds_toArray, List.set_cons_zero, List.set_cons_succ]))
                refine wpAnyH_take (i := 8) (oi := ?o178) (v := ?v178) ?a178 (by kernel_rfl) (by kernel_rfl) (by kernel_rfl) ?q178 (Or.inl ⟨?g178, ?y178⟩) (by assumption) ?r178; (case' a178 => (simp only [List.getElem?_toArray, List.getElem?_cons_zero, List.getElem?_cons_succ]; rfl)); (case' q178 => (exact fun _ _ _ h => h)); (case' g178 => rfl); (case' y178 => (intro w hSw; (try dsimp only at hSw); go_simp; try with_reducible rfl)); (case' r178 => (try simp only [Act.put, List.setIfInBounds_toArray, List.set_cons_zero, List.set_cons_succ]))
                refine wpAnyH_ready (rs := [4, 9]) (by kernel_rfl) (by simp) ?_
                refine AllReadyH.cons (o := ?o179) ?a179 (fun K hK => ?s179) ?m179; (case' a179 => (simp only [List.getElem?_toArray, List.getElem?_cons_zero, List.getElem?_cons_succ]; rfl))
                case s179 =>
                  have c1x : W14.drew.cell? ⟨k, 1, none⟩ = some (.slice AL q cL) := by rw [← HUL.out]; exact (HT14.out.below (drewB _)).c1
                  go_simp
                  refine hK.out _ _ hHeld (fun hHeld => ?_)
                  clear hK K
                  (try simp only [Act.put, List.setIfInBounds_toArray, List.set_cons_zero, List.set_cons_succ])
                  refine wpAnyH_ready (rs := [9]) (by kernel_rfl) (by simp) ?_
                  refine AllReadyH.cons (o := ?o180) ?a180 (fun K hK => ?s180) ?m180; (case' a180 => (simp only [List.getElem?_toArray, List.getElem?_cons_zero, List.getElem?_cons_succ]; rfl))
                  case s180 =>
                    go_simp
                    go_at_call 43
                    refine (rmaker_is xi xe xp xt vA xl xn vc _ (Lib.hid (RD14.out.below (drewB _))) HXN hx1 (by omega)).mono ?_
                    rintro e w9 ⟨X9, c9, rfl, hR9, hn9, hb9⟩
                    have HB9 : Hid (Below W14.heap.size W14 w9) := Lib.hid ((drewB _).trans (hb9.mono (drewB _).size))
                    have HR9 := Lib.hid hR9
                    have HN9 := Lib.hid hn9
                    have HT9 := Lib.hid (HT14.out.below HB9.out)
                    have HBW9 : Hid (Below w.heap.size w w9) := Lib.hid (HB14.out.trans (HB9.out.mono HB14.out.size))
                    have HZ9 : Hid (w.heap.size ≤ w9.heap.size) := Lib.hid HBW9.out.size
                    have HOL9 : Hid (w9.ownsRow w.heap.size 48 5 (.slice AL q cL) q (rowM us)) := Lib.hid (by rw [← HUL.out]; exact HT9.out.lown)
                    clear hR9 hn9 hb9
                    go_wp2_with fail
                    refine hK.out _ _ (HS.out _ HBW9.out) (fun hHeld => ?_)
                    clear hK K
                    (try simp only [Act.put, List.setIfInBounds_toArray, List.set_cons_zero, List.set_cons_succ])
                    refine wpAnyH_ready (rs := [10]) (by kernel_rfl) (by simp) ?_
                    refine AllReadyH.cons (o := ?o181) ?a181 (fun K hK => ?s181) ?m181; (case' a181 => (simp only [List.getElem?_toArray, List.getElem?_cons_zero, List.getElem?_cons_succ]; rfl))
                    case s181 =>
                      go_simp
                      refine hK.out _ _ (HS.out _ (HBW9.out.trans ((one_box' _).mono HBW9.out.size))) (fun hHeld => ?_)
                      clear hK K
                      (try simp only [Act.put, List.setIfInBounds_toArray, List.set_cons_zero, List.set_cons_succ])
                      refine wpAnyH_ready (rs := [11]) (by kernel_rfl) (by simp) ?_
                      refine AllReadyH.cons (o := ?o182) ?a182 (fun K hK => ?s182) ?m182; (case' a182 => (simp only [List.getElem?_toArray, List.getElem?_cons_zero, List.getElem?_cons_succ]; rfl))
                      case s182 =>
                        refine step_append_lies _ (by rfl) _ _ _ (by rfl) w.heap.size 48 im _ 5 64 Try.underlying27 hi0m hz0m hz1m hz2m rfl (by omega) (.slice AL q cL) q (rowM us) (by rfl) (HOL9.out.alloc _) ⟨w9.heap.size, 0, none⟩ 1 1 [.int .i64 xi, .int .i64 xe, .string xt, .int .i64 xp, .slice X9 xn c9] (by rfl) (by rfl) (World.news_of_block (cs := #[.int .i64 xi, .int .i64 xe, .string xt, .int .i64 xp, .slice X9 xn c9]) (t := 48) (fr := (0, 0)) (heap_alloc_new w9 _)) (by simp [Value.oneCell']) (by omega) (by unfold maxLen; omega) (by omega) (by have := HZ9.out; simp; omega) (w9.heap.size + 1) (by simp) ?_
                        intro gg cc w6 hown6 hgrow6 hat6 hlt6
                        have HB6 : Hid (Below w.heap.size w w6) := Lib.hid ((HBW9.out.alloc HBW9.out.size _).grown hgrow6 (by have := HZ9.out; simp; omega) (fun z e => (HOL9.out.lt z e).1))
                        have hk6 : w6.heap[k]? = some (.cells #[.slice (some ⟨kb, 0, none⟩) es.length c2, .slice AL us.length cL] 29 (0, 0)) := ((hgrow6.block k (by have := HT9.out.lt; simp; omega) (fun e => HT9.out.kL (mem_bk.2 (by rw [blk_own] at e; exact e.symm)))).trans (Below.heap_alloc _ _ _ HT9.out.lt)).trans HT9.out.row
                        have g6 : w6.cell? ⟨k, 1, none⟩ = some (.slice AL us.length cL) := (cell_of_row _ _ 1 _ _ _ hk6).trans rfl
                        have f6 : w6.frozen? ⟨k, 1, none⟩ = false := frozen_of_row _ _ _ _ _ hk6
                        have HRT : Hid (RT w.heap.size (w6.setCell ⟨k, 1, none⟩ (.slice (some ⟨gg, 0, none⟩) (q + 1) cc)) k (some ⟨kb, 0, none⟩) c2 (some ⟨gg, 0, none⟩) cc es (us ++ [⟨⟨xi, xe, xt, xp, xl⟩, X9, c9⟩])) := Lib.hid (by
                          have h := rload_step (m := ⟨xi, xe, xt, xp, xl⟩) HT9.out HR9.out HN9.out (gg := gg) (cc := cc) (by rw [HUL.out]; simpa [mkC, HXN.out] using hown6) (by rw [HUL.out]; exact hgrow6) (by rw [HUL.out]; exact hat6)
                          rwa [HUL.out] at h)
                        refine hK.out _ _ (HS.out _ HB6.out) (fun hHeld => ?_)
                        clear hK K hown6 hgrow6 hat6 hlt6 hk6
                        (try simp only [Act.put, List.setIfInBounds_toArray, List.set_cons_zero, List.set_cons_succ])
                        refine wpAnyH_take (i := 12) (oi := ?o183) (v := ?v183) ?a183 (by kernel_rfl) (by kernel_rfl) (by kernel_rfl) ?q183 (Or.inl ⟨?g183, ?y183⟩) (by assumption) ?r183; (case' a183 => (simp only [List.getElem?_toArray, List.getElem?_cons_zero, List.getElem?_cons_succ]; rfl)); (case' q183 => (exact fun _ _ _ h => h)); (case' g183 => rfl); (case' y183 => (intro w hSw; (try dsimp only at hSw); go_simp; try with_reducible rfl)); (case' r183 => (try simp only [Act.put, List.setIfInBounds_toArray, List.set_cons_zero, List.set_cons_succ]))
                        refine wpAnyH_take (i := 13) (oi := ?o184) (v := ?v184) ?a184 (by kernel_rfl) (by kernel_rfl) (by kernel_rfl) ?q184 (Or.inl ⟨?g184, ?y184⟩) (by assumption) ?r184; (case' a184 => (simp only [List.getElem?_toArray, List.getElem?_cons_zero, List.getElem?_cons_succ]; rfl)); (case' q184 => (exact fun _ _ _ h => h)); (case' g184 => rfl); (case' y184 => (intro w hSw; (try dsimp only at hSw); go_simp; try with_reducible rfl)); (case' r184 => (try simp only [Act.put, List.setIfInBounds_toArray, List.set_cons_zero, List.set_cons_succ]))
                        refine wpAnyH_ready (rs := [14]) (by kernel_rfl) (by simp) ?_
                        refine AllReadyH.cons (o := ?o185) ?a185 (fun K hK => ?s185) ?m185; (case' a185 => (simp only [List.getElem?_toArray, List.getElem?_cons_zero, List.getElem?_cons_succ]; rfl))
                        case s185 =>
                          go_simp
                          refine hK.out _ _ (HS.out _ (HB6.out.setCell (p := ⟨k, 1, none⟩) HK.out _)) (fun hHeld => ?_)
                          clear hK K
                          (try simp only [Act.put, List.setIfInBounds_toArray, List.set_cons_zero, List.set_cons_succ])
                          refine wpAnyH_done (by kernel_rfl) ?_ _
                          have HBE := Lib.hid hHeld.2
                          clear hHeld
                          go_wp2_with fail
                          go_roundw
                          case rel => exact ⟨q + 1, some ⟨gg, 0, none⟩, cc, us ++ [⟨⟨xi, xe, xt, xp, xl⟩, X9, c9⟩], by omega, by go_num, Lib.hid (by rw [List.length_append, HUL.out]; rfl), Lib.hid (by rw [List.map_append, HUM.out, List.take_add_one, HVM.out]; rfl), HRT, HBE, HCN⟩
                          case measure => simp [intOf]; omega
                        exact AllReadyH.nil
                      exact AllReadyH.nil
                    exact AllReadyH.nil
                  exact AllReadyH.nil
                refine AllReadyH.cons (o := ?o186) ?a186 (fun K hK => ?s186) ?m186; (case' a186 => (simp only [List.getElem?_toArray, List.getElem?_cons_zero, List.getElem?_cons_succ]; rfl))
                case s186 =>
                  go_simp
                  go_at_call 43
                  refine (rmaker_is xi xe xp xt vA xl xn vc _ (Lib.hid (RD14.out.below (drewB _))) HXN hx1 (by omega)).mono ?_
                  rintro e w9 ⟨X9, c9, rfl, hR9, hn9, hb9⟩
                  have HB9 : Hid (Below W14.heap.size W14 w9) := Lib.hid ((drewB _).trans (hb9.mono (drewB _).size))
                  have HR9 := Lib.hid hR9
                  have HN9 := Lib.hid hn9
                  have HT9 := Lib.hid (HT14.out.below HB9.out)
                  have HBW9 : Hid (Below w.heap.size w w9) := Lib.hid (HB14.out.trans (HB9.out.mono HB14.out.size))
                  have HZ9 : Hid (w.heap.size ≤ w9.heap.size) := Lib.hid HBW9.out.size
                  have HOL9 : Hid (w9.ownsRow w.heap.size 48 5 (.slice AL q cL) q (rowM us)) := Lib.hid (by rw [← HUL.out]; exact HT9.out.lown)
                  clear hR9 hn9 hb9
                  go_wp2_with fail
                  refine hK.out _ _ (HS.out _ HBW9.out) (fun hHeld => ?_)
                  clear hK K
                  (try simp only [Act.put, List.setIfInBounds_toArray, List.set_cons_zero, List.set_cons_succ])
                  refine wpAnyH_ready (rs := [4, 10]) (by kernel_rfl) (by simp) ?_
                  refine AllReadyH.cons (o := ?o187) ?a187 (fun K hK => ?s187) ?m187; (case' a187 => (simp only [List.getElem?_toArray, List.getElem?_cons_zero, List.getElem?_cons_succ]; rfl))
                  case s187 =>
                    have c1x : w9.cell? ⟨k, 1, none⟩ = some (.slice AL q cL) := by rw [← HUL.out]; exact HT9.out.c1
                    go_simp
                    refine hK.out _ _ hHeld (fun hHeld => ?_)
                    clear hK K
                    (try simp only [Act.put, List.setIfInBounds_toArray, List.set_cons_zero, List.set_cons_succ])
                    refine wpAnyH_ready (rs := [10]) (by kernel_rfl) (by simp) ?_
                    refine AllReadyH.cons (o := ?o188) ?a188 (fun K hK => ?s188) ?m188; (case' a188 => (simp only [List.getElem?_toArray, List.getElem?_cons_zero, List.getElem?_cons_succ]; rfl))
                    case s188 =>
                      go_simp
                      refine hK.out _ _ (HS.out _ (HBW9.out.trans ((one_box' _).mono HBW9.out.size))) (fun hHeld => ?_)
                      clear hK K
                      (try simp only [Act.put, List.setIfInBounds_toArray, List.set_cons_zero, List.set_cons_succ])
                      refine wpAnyH_ready (rs := [11]) (by kernel_rfl) (by simp) ?_
                      refine AllReadyH.cons (o := ?o189) ?a189 (fun K hK => ?s189) ?m189; (case' a189 => (simp only [List.getElem?_toArray, List.getElem?_cons_zero, List.getElem?_cons_succ]; rfl))
                      case s189 =>
                        refine step_append_lies _ (by rfl) _ _ _ (by rfl) w.heap.size 48 im _ 5 64 Try.underlying27 hi0m hz0m hz1m hz2m rfl (by omega) (.slice AL q cL) q (rowM us) (by rfl) (HOL9.out.alloc _) ⟨w9.heap.size, 0, none⟩ 1 1 [.int .i64 xi, .int .i64 xe, .string xt, .int .i64 xp, .slice X9 xn c9] (by rfl) (by rfl) (World.news_of_block (cs := #[.int .i64 xi, .int .i64 xe, .string xt, .int .i64 xp, .slice X9 xn c9]) (t := 48) (fr := (0, 0)) (heap_alloc_new w9 _)) (by simp [Value.oneCell']) (by omega) (by unfold maxLen; omega) (by omega) (by have := HZ9.out; simp; omega) (w9.heap.size + 1) (by simp) ?_
                        intro gg cc w6 hown6 hgrow6 hat6 hlt6
                        have HB6 : Hid (Below w.heap.size w w6) := Lib.hid ((HBW9.out.alloc HBW9.out.size _).grown hgrow6 (by have := HZ9.out; simp; omega) (fun z e => (HOL9.out.lt z e).1))
                        have hk6 : w6.heap[k]? = some (.cells #[.slice (some ⟨kb, 0, none⟩) es.length c2, .slice AL us.length cL] 29 (0, 0)) := ((hgrow6.block k (by have := HT9.out.lt; simp; omega) (fun e => HT9.out.kL (mem_bk.2 (by rw [blk_own] at e; exact e.symm)))).trans (Below.heap_alloc _ _ _ HT9.out.lt)).trans HT9.out.row
                        have g6 : w6.cell? ⟨k, 1, none⟩ = some (.slice AL us.length cL) := (cell_of_row _ _ 1 _ _ _ hk6).trans rfl
                        have f6 : w6.frozen? ⟨k, 1, none⟩ = false := frozen_of_row _ _ _ _ _ hk6
                        have HRT : Hid (RT w.heap.size (w6.setCell ⟨k, 1, none⟩ (.slice (some ⟨gg, 0, none⟩) (q + 1) cc)) k (some ⟨kb, 0, none⟩) c2 (some ⟨gg, 0, none⟩) cc es (us ++ [⟨⟨xi, xe, xt, xp, xl⟩, X9, c9⟩])) := Lib.hid (by
                          have h := rload_step (m := ⟨xi, xe, xt, xp, xl⟩) HT9.out HR9.out HN9.out (gg := gg) (cc := cc) (by rw [HUL.out]; simpa [mkC, HXN.out] using hown6) (by rw [HUL.out]; exact hgrow6) (by rw [HUL.out]; exact hat6)
                          rwa [HUL.out] at h)
                        refine hK.out _ _ (HS.out _ HB6.out) (fun hHeld => ?_)
                        clear hK K hown6 hgrow6 hat6 hlt6 hk6
                        (try simp only [Act.put, List.setIfInBounds_toArray, List.set_cons_zero, List.set_cons_succ])
                        refine wpAnyH_take (i := 12) (oi := ?o190) (v := ?v190) ?a190 (by kernel_rfl) (by kernel_rfl) (by kernel_rfl) ?q190 (Or.inl ⟨?g190, ?y190⟩) (by assumption) ?r190; (case' a190 => (simp only [List.getElem?_toArray, List.getElem?_cons_zero, List.getElem?_cons_succ]; rfl)); (case' q190 => (exact fun _ _ _ h => h)); (case' g190 => rfl); (case' y190 => (intro w hSw; (try dsimp only at hSw); go_simp; try with_reducible rfl)); (case' r190 => (try simp only [Act.put, List.setIfInBounds_toArray, List.set_cons_zero, List.set_cons_succ]))
                        refine wpAnyH_take (i := 13) (oi := ?o191) (v := ?v191) ?a191 (by kernel_rfl) (by kernel_rfl) (by kernel_rfl) ?q191 (Or.inl ⟨?g191, ?y191⟩) (by assumption) ?r191; (case' a191 => (simp only [List.getElem?_toArray, List.getElem?_cons_zero, List.getElem?_cons_succ]; rfl)); (case' q191 => (exact fun _ _ _ h => h)); (case' g191 => rfl); (case' y191 => (intro w hSw; (try dsimp only at hSw); go_simp; try with_reducible rfl)); (case' r191 => (try simp only [Act.put, List.setIfInBounds_toArray, List.set_cons_zero, List.set_cons_succ]))
                        refine wpAnyH_ready (rs := [14]) (by kernel_rfl) (by simp) ?_
                        refine AllReadyH.cons (o := ?o192) ?a192 (fun K hK => ?s192) ?m192; (case' a192 => (simp only [List.getElem?_toArray, List.getElem?_cons_zero, List.getElem?_cons_succ]; rfl))
                        case s192 =>
                          go_simp
                          refine hK.out _ _ (HS.out _ (HB6.out.setCell (p := ⟨k, 1, none⟩) HK.out _)) (fun hHeld => ?_)
                          clear hK K
                          (try simp only [Act.put, List.setIfInBounds_toArray, List.set_cons_zero, List.set_cons_succ])
                          refine wpAnyH_done (by kernel_rfl) ?_ _
                          have HBE := Lib.hid hHeld.2
                          clear hHeld
                          go_wp2_with fail
                          go_roundw
                          case rel => exact ⟨q + 1, some ⟨gg, 0, none⟩, cc, us ++ [⟨⟨xi, xe, xt, xp, xl⟩, X9, c9⟩], by omega, by go_num, Lib.hid (by rw [List.length_append, HUL.out]; rfl), Lib.hid (by rw [List.map_append, HUM.out, List.take_add_one, HVM.out]; rfl), HRT, HBE, HCN⟩
                          case measure => simp [intOf]; omega
                        exact AllReadyH.nil
                      exact AllReadyH.nil
                    exact AllReadyH.nil
                  refine AllReadyH.cons (o := ?o193) ?a193 (fun K hK => ?s193) ?m193; (case' a193 => (simp only [List.getElem?_toArray, List.getElem?_cons_zero, List.getElem?_cons_succ]; rfl))
                  case s193 =>
                    go_simp
                    refine hK.out _ _ (HS.out _ (HBW9.out.trans ((one_box' _).mono HBW9.out.size))) (fun hHeld => ?_)
                    clear hK K
                    (try simp only [Act.put, List.setIfInBounds_toArray, List.set_cons_zero, List.set_cons_succ])
                    refine wpAnyH_ready (rs := [4]) (by kernel_rfl) (by simp) ?_
                    refine AllReadyH.cons (o := ?o194) ?a194 (fun K hK => ?s194) ?m194; (case' a194 => (simp only [List.getElem?_toArray, List.getElem?_cons_zero, List.getElem?_cons_succ]; rfl))
                    case s194 =>
                      have c1x := cell_at (one_box' (w := w9) (.cells #[.int .i64 xi, .int .i64 xe, .string xt, .int .i64 xp, .slice X9 xn c9] 48)) (show w9.cell? ⟨k, 1, none⟩ = some (.slice AL q cL) by rw [← HUL.out]; exact HT9.out.c1)
                      go_simp
                      refine hK.out _ _ hHeld (fun hHeld => ?_)
                      clear hK K
                      (try simp only [Act.put, List.setIfInBounds_toArray, List.set_cons_zero, List.set_cons_succ])
                      refine wpAnyH_ready (rs := [11]) (by kernel_rfl) (by simp) ?_
                      refine AllReadyH.cons (o := ?o195) ?a195 (fun K hK => ?s195) ?m195; (case' a195 => (simp only [List.getElem?_toArray, List.getElem?_cons_zero, List.getElem?_cons_succ]; rfl))
                      case s195 =>
                        refine step_append_lies _ (by rfl) _ _ _ (by rfl) w.heap.size 48 im _ 5 64 Try.underlying27 hi0m hz0m hz1m hz2m rfl (by omega) (.slice AL q cL) q (rowM us) (by rfl) (HOL9.out.alloc _) ⟨w9.heap.size, 0, none⟩ 1 1 [.int .i64 xi, .int .i64 xe, .string xt, .int .i64 xp, .slice X9 xn c9] (by rfl) (by rfl) (World.news_of_block (cs := #[.int .i64 xi, .int .i64 xe, .string xt, .int .i64 xp, .slice X9 xn c9]) (t := 48) (fr := (0, 0)) (heap_alloc_new w9 _)) (by simp [Value.oneCell']) (by omega) (by unfold maxLen; omega) (by omega) (by have := HZ9.out; simp; omega) (w9.heap.size + 1) (by simp) ?_
                        intro gg cc w6 hown6 hgrow6 hat6 hlt6
                        have HB6 : Hid (Below w.heap.size w w6) := Lib.hid ((HBW9.out.alloc HBW9.out.size _).grown hgrow6 (by have := HZ9.out; simp; omega) (fun z e => (HOL9.out.lt z e).1))
                        have hk6 : w6.heap[k]? = some (.cells #[.slice (some ⟨kb, 0, none⟩) es.length c2, .slice AL us.length cL] 29 (0, 0)) := ((hgrow6.block k (by have := HT9.out.lt; simp; omega) (fun e => HT9.out.kL (mem_bk.2 (by rw [blk_own] at e; exact e.symm)))).trans (Below.heap_alloc _ _ _ HT9.out.lt)).trans HT9.out.row
                        have g6 : w6.cell? ⟨k, 1, none⟩ = some (.slice AL us.length cL) := (cell_of_row _ _ 1 _ _ _ hk6).trans rfl
                        have f6 : w6.frozen? ⟨k, 1, none⟩ = false := frozen_of_row _ _ _ _ _ hk6
                        have HRT : Hid (RT w.heap.size (w6.setCell ⟨k, 1, none⟩ (.slice (some ⟨gg, 0, none⟩) (q + 1) cc)) k (some ⟨kb, 0, none⟩) c2 (some ⟨gg, 0, none⟩) cc es (us ++ [⟨⟨xi, xe, xt, xp, xl⟩, X9, c9⟩])) := Lib.hid (by
                          have h := rload_step (m := ⟨xi, xe, xt, xp, xl⟩) HT9.out HR9.out HN9.out (gg := gg) (cc := cc) (by rw [HUL.out]; simpa [mkC, HXN.out] using hown6) (by rw [HUL.out]; exact hgrow6) (by rw [HUL.out]; exact hat6)
                          rwa [HUL.out] at h)
                        refine hK.out _ _ (HS.out _ HB6.out) (fun hHeld => ?_)
                        clear hK K hown6 hgrow6 hat6 hlt6 hk6
                        (try simp only [Act.put, List.setIfInBounds_toArray, List.set_cons_zero, List.set_cons_succ])
                        refine wpAnyH_take (i := 12) (oi := ?o196) (v := ?v196) ?a196 (by kernel_rfl) (by kernel_rfl) (by kernel_rfl) ?q196 (Or.inl ⟨?g196, ?y196⟩) (by assumption) ?r196; (case' a196 => (simp only [List.getElem?_toArray, List.getElem?_cons_zero, List.getElem?_cons_succ]; rfl)); (case' q196 => (exact fun _ _ _ h => h)); (case' g196 => rfl); (case' y196 => (intro w hSw; (try dsimp only at hSw); go_simp; try with_reducible rfl)); (case' r196 => (try simp only [Act.put, List.setIfInBounds_toArray, List.set_cons_zero, List.set_cons_succ]))
                        refine wpAnyH_take (i := 13) (oi := ?o197) (v := ?v197) ?a197 (by kernel_rfl) (by kernel_rfl) (by kernel_rfl) ?q197 (Or.inl ⟨?g197, ?y197⟩) (by assumption) ?r197; (case' a197 => (simp only [List.getElem?_toArray, List.getElem?_cons_zero, List.getElem?_cons_succ]; rfl)); (case' q197 => (exact fun _ _ _ h => h)); (case' g197 => rfl); (case' y197 => (intro w hSw; (try dsimp only at hSw); go_simp; try with_reducible rfl)); (case' r197 => (try simp only [Act.put, List.setIfInBounds_toArray, List.set_cons_zero, List.set_cons_succ]))
                        refine wpAnyH_ready (rs := [14]) (by kernel_rfl) (by simp) ?_
                        refine AllReadyH.cons (o := ?o198) ?a198 (fun K hK => ?s198) ?m198; (case' a198 => (simp only [List.getElem?_toArray, List.getElem?_cons_zero, List.getElem?_cons_succ]; rfl))
                        case s198 =>
                          go_simp
                          refine hK.out _ _ (HS.out _ (HB6.out.setCell (p := ⟨k, 1, none⟩) HK.out _)) (fun hHeld => ?_)
                          clear hK K
                          (try simp only [Act.put, List.setIfInBounds_toArray, List.set_cons_zero, List.set_cons_succ])
                          refine wpAnyH_done (by kernel_rfl) ?_ _
                          have HBE := Lib.hid hHeld.2
                          clear hHeld
                          go_wp2_with fail
                          go_roundw
                          case rel => exact ⟨q + 1, some ⟨gg, 0, none⟩, cc, us ++ [⟨⟨xi, xe, xt, xp, xl⟩, X9, c9⟩], by omega, by go_num, Lib.hid (by rw [List.length_append, HUL.out]; rfl), Lib.hid (by rw [List.map_append, HUM.out, List.take_add_one, HVM.out]; rfl), HRT, HBE, HCN⟩
                          case measure => simp [intOf]; omega
                        exact AllReadyH.nil
                      exact AllReadyH.nil
                    exact AllReadyH.nil
                  exact AllReadyH.nil
                exact AllReadyH.nil
        · obtain rfl : q = m := by omega
          have k1 : ¬ (q : Int) < (q : Int) := by omega
          have hx : x = 0 := by
            have e := HCH.out
            rw [List.drop_of_length_le (by rw [List.length_map, hm.out]; exact Nat.le_refl _)] at e
            have e2 : chainB es none (vs.map (·.m)) = true := by rw [← e]; cases prevM (vs.map (·.m)) q <;> rfl
            have e3 := HC2.out
            rw [e2, if_pos rfl] at e3
            exact e3.symm
          subst hx
          have hum := HUM.out
          rw [List.take_of_length_le (by rw [List.length_map, hm.out]; exact Nat.le_refl _)] at hum
          have HUM2 := Lib.hid hum
          clear hum hlt
          go_wp2_with fail
          go_ret2
          exact ⟨HBR.out, .inr ⟨rfl, k, A2, c2, AL, cL, us, rfl, HTR.out, HUM2.out, HK.out⟩⟩
end Go.Proofs.Ytcmlopflandlgaa.L8
