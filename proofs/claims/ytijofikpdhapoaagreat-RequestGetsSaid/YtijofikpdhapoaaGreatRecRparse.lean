/-
  Contracts: the batch at a place, the document's own.
-/
import Derived.Test.YtijofikpdhapoaaGreatRecParse
import Derived.Test.YtijofikpdhapoaaGreatRecRget
import Derived.Deep.AppendLies
import Derived.RegionTactic
namespace Go.Proofs.YtijofikpdhapoaaGreat.L3
open Go.RowKit

theorem u64Info : (Tryz.prog.info? 49).map (fun i => (i.zero, i.size, i.bytes)) = some (some (.int .u64 0), 1, 8) := by kernel_rfl
def nums (l : List Nat) : List Value := l.map fun n => .int .u64 (n : Nat)

/-- behind the append of a number -/
theorem num_row {wr w2 W0 : World} {B k g cap n : Nat} {obj : Obj} {v : Value} {l : List Nat} (hown : wr.ownsRow B 49 1 v k (nums l)) (hgrow : (wr.alloc obj).grownBy w2 v.ownBlock)
    (hown2 : w2.ownsRow B 49 1 (.slice (some ⟨g, 0, none⟩) (k + 1) cap) (k + 1) (nums l ++ [.int .u64 n])) (hbel : Below B W0 wr) (hsz : B ≤ wr.heap.size) :
    w2.ownsRow B 49 1 (.slice (some ⟨g, 0, none⟩) (k + 1) cap) (k + 1) (nums (l ++ [n])) ∧ Below B W0 w2 := by
  refine ⟨by simpa [nums] using hown2, ?_⟩
  exact (hbel.alloc hsz _).grown hgrow (by simp; omega) (fun j e => (hown.lt j e).1)

theorem own_form' {w : World} {base k : Nat} {T : TypeId} {m : Nat} {V : Value} {xs : List Value} (h : w.ownsRow base T m V k xs) : ∃ A cap, V = .slice A k cap := by
  rcases h.2 with ⟨rfl, rfl⟩ | ⟨g, cap, cur, rfl, _⟩
  · exact ⟨none, 0, rfl⟩
  · exact ⟨_, _, rfl⟩
theorem own_down {w : World} {base base' k : Nat} {T : TypeId} {m : Nat} {V : Value} {xs : List Value} (h : w.ownsRow base T m V k xs) (hb : base' ≤ base) : w.ownsRow base' T m V k xs := by
  refine ⟨h.1, ?_⟩
  rcases h.2 with e | ⟨g, cap, cur, e, h1, h2⟩
  · exact .inl e
  · exact .inr ⟨g, cap, cur, e, by omega, h2⟩
theorem own_set4 {w : World} {base k G : Nat} {T : TypeId} {m : Nat} {V : Value} {xs : List Value} (h : w.ownsRow base T m V k xs) (hG : G < base) (v0 v1 v2 v3 : Value) :
    ((((w.setCell ⟨G, 0, none⟩ v0).setCell ⟨G, 1, none⟩ v1).setCell ⟨G, 2, none⟩ v2).setCell ⟨G, 3, none⟩ v3).ownsRow base T m V k xs :=
  ownsRow_setCell_below (ownsRow_setCell_below (ownsRow_setCell_below (ownsRow_setCell_below h (a := ⟨G, 0, none⟩) hG v0) (a := ⟨G, 1, none⟩) hG v1) (a := ⟨G, 2, none⟩) hG v2) (a := ⟨G, 3, none⟩) hG v3

/-- behind the append of a record to a box's field -/
theorem box_next {w3 w2 wr W5 : World} {k gg cc : Nat} {o o' : Obj} {V a b c : Value} {l : List R} {r : R}
    (hbel : Below W5.heap.size W5 wr) (hb2 : Below wr.heap.size wr w2) (hgrow : ((w2.alloc o).alloc o').grownBy w3 V.ownBlock)
    (hown3 : w3.ownsRow (W5.heap.size + 1) 35 4 (.slice (some ⟨gg, 0, none⟩) (k + 1) cc) (k + 1) (rowOf l ++ [.bool r.hk, .string r.key, .bool r.tb, .string r.val]))
    (hbox : wr.heap[W5.heap.size]? = some (.cells #[a, b, c, V] 26 (0, 0))) (hs5 : W5.heap.size < wr.heap.size) (HL : ∀ j, V.ownBlock = some j → W5.heap.size + 1 ≤ j ∧ j < wr.heap.size) :
    Below W5.heap.size W5 (w3.setCell ⟨W5.heap.size, 3, none⟩ (.slice (some ⟨gg, 0, none⟩) (k + 1) cc)) ∧
    Hid ((w3.setCell ⟨W5.heap.size, 3, none⟩ (.slice (some ⟨gg, 0, none⟩) (k + 1) cc)).heap[W5.heap.size]? = some (.cells #[a, b, c, .slice (some ⟨gg, 0, none⟩) (k + 1) cc] 26 (0, 0))) ∧
    (w3.setCell ⟨W5.heap.size, 3, none⟩ (.slice (some ⟨gg, 0, none⟩) (k + 1) cc)).ownsRow (W5.heap.size + 1) 35 4 (.slice (some ⟨gg, 0, none⟩) (k + 1) cc) (k + 1) (rowOf (l ++ [r])) := by
  have hz2 : W5.heap.size < w2.heap.size := Nat.lt_of_lt_of_le hs5 hb2.size
  have hbox3 : w3.heap[W5.heap.size]? = some (.cells #[a, b, c, V] 26 (0, 0)) :=
    (hgrow.block _ (by simp; omega) (fun e => by have := (HL _ e.symm).1; omega)).trans ((Below.heap_alloc _ _ _ (by simp; omega)).trans ((Below.heap_alloc _ _ _ hz2).trans ((hb2.block _ hs5).trans hbox)))
  have hB3 : Below W5.heap.size W5 w3 := ((((hbel.trans (hb2.mono (by omega))).alloc (by omega) _).alloc (by simp; omega) _).grown hgrow (by simp; omega) (fun j e => by have := (HL j e).1; omega))
  refine ⟨hB3.setCell (Nat.le_refl _) _, Lib.hid (heap_setCell_same w3 _ 3 _ _ _ hbox3), ?_⟩
  rw [rowOf_app]
  exact ownsRow_setCell_below hown3 (Nat.lt_succ_self _) _

theorem num_ways {x : Int} {x0 x1 x2 x3 : Nat} (hx : x = numE x0 x1 x2 x3) (hE : ¬ numE x0 x1 x2 x3 = 0) :
    (x = 1 ∧ (1099511627776 : Int) < (x0 : Int)) ∨ (x = 1 ∧ (x0 : Int) ≤ 1099511627776 ∧ (1099511627776 : Int) < (x1 : Int)) ∨ (x = 1 ∧ (x0 : Int) ≤ 1099511627776 ∧ (x1 : Int) ≤ 1099511627776 ∧ (1099511627776 : Int) < (x2 : Int)) ∨ (x = 30 ∧ (x0 : Int) ≤ 1099511627776 ∧ (x1 : Int) ≤ 1099511627776 ∧ (x2 : Int) ≤ 1099511627776 ∧ ((x3 : Int) == 0) = true) ∨ (x = 2 ∧ (x0 : Int) ≤ 1099511627776 ∧ (x1 : Int) ≤ 1099511627776 ∧ (x2 : Int) ≤ 1099511627776 ∧ ((x3 : Int) == 0) = false ∧ (16 : Int) < (x3 : Int)) := by
  unfold numE at hx hE
  simp only [beq_iff_eq, beq_eq_false_iff_ne]
  split at hx
  · omega
  · rename_i h0
    rw [if_neg h0] at hE
    unfold cnt at hx hE
    split at hx
    · omega
    · rename_i h1
      rw [if_neg h1] at hE
      split at hx
      · omega
      · rename_i h2
        rw [if_neg h2] at hE
        exact absurd rfl hE

set_option maxRecDepth 100000 in
set_option maxHeartbeats 8000000 in
theorem rparse_any (s : ByteArray) (a : Int) (b : Bt) (to x : Int) (w : World) (hs : s.size ≤ 140737488355328) (HP : Hid (parse s a = (b, to, x))) :
    Calls Tryz.prog 27 #[.string s, .int .i64 a] w (ParsePost b to x w) := by
  have HS : Hid (s.size ≤ maxLen) := Lib.hid (by unfold maxLen; omega)
  have HS1 := Lib.hid hs
  obtain ⟨j0, hj0, hjz, hj1, hj2⟩ := info_parts u64Info
  obtain ⟨i0, hi0, hiz, hi1, hi2⟩ := info_parts recInfo1
  clear hs
  go_enter Tryz.func27, Tryz.ntmps27
  go_wp2_with fail
  go_loopw [7, 8, 9] (fun v t i wr => ∃ (k : Nat) (l : List Nat) (t' : Int), k ≤ 4 ∧ i = .int .i64 k ∧ t = .int .i64 t' ∧ Hid (run (V.get s) a k = (l, t', 0)) ∧ wr.ownsRow (w.heap.size + 1) 49 1 v k (nums l) ∧ Below (w.heap.size + 1) (w.alloc (.cells #[.int .i64 0, .int .i64 0, .int .i64 0, .slice none 0 0] 26)) wr) (fun _ _ i _ => 4 - (intOf i).toNat)
  case atStart => exact ⟨0, [], a, by omega, rfl, rfl, Lib.hid rfl, by simpa [nums] using World.ownsRow_made (base := w.heap.size + 1) (e := 49) (size := 1) (w.alloc (.cells #[.int .i64 0, .int .i64 0, .int .i64 0, .slice none 0 0] 26)) #[] 0 (by simp) (by unfold maxLen; omega) rfl, (Below.refl _ _).alloc (by simp) _⟩
  case round =>
    obtain ⟨k, l, t', hk, rfl, rfl, hrun, hown, hbel⟩ := hrel
    have hsz : w.heap.size + 1 ≤ wr.heap.size := by have := hbel.size; simpa using this
    have HRR : Hid (wr.heap[w.heap.size]? = some (.cells #[.int .i64 0, .int .i64 0, .int .i64 0, .slice none 0 0] 26 (0, 0))) := Lib.hid ((hbel.block _ (by omega)).trans (heap_alloc_new _ _))
    have hB1w : Below w.heap.size w wr := (one_box _).trans (hbel.mono (by omega))
    have g0 := (cell_of_row wr w.heap.size 0 _ _ _ HRR.out).trans rfl
    have p0 := frozen_of_row wr w.heap.size 0 _ _ HRR.out
    have g1 := (cell_of_row wr w.heap.size 1 _ _ _ HRR.out).trans rfl
    have p1 := frozen_of_row wr w.heap.size 1 _ _ HRR.out
    have g2 := (cell_of_row wr w.heap.size 2 _ _ _ HRR.out).trans rfl
    have p2 := frozen_of_row wr w.heap.size 2 _ _ HRR.out
    have g3 := (cell_of_row wr w.heap.size 3 _ _ _ HRR.out).trans rfl
    have p3 := frozen_of_row wr w.heap.size 3 _ _ HRR.out
    by_cases hlt : k < 4
    · obtain ⟨n, t2, e2, hg⟩ : ∃ n t2 e2, V.get s t' = (n, t2, e2) := ⟨_, _, _, rfl⟩
      by_cases he : e2 = 0
      · subst he
        have HNX := Lib.hid (run_next hrun.out hg)
        have HG := Lib.hid hg
        clear hg
        have hlt' : (k : Int) < 4 := by omega
        go_wp2_with (first
          | (go_at_call 25; refine (refget_is _ _ _ HS.out _ _ _ HG).mono ?_; rintro e3 w2 ⟨rfl, rfl⟩)
          | (at_builtin; refine wpList_append_lies _ rfl _ _ 103 (by rfl) (w.heap.size + 1) 49 j0 _ 1 8 Tryz.underlying103 hj0 hjz hj1 hj2 rfl (by omega) _ k (nums l) (by rfl) (hown.alloc _) ⟨wr.heap.size, 0, none⟩ 1 1 [.int .u64 n] (by rfl) (by rfl) (World.news_of_block (cs := #[.int .u64 n]) (t := 49) (fr := (0, 0)) (heap_alloc_new wr _)) (by simp [Value.oneCell']) (by omega) (by unfold maxLen; omega) (by omega) (by simp; omega) (wr.heap.size + 1) (by simp) ?_; intro gg cc w3 hown3 hgrow hat hltg))
        have hnx := num_row hown hgrow hown3 hbel hsz
        go_roundw
        case rel => exact ⟨k + 1, l ++ [n], t2, by omega, by go_num, rfl, HNX, hnx.1, hnx.2⟩
        case measure => simp [intOf]; omega
      · have hp := parse_num (numP_err (run_stop hrun.out hg he hlt) he) he
        rw [HP.out] at hp
        simp only [Prod.mk.injEq] at hp
        obtain ⟨rfl, rfl, rfl⟩ := hp
        have he1 : (x != 0) = true := by simpa using he
        have HG := Lib.hid hg
        clear hg he
        have hlt' : (k : Int) < 4 := by omega
        go_wp2_with (go_at_call 25; refine (refget_is _ _ _ HS.out _ _ _ HG).mono ?_; rintro e3 w2 ⟨rfl, rfl⟩)
        refine bodyPost_ret (v := .tuple #[.agg #[.int .i64 0, .int .i64 0, .int .i64 0, .slice none 0 0], .int .i64 0, .int .i64 x]) (results_row3 (p := 4) (t1 := 5) (t2 := 6) (ty := 26) Tryz.results27 _ _ w.heap.size 26 #[.int .i64 0, .int .i64 0, .int .i64 0, .slice none 0 0] (0, 0) _ rfl ?row1 Tryz.underlying26 rfl (by kernel_rfl)) rfl ?_
        case row1 => exact heap_setCell_same _ w.heap.size 3 _ _ (.slice none 0 0) (heap_setCell_same _ w.heap.size 2 _ _ (.int .i64 0) (heap_setCell_same _ w.heap.size 1 _ _ (.int .i64 0) (heap_setCell_same _ w.heap.size 0 _ _ (.int .i64 0) HRR.out)))
        refine ⟨none, 0, rfl, World.ownsRow_nil _ _ _ _, ?_⟩
        repeat (first | with_reducible exact hB1w | refine Below.setCell ?_ (by simp <;> omega) _)
    · obtain rfl : k = 4 := by omega
      obtain ⟨x0, x1, x2, x3, rfl⟩ : ∃ x0 x1 x2 x3, l = [x0, x1, x2, x3] := by match l, run_len hrun.out with | [x0, x1, x2, x3], _ => exact ⟨_, _, _, _, rfl⟩
      obtain ⟨g, cap, rfl, hg1, hg2⟩ := hown.form (by omega)
      have m0 : wr.cell? ⟨g, 0, none⟩ = some (.int .u64 x0) := (hown.cellAt 0 (by omega)).trans rfl
      have m1 : wr.cell? ⟨g, 1, none⟩ = some (.int .u64 x1) := (hown.cellAt 1 (by omega)).trans rfl
      have m2 : wr.cell? ⟨g, 2, none⟩ = some (.int .u64 x2) := (hown.cellAt 2 (by omega)).trans rfl
      have m3 : wr.cell? ⟨g, 3, none⟩ = some (.int .u64 x3) := (hown.cellAt 3 (by omega)).trans rfl
      rw [show ((4 : Nat) : Int) = 4 from rfl]
      by_cases hE : numE x0 x1 x2 x3 = 0
      · obtain ⟨y0, y1, y2, n0, n1⟩ := numE_ok hE
        have HN := Lib.hid (numP_ok hrun.out hE)
        have q0 : (x0 : Int) ≤ 1099511627776 := by omega
        have q1 : (x1 : Int) ≤ 1099511627776 := by omega
        have q2 : (x2 : Int) ≤ 1099511627776 := by omega
        have q3 : ((x3 : Int) == 0) = false := by rw [beq_eq_false_iff_ne]; omega
        have q4 : (x3 : Int) ≤ 16 := by omega
        have c0 : IntKind.i64.wrap (x0 : Int) = x0 := by rw [IntKind.wrap_i64]; omega
        have c1 : IntKind.i64.wrap (x1 : Int) = x1 := by rw [IntKind.wrap_i64]; omega
        have c2 : IntKind.i64.wrap (x2 : Int) = x2 := by rw [IntKind.wrap_i64]; omega
        have c3 : IntKind.i64.wrap (x3 : Int) = x3 := by rw [IntKind.wrap_i64]; omega
        have hgw : g < wr.heap.size := hg2
        clear hE y0 y1 y2
        go_wp2_with fail
        go_region
        rename World => w5
        go_wp2_with fail
        go_loopw [8, 14] (fun t i wq => ∃ (k : Nat) (l : List R) (t'' : Int) (V : Value), k ≤ x3 ∧ i = .int .i64 k ∧ t = .int .i64 t'' ∧ Hid (run (getR s) t' k = (l, t'', 0)) ∧ Below w5.heap.size w5 wq ∧ Hid (wq.heap[w5.heap.size]? = some (.cells #[.int .i64 x0, .int .i64 x1, .int .i64 x2, V] 26 (0, 0))) ∧ wq.ownsRow (w5.heap.size + 1) 35 4 V k (rowOf l)) (fun _ i _ => x3 - (intOf i).toNat)
        case atStart => exact ⟨0, [], t', .slice none 0 0, by omega, rfl, rfl, Lib.hid rfl, ((Below.refl _ _).alloc (Nat.le_refl _) _).drew, Lib.hid (heap_alloc_new w5 _), World.ownsRow_nil _ _ _ _⟩
        case round =>
          obtain ⟨k, l, t'', V, hk, rfl, rfl, hrun2, hbelq, hbox, hown2⟩ := hrel
          have hs5 : w5.heap.size < wr.heap.size := (Array.getElem?_eq_some_iff.1 hbox.out).1
          have n3 : wr.cell? ⟨g, 3, none⟩ = some (.int .u64 x3) := (hbelq.cell (p := ⟨g, 3, none⟩) hgw).trans m3
          have v3 : wr.cell? ⟨w5.heap.size, 3, none⟩ = some V := (cell_of_row _ _ _ _ _ _ hbox.out).trans rfl
          have hsz5 : w.heap.size < w5.heap.size := hsz
          have HRQ : Hid (wr.heap[w.heap.size]? = some (.cells #[.int .i64 0, .int .i64 0, .int .i64 0, .slice none 0 0] 26 (0, 0))) := Lib.hid ((hbelq.block _ (by omega)).trans HRR.out)
          have hBq : Below w.heap.size w wr := hB1w.trans (hbelq.mono (by omega))
          clear m0 m1 m2 m3 g0 g1 g2 g3 p0 p1 p2 p3 q0 q1 q2 q3 c0 c1 c2
          by_cases hlt : k < x3
          · have hlt' : (k : Int) < (x3 : Int) := by omega
            obtain ⟨⟨rk, key, tb, val⟩, t2, e2, hg⟩ : ∃ r t2 e2, getR s t'' = (r, t2, e2) := ⟨_, _, _, rfl⟩
            have HL := Lib.hid (World.ownsRow.lt hown2)
            have HO := Lib.hid hown2
            clear hown2
            by_cases he : e2 = 0
            · subst he
              have HNX := Lib.hid (run_next hrun2.out hg)
              have HG := Lib.hid hg
              clear hg
              go_wp2_with (first
                | (go_at_call 50; refine (rgetrec_is _ _ _ _ _ _ HS1.out HG).mono ?_; rintro e3 w2 ⟨rfl, hb2⟩; have hz2 : w5.heap.size < w2.heap.size := Nat.lt_of_lt_of_le hs5 hb2.size; have hv2 : w2.cell? ⟨w5.heap.size, 3, none⟩ = some V := (hb2.cell (p := ⟨w5.heap.size, 3, none⟩) hs5).trans v3)
                | (at_builtin; refine wpList_append_lies _ rfl _ _ 24 (by rfl) (w5.heap.size + 1) 35 i0 _ 4 48 Tryz.underlying24 hi0 hiz hi1 hi2 rfl (by omega) V k (rowOf l) (by rfl) (((own_below HO.out hb2).alloc _).alloc _) ⟨w2.heap.size + 1, 0, none⟩ 1 1 [.bool rk, .string key, .bool tb, .string val] (by rfl) (by rfl) (World.news_of_block (cs := #[.bool rk, .string key, .bool tb, .string val]) (t := 35) (fr := (0, 0)) (heap_alloc2_new w2 _ _)) (by simp [Value.oneCell']) (by omega) (by unfold maxLen; omega) (by omega) (by simp; omega) (w2.heap.size + 1 + 1) (by simp) ?_; intro gg cc w3 hown3 hgrow hat hltg; have hx3 : w3.cell? ⟨w5.heap.size, 3, none⟩ = some V := (hgrow.cell_far ⟨w5.heap.size, 3, none⟩ (by simp; omega) (fun e => Nat.lt_irrefl _ (HL.out _ e.symm).1)).trans (((((Below.refl (w5.heap.size + 1) w2).alloc hz2 _).alloc (by simp; omega) _).cell (p := ⟨w5.heap.size, 3, none⟩) (Nat.lt_succ_self _)).trans hv2); have hy3 : w3.frozen? ⟨w5.heap.size, 3, none⟩ = false := (hgrow.frozen_far ⟨w5.heap.size, 3, none⟩ (by simp; omega) (fun e => Nat.lt_irrefl _ (HL.out _ e.symm).1)).trans (((((Below.refl (w5.heap.size + 1) w2).alloc hz2 _).alloc (by simp; omega) _).frozen (p := ⟨w5.heap.size, 3, none⟩) (Nat.lt_succ_self _)).trans ((hb2.frozen (p := ⟨w5.heap.size, 3, none⟩) hs5).trans (frozen_of_row _ _ _ _ _ hbox.out)))))
              have hnx := box_next (r := ⟨rk, key, tb, val⟩) hbelq hb2 hgrow hown3 hbox.out hs5 HL.out
              go_roundw
              case rel => exact ⟨k + 1, l ++ [⟨rk, key, tb, val⟩], t2, _, by omega, by go_num, rfl, HNX, hnx.1, hnx.2.1, hnx.2.2⟩
              case measure => simp [intOf]; omega
            · have hp := parse_rec HN.out (run_stop hrun2.out hg he hlt) he
              rw [HP.out] at hp
              simp only [Prod.mk.injEq] at hp
              obtain ⟨rfl, rfl, rfl⟩ := hp
              have he1 : (x != 0) = true := by simpa using he
              have HG := Lib.hid hg
              clear hg he
              go_wp2_with (go_at_call 50; refine (rgetrec_is _ _ _ _ _ _ HS1.out HG).mono ?_; rintro e3 w2 ⟨rfl, hb2⟩; have hz2 : w.heap.size < w2.heap.size := Nat.lt_of_lt_of_le (by omega) hb2.size; have HR2 : Hid (w2.heap[w.heap.size]? = some (.cells #[.int .i64 0, .int .i64 0, .int .i64 0, .slice none 0 0] 26 (0, 0))) := Lib.hid ((hb2.block _ (by omega)).trans HRQ.out); have g0 := (cell_of_row w2 w.heap.size 0 _ _ _ HR2.out).trans rfl; have p0 := frozen_of_row w2 w.heap.size 0 _ _ HR2.out; have g1 := (cell_of_row w2 w.heap.size 1 _ _ _ HR2.out).trans rfl; have p1 := frozen_of_row w2 w.heap.size 1 _ _ HR2.out; have g2 := (cell_of_row w2 w.heap.size 2 _ _ _ HR2.out).trans rfl; have p2 := frozen_of_row w2 w.heap.size 2 _ _ HR2.out; have g3 := (cell_of_row w2 w.heap.size 3 _ _ _ HR2.out).trans rfl; have p3 := frozen_of_row w2 w.heap.size 3 _ _ HR2.out)
              have hB2 : Below w.heap.size w w2 := hBq.trans (hb2.mono (by omega))
              refine bodyPost_ret (v := .tuple #[.agg #[.int .i64 0, .int .i64 0, .int .i64 0, .slice none 0 0], .int .i64 0, .int .i64 x]) (results_row3 (p := 4) (t1 := 5) (t2 := 6) (ty := 26) Tryz.results27 _ _ w.heap.size 26 #[.int .i64 0, .int .i64 0, .int .i64 0, .slice none 0 0] (0, 0) _ rfl ?rowr Tryz.underlying26 rfl (by kernel_rfl)) rfl ?_
              case rowr => exact (Below.heap_alloc _ _ _ (by simp; omega)).trans (heap_setCell_same _ w.heap.size 3 _ _ (.slice none 0 0) (heap_setCell_same _ w.heap.size 2 _ _ (.int .i64 0) (heap_setCell_same _ w.heap.size 1 _ _ (.int .i64 0) (heap_setCell_same _ w.heap.size 0 _ _ (.int .i64 0) HR2.out))))
              refine ⟨none, 0, rfl, World.ownsRow_nil _ _ _ _, ?_⟩
              repeat (first | with_reducible exact hB2 | refine Below.setCell ?_ (by simp <;> omega) _ | refine Below.alloc ?_ (by simp <;> omega) _)
          · obtain rfl : k = x3 := by omega
            have hp := parse_ok HN.out hrun2.out
            rw [HP.out] at hp
            simp only [Prod.mk.injEq] at hp
            obtain ⟨rfl, rfl, rfl⟩ := hp
            obtain ⟨A, cap5, rfl⟩ := own_form' hown2
            have b0 := (cell_of_row wr w5.heap.size 0 _ _ _ hbox.out).trans rfl
            have b1 := (cell_of_row wr w5.heap.size 1 _ _ _ hbox.out).trans rfl
            have b2 := (cell_of_row wr w5.heap.size 2 _ _ _ hbox.out).trans rfl
            have g0 := (cell_of_row wr w.heap.size 0 _ _ _ HRQ.out).trans rfl
            have p0 := frozen_of_row wr w.heap.size 0 _ _ HRQ.out
            have g1 := (cell_of_row wr w.heap.size 1 _ _ _ HRQ.out).trans rfl
            have p1 := frozen_of_row wr w.heap.size 1 _ _ HRQ.out
            have g2 := (cell_of_row wr w.heap.size 2 _ _ _ HRQ.out).trans rfl
            have p2 := frozen_of_row wr w.heap.size 2 _ _ HRQ.out
            have g3 := (cell_of_row wr w.heap.size 3 _ _ _ HRQ.out).trans rfl
            have p3 := frozen_of_row wr w.heap.size 3 _ _ HRQ.out
            have HLEN := Lib.hid (run_len hrun2.out)
            go_wp2_with fail
            refine bodyPost_ret (v := .tuple #[.agg #[.int .i64 x0, .int .i64 x1, .int .i64 x2, .slice A k cap5], .int .i64 to, .int .i64 0]) (results_row3 (p := 4) (t1 := 5) (t2 := 6) (ty := 26) Tryz.results27 _ _ w.heap.size 26 #[.int .i64 x0, .int .i64 x1, .int .i64 x2, .slice A k cap5] (0, 0) _ rfl ?rowf Tryz.underlying26 rfl (by kernel_rfl)) rfl ?_
            case rowf => exact heap_setCell_same _ w.heap.size 3 _ _ (.slice A k cap5) (heap_setCell_same _ w.heap.size 2 _ _ (.int .i64 x2) (heap_setCell_same _ w.heap.size 1 _ _ (.int .i64 x1) (heap_setCell_same _ w.heap.size 0 _ _ (.int .i64 x0) HRQ.out)))
            refine ⟨A, cap5, by rw [HLEN.out], ?_, ?_⟩
            · have ho := own_down (own_set4 hown2 (by omega : w.heap.size < w5.heap.size + 1) (.int .i64 x0) (.int .i64 x1) (.int .i64 x2) (.slice A k cap5)) (by omega : w.heap.size ≤ w5.heap.size + 1)
              have hl := HLEN.out
              subst hl
              exact ho
            · repeat (first | with_reducible exact hBq | refine Below.setCell ?_ (by simp <;> omega) _)
      · have hp := parse_num (numP_bad hrun.out rfl hE) hE
        rw [HP.out] at hp
        simp only [Prod.mk.injEq] at hp
        obtain ⟨rfl, rfl, hx⟩ := hp
        have hc : (x = 1 ∧ (1099511627776 : Int) < (x0 : Int)) ∨ (x = 1 ∧ (x0 : Int) ≤ 1099511627776 ∧ (1099511627776 : Int) < (x1 : Int)) ∨ (x = 1 ∧ (x0 : Int) ≤ 1099511627776 ∧ (x1 : Int) ≤ 1099511627776 ∧ (1099511627776 : Int) < (x2 : Int)) ∨ (x = 30 ∧ (x0 : Int) ≤ 1099511627776 ∧ (x1 : Int) ≤ 1099511627776 ∧ (x2 : Int) ≤ 1099511627776 ∧ ((x3 : Int) == 0) = true) ∨ (x = 2 ∧ (x0 : Int) ≤ 1099511627776 ∧ (x1 : Int) ≤ 1099511627776 ∧ (x2 : Int) ≤ 1099511627776 ∧ ((x3 : Int) == 0) = false ∧ (16 : Int) < (x3 : Int)) := num_ways hx hE
        clear hx hE
        rcases hc with ⟨rfl, q0⟩ | ⟨rfl, q0, q1⟩ | ⟨rfl, q0, q1, q2⟩ | ⟨rfl, q0, q1, q2, q3⟩ | ⟨rfl, q0, q1, q2, q3, q4⟩
        · go_wp2_with fail
          refine bodyPost_ret (v := .tuple #[.agg #[.int .i64 0, .int .i64 0, .int .i64 0, .slice none 0 0], .int .i64 0, .int .i64 1]) (results_row3 (p := 4) (t1 := 5) (t2 := 6) (ty := 26) Tryz.results27 _ _ w.heap.size 26 #[.int .i64 0, .int .i64 0, .int .i64 0, .slice none 0 0] (0, 0) _ rfl ?rowe7016 Tryz.underlying26 rfl (by kernel_rfl)) rfl ?_
          case rowe7016 => exact heap_setCell_same _ w.heap.size 3 _ _ (.slice none 0 0) (heap_setCell_same _ w.heap.size 2 _ _ (.int .i64 0) (heap_setCell_same _ w.heap.size 1 _ _ (.int .i64 0) (heap_setCell_same _ w.heap.size 0 _ _ (.int .i64 0) HRR.out)))
          refine ⟨none, 0, rfl, World.ownsRow_nil _ _ _ _, ?_⟩
          repeat (first | with_reducible exact hB1w | refine Below.setCell ?_ (by simp <;> omega) _)
        · go_wp2_with fail
          refine bodyPost_ret (v := .tuple #[.agg #[.int .i64 0, .int .i64 0, .int .i64 0, .slice none 0 0], .int .i64 0, .int .i64 1]) (results_row3 (p := 4) (t1 := 5) (t2 := 6) (ty := 26) Tryz.results27 _ _ w.heap.size 26 #[.int .i64 0, .int .i64 0, .int .i64 0, .slice none 0 0] (0, 0) _ rfl ?rowe7815 Tryz.underlying26 rfl (by kernel_rfl)) rfl ?_
          case rowe7815 => exact heap_setCell_same _ w.heap.size 3 _ _ (.slice none 0 0) (heap_setCell_same _ w.heap.size 2 _ _ (.int .i64 0) (heap_setCell_same _ w.heap.size 1 _ _ (.int .i64 0) (heap_setCell_same _ w.heap.size 0 _ _ (.int .i64 0) HRR.out)))
          refine ⟨none, 0, rfl, World.ownsRow_nil _ _ _ _, ?_⟩
          repeat (first | with_reducible exact hB1w | refine Below.setCell ?_ (by simp <;> omega) _)
        · go_wp2_with fail
          refine bodyPost_ret (v := .tuple #[.agg #[.int .i64 0, .int .i64 0, .int .i64 0, .slice none 0 0], .int .i64 0, .int .i64 1]) (results_row3 (p := 4) (t1 := 5) (t2 := 6) (ty := 26) Tryz.results27 _ _ w.heap.size 26 #[.int .i64 0, .int .i64 0, .int .i64 0, .slice none 0 0] (0, 0) _ rfl ?rowe8614 Tryz.underlying26 rfl (by kernel_rfl)) rfl ?_
          case rowe8614 => exact heap_setCell_same _ w.heap.size 3 _ _ (.slice none 0 0) (heap_setCell_same _ w.heap.size 2 _ _ (.int .i64 0) (heap_setCell_same _ w.heap.size 1 _ _ (.int .i64 0) (heap_setCell_same _ w.heap.size 0 _ _ (.int .i64 0) HRR.out)))
          refine ⟨none, 0, rfl, World.ownsRow_nil _ _ _ _, ?_⟩
          repeat (first | with_reducible exact hB1w | refine Below.setCell ?_ (by simp <;> omega) _)
        · go_wp2_with fail
          refine bodyPost_ret (v := .tuple #[.agg #[.int .i64 0, .int .i64 0, .int .i64 0, .slice none 0 0], .int .i64 0, .int .i64 30]) (results_row3 (p := 4) (t1 := 5) (t2 := 6) (ty := 26) Tryz.results27 _ _ w.heap.size 26 #[.int .i64 0, .int .i64 0, .int .i64 0, .slice none 0 0] (0, 0) _ rfl ?rowe9413 Tryz.underlying26 rfl (by kernel_rfl)) rfl ?_
          case rowe9413 => exact heap_setCell_same _ w.heap.size 3 _ _ (.slice none 0 0) (heap_setCell_same _ w.heap.size 2 _ _ (.int .i64 0) (heap_setCell_same _ w.heap.size 1 _ _ (.int .i64 0) (heap_setCell_same _ w.heap.size 0 _ _ (.int .i64 0) HRR.out)))
          refine ⟨none, 0, rfl, World.ownsRow_nil _ _ _ _, ?_⟩
          repeat (first | with_reducible exact hB1w | refine Below.setCell ?_ (by simp <;> omega) _)
        · go_wp2_with fail
          refine bodyPost_ret (v := .tuple #[.agg #[.int .i64 0, .int .i64 0, .int .i64 0, .slice none 0 0], .int .i64 0, .int .i64 2]) (results_row3 (p := 4) (t1 := 5) (t2 := 6) (ty := 26) Tryz.results27 _ _ w.heap.size 26 #[.int .i64 0, .int .i64 0, .int .i64 0, .slice none 0 0] (0, 0) _ rfl ?rowe10213 Tryz.underlying26 rfl (by kernel_rfl)) rfl ?_
          case rowe10213 => exact heap_setCell_same _ w.heap.size 3 _ _ (.slice none 0 0) (heap_setCell_same _ w.heap.size 2 _ _ (.int .i64 0) (heap_setCell_same _ w.heap.size 1 _ _ (.int .i64 0) (heap_setCell_same _ w.heap.size 0 _ _ (.int .i64 0) HRR.out)))
          refine ⟨none, 0, rfl, World.ownsRow_nil _ _ _ _, ?_⟩
          repeat (first | with_reducible exact hB1w | refine Below.setCell ?_ (by simp <;> omega) _)
end Go.Proofs.YtijofikpdhapoaaGreat.L3
