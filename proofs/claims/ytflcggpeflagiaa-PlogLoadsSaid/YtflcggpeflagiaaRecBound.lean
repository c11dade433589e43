/-
  Contracts: a batch cut short.
-/
import Derived.Test.YtflcggpeflagiaaMRecAll
import Derived.OwnWalk
import Derived.Deep.RegionHeld3
import Derived.Deep.AppendLies
import Derived.Deep.RegionLaw
namespace Go.Proofs.Ytflcggpeflagiaa.L3
open Go.RowKit

theorem recInfo : (Try.prog.info? 41).map (fun i => (i.zero, i.size, i.bytes)) = some (some (.agg #[.bool false, .string ⟨#[]⟩, .bool false, .string ⟨#[]⟩]), 4, 48) := by kernel_rfl

def BoundPost (p e q : Int) (l : List R) (w : World) (x : Ending) (w' : World) : Prop :=
  ∃ A cap, x = .returned (.agg #[.int .i64 p, .int .i64 e, .int .i64 q, .slice A l.length cap]) ∧ w'.ownsRow w.heap.size 41 4 (.slice A l.length cap) l.length (rowOf l) ∧ Below w.heap.size w w'

theorem bound_next {w2 wn wr W2 : World} {H k gg cc : Nat} {obj : Obj} {V : Value} {p e q : Int} {l : List R} {rk tb : Bool} {key val : ByteArray}
    (hbel : Below (H + 1 + 1) W2 wr) (hbn : Below wr.drew.heap.size wr.drew wn) (hgrow : (wn.alloc obj).grownBy w2 V.ownBlock)
    (hown2 : w2.ownsRow (H + 1 + 1 + 1) 41 4 (.slice (some ⟨gg, 0, none⟩) (k + 1) cc) (k + 1) (rowOf ((l.take k).map R.cut) ++ [.bool rk, .string (cutS key 80), .bool tb, .string (cutS val 600)]))
    (hbox : wr.heap[H + 1 + 1]? = some (.cells #[.int .i64 p, .int .i64 e, .int .i64 q, V] 60 (0, 0))) (hr : l[k]? = some ⟨rk, key, tb, val⟩)
    (hf : Below (H + 1 + 1) wr (w2.setCell ⟨H + 1 + 1, 3, none⟩ (.slice (some ⟨gg, 0, none⟩) (k + 1) cc))) (hsz : H + 1 + 1 < wr.heap.size) (HL : ∀ j, V.ownBlock = some j → H + 1 + 1 + 1 ≤ j ∧ j < wr.heap.size) :
    Below (H + 1 + 1) W2 (w2.setCell ⟨H + 1 + 1, 3, none⟩ (.slice (some ⟨gg, 0, none⟩) (k + 1) cc)) ∧
    Hid ((w2.setCell ⟨H + 1 + 1, 3, none⟩ (.slice (some ⟨gg, 0, none⟩) (k + 1) cc)).heap[H + 1 + 1]? = some (.cells #[.int .i64 p, .int .i64 e, .int .i64 q, .slice (some ⟨gg, 0, none⟩) (k + 1) cc] 60 (0, 0))) ∧
    (w2.setCell ⟨H + 1 + 1, 3, none⟩ (.slice (some ⟨gg, 0, none⟩) (k + 1) cc)).ownsRow (H + 1 + 1 + 1) 41 4 (.slice (some ⟨gg, 0, none⟩) (k + 1) cc) (k + 1) (rowOf ((l.take (k + 1)).map R.cut)) := by
  have hzn : H + 1 + 1 < wn.heap.size := Nat.lt_of_lt_of_le hsz hbn.size
  have hb2 : w2.heap[H + 1 + 1]? = some (.cells #[.int .i64 p, .int .i64 e, .int .i64 q, V] 60 (0, 0)) :=
    (hgrow.block (H + 1 + 1) (by simp; omega) (fun c => by have := (HL _ c.symm).1; omega)).trans ((Below.heap_alloc _ _ _ hzn).trans ((hbn.block _ hsz).trans hbox))
  refine ⟨hbel.trans hf, Lib.hid (heap_setCell_same w2 (H + 1 + 1) 3 _ _ _ hb2), ?_⟩
  have et : (l.take (k + 1)).map R.cut = (l.take k).map R.cut ++ [⟨rk, cutS key 80, tb, cutS val 600⟩] := by
    rw [List.take_add_one, hr, List.map_append]; rfl
  rw [et, rowOf_app]
  exact ownsRow_setCell_below hown2 (by show H + 1 + 1 < _; omega) _

theorem own_form {w : World} {base k : Nat} {T : TypeId} {m : Nat} {V : Value} {xs : List Value} (h : w.ownsRow base T m V k xs) : ∃ A cap, V = .slice A k cap := by
  rcases h.2 with ⟨rfl, rfl⟩ | ⟨g, cap, cur, rfl, _⟩
  · exact ⟨none, 0, rfl⟩
  · exact ⟨_, _, rfl⟩
theorem take_len {l : List R} {f : R → R} {k : Nat} (hk : k ≤ l.length) (hk20 : k ≤ 20) (h : ¬ (k < l.length ∧ k < 20)) : (l.take k).map f = (l.take 20).map f ∧ ((l.take 20).map f).length = k := by
  have e : l.take k = l.take 20 := by
    rcases Nat.lt_or_ge k l.length with h1 | h1
    · have : k = 20 := by omega
      rw [this]
    · rw [List.take_of_length_le h1, List.take_of_length_le (by omega)]
  refine ⟨by rw [e], ?_⟩
  rw [← e, List.length_map, List.length_take]
  omega
theorem own_low {w : World} {base base' k : Nat} {T : TypeId} {m : Nat} {V : Value} {xs : List Value} (h : w.ownsRow base T m V k xs) (hb : base' ≤ base) : w.ownsRow base' T m V k xs := by
  refine ⟨h.1, ?_⟩
  rcases h.2 with e | ⟨g, cap, cur, e, h1, h2⟩
  · exact .inl e
  · exact .inr ⟨g, cap, cur, e, by omega, h2⟩
theorem bound_end {l : List R} {k cap : Nat} {A : Option Addr} {wr w : World} {base : Nat} {p e q : Int} {v0 v1 v2 v3 : Value}
    (hln : (l.take k).map R.cut = (l.take 20).map R.cut ∧ ((l.take 20).map R.cut).length = k) (hown : wr.ownsRow base 41 4 (.slice A k cap) k (rowOf ((l.take k).map R.cut))) (hbel : Below w.heap.size w wr) (hbase : w.heap.size + 1 < base) :
    BoundPost p e q ((l.take 20).map R.cut) w (.returned (.agg #[.int .i64 p, .int .i64 e, .int .i64 q, .slice A k cap])) ((((wr.setCell ⟨w.heap.size + 1, 0, none⟩ v0).setCell ⟨w.heap.size + 1, 1, none⟩ v1).setCell ⟨w.heap.size + 1, 2, none⟩ v2).setCell ⟨w.heap.size + 1, 3, none⟩ v3) := by
  have h1 := ownsRow_setCell_below (ownsRow_setCell_below (ownsRow_setCell_below (ownsRow_setCell_below hown (a := ⟨w.heap.size + 1, 0, none⟩) hbase v0) (a := ⟨w.heap.size + 1, 1, none⟩) hbase v1) (a := ⟨w.heap.size + 1, 2, none⟩) hbase v2) (a := ⟨w.heap.size + 1, 3, none⟩) hbase v3
  have hb := (((hbel.setCell (p := ⟨w.heap.size + 1, 0, none⟩) (Nat.le_succ _) v0).setCell (p := ⟨w.heap.size + 1, 1, none⟩) (Nat.le_succ _) v1).setCell (p := ⟨w.heap.size + 1, 2, none⟩) (Nat.le_succ _) v2).setCell (p := ⟨w.heap.size + 1, 3, none⟩) (Nat.le_succ _) v3
  rw [hln.1] at h1
  refine ⟨A, cap, by rw [hln.2], ?_, hb⟩
  have hk := hln.2
  subst hk
  exact own_low h1 (by omega)

set_option maxRecDepth 100000 in
set_option maxHeartbeats 4000000 in
theorem bound_any (p e q : Int) (A : Option Addr) (l : List R) (cap B : Nat) (w : World) (hR : Hid (ReadsO w B A l)) (hB : B ≤ w.heap.size) (hl : l.length ≤ maxLen) (hs : Hid (∀ r ∈ l, r.key.size ≤ maxLen ∧ r.val.size ≤ maxLen)) :
    Calls Try.prog 23 #[.agg #[.int .i64 p, .int .i64 e, .int .i64 q, .slice A l.length cap]] w (BoundPost p e q ((l.take 20).map R.cut) w) := by
  unfold maxLen at hl
  obtain ⟨i0, hi0, hz0, hz1, hz2⟩ := info_parts recInfo
  go_enter Try.func23, Try.ntmps23
  go_wp2_with fail
  go_loopw [4] (fun i wr => ∃ (k : Nat) (V : Value), k ≤ l.length ∧ k ≤ 20 ∧ i = .int .i64 k ∧ Below (w.heap.size + 1 + 1) ((w.alloc (.cells #[.int .i64 p, .int .i64 e, .int .i64 q, .slice A l.length cap] 60)).alloc (.cells #[.int .i64 0, .int .i64 0, .int .i64 0, .slice none 0 0] 60)) wr ∧
      Hid (wr.heap[w.heap.size + 1 + 1]? = some (.cells #[.int .i64 p, .int .i64 e, .int .i64 q, V] 60 (0, 0))) ∧ wr.ownsRow (w.heap.size + 1 + 1 + 1) 41 4 V k (rowOf ((l.take k).map R.cut))) (fun i _ => l.length - (intOf i).toNat)
  case atStart => exact ⟨0, .slice none 0 0, by omega, by omega, rfl, (Below.refl _ _).alloc (by simp) _, Lib.hid (by simpa using heap_alloc_new ((w.alloc _).alloc _) _), World.ownsRow_nil _ _ _ _⟩
  case round =>
    obtain ⟨k, V, hk, hk20, rfl, hbel, hbox, hown⟩ := hrel
    have hbel0 : Below w.heap.size w wr := (two_box _ _).trans (hbel.mono (by omega))
    have hsz : w.heap.size + 1 + 1 < wr.heap.size := (Array.getElem?_eq_some_iff.1 hbox.out).1
    have b3 : wr.cell? ⟨w.heap.size, 3, none⟩ = some (.slice A l.length cap) := (hbel.cell (p := ⟨w.heap.size, 3, none⟩) (by show w.heap.size < _; omega)).trans (by simp [go_sem])
    by_cases hlt : k < l.length ∧ k < 20
    · obtain ⟨hlt, hlt20⟩ := hlt
      have v3 : wr.cell? ⟨w.heap.size + 1 + 1, 3, none⟩ = some V := (cell_of_row _ _ _ _ _ _ hbox.out).trans rfl
      obtain ⟨g, o, rfl, hg, hcells⟩ := hR.out (by omega)
      obtain ⟨⟨rk, key, tb, val⟩, hr⟩ : ∃ r, l[k]? = some r := ⟨l[k], List.getElem?_eq_getElem hlt⟩
      obtain ⟨z1, z2⟩ := hs.out _ (List.mem_of_getElem? hr)
      have Z1 := Lib.hid z1
      have Z2 := Lib.hid z2
      obtain ⟨c0, c1, c2, c3⟩ := hcells k _ hr
      have d0 := (hbel0.cell (p := ⟨g, o + k * 4, none⟩) (by show g < _; omega)).trans c0
      have d1 := (hbel0.cell (p := ⟨g, o + k * 4 + 1, none⟩) (by show g < _; omega)).trans c1
      have d2 := (hbel0.cell (p := ⟨g, o + k * 4 + 2, none⟩) (by show g < _; omega)).trans c2
      have d3 := (hbel0.cell (p := ⟨g, o + k * 4 + 3, none⟩) (by show g < _; omega)).trans c3
      have HR := Lib.hid hr
      have HO := Lib.hid hown
      clear c0 c1 c2 c3 hr z1 z2 hcells hown
      dsimp only at d0 d1 d2 d3 Z1 Z2
      have k0 : (0 : Int) ≤ (k : Int) := by omega
      have k1 : (k : Int) < (l.length : Int) := by omega
      have k2 : (k : Int) < 20 := by omega
      have f3 : wr.frozen? ⟨w.heap.size + 1 + 1, 3, none⟩ = false := frozen_of_row _ _ _ _ _ hbox.out
      have hn : k + 1 ≤ maxLen := by unfold maxLen; omega
      have hnb : (k + 1) * 48 ≤ 140737488355328 := by omega
      have HL := Lib.hid (World.ownsRow.lt HO.out)
      have hz1' := hz1
      have HT : Hid (∀ w', Below (w.heap.size + 1 + 1) wr w' → ((w'.cell? ⟨w.heap.size, 3, none⟩ = some (.slice (some ⟨g, o, none⟩) l.length cap)) ∧ (w'.cell? ⟨g, o + k * 4, none⟩ = some (.bool rk) ∧ w'.cell? ⟨g, o + k * 4 + 1, none⟩ = some (.string key) ∧ w'.cell? ⟨g, o + k * 4 + 2, none⟩ = some (.bool tb) ∧ w'.cell? ⟨g, o + k * 4 + 3, none⟩ = some (.string val))) ∧ Below (w.heap.size + 1 + 1) wr w') := Lib.hid (fun w' hb => ⟨⟨(hb.cell (by show w.heap.size < _; omega)).trans b3, (hb.cell (by show g < _; omega)).trans d0, (hb.cell (by show g < _; omega)).trans d1, (hb.cell (by show g < _; omega)).trans d2, (hb.cell (by show g < _; omega)).trans d3⟩, hb⟩)
      go_wp2_with fail
      refine wp_region_held_drew (S := fun w' => ((w'.cell? ⟨w.heap.size, 3, none⟩ = some (.slice (some ⟨g, o, none⟩) l.length cap)) ∧ (w'.cell? ⟨g, o + k * 4, none⟩ = some (.bool rk) ∧ w'.cell? ⟨g, o + k * 4 + 1, none⟩ = some (.string key) ∧ w'.cell? ⟨g, o + k * 4 + 2, none⟩ = some (.bool tb) ∧ w'.cell? ⟨g, o + k * 4 + 3, none⟩ = some (.string val))) ∧ Below (w.heap.size + 1 + 1) wr w') (by kernel_rfl) (HT.out _ (Below.refl _ _).drew) (fun hHeld => ?_)
      refine wpAnyH_take (i := 0) (oi := ?o1) (v := ?v1) ?a1 (by kernel_rfl) (by kernel_rfl) (by kernel_rfl) ?q1 (Or.inl ⟨?g1, ?y1⟩) (by assumption) ?r1; (case' a1 => (simp only [List.getElem?_toArray, List.getElem?_cons_zero]; rfl)); (case' q1 => (exact fun _ _ _ h => h)); (case' g1 => rfl); (case' y1 => (intro w hSw; (try dsimp only at hSw); go_simp; try with_reducible rfl)); (case' r1 => (try simp only [Act.put, List.setIfInBounds_toArray, List.set_cons_zero, List.set_cons_succ]))
      refine wpAnyH_take (i := 2) (oi := ?o2) (v := ?v2) ?a2 (by kernel_rfl) (by kernel_rfl) (by kernel_rfl) ?q2 (Or.inl ⟨?g2, ?y2⟩) (by assumption) ?r2; (case' a2 => (simp only [List.getElem?_toArray, List.getElem?_cons_zero, List.getElem?_cons_succ]; rfl)); (case' q2 => (exact fun _ _ _ h => h)); (case' g2 => rfl); (case' y2 => (intro w hSw; (try dsimp only at hSw); go_simp; try with_reducible rfl)); (case' r2 => (try simp only [Act.put, List.setIfInBounds_toArray, List.set_cons_zero, List.set_cons_succ]))
      refine wpAnyH_take (i := 3) (oi := ?o3) (v := ?v3) ?a3 (by kernel_rfl) (by kernel_rfl) (by kernel_rfl) ?q3 (Or.inl ⟨?g3, ?y3⟩) (by assumption) ?r3; (case' a3 => (simp only [List.getElem?_toArray, List.getElem?_cons_zero, List.getElem?_cons_succ]; rfl)); (case' q3 => (exact fun _ _ _ h => h)); (case' g3 => rfl); (case' y3 => (intro w hSw; (try dsimp only at hSw); go_simp; try with_reducible rfl)); (case' r3 => (try simp only [Act.put, List.setIfInBounds_toArray, List.set_cons_zero, List.set_cons_succ]))
      refine wpAnyH_take (i := 4) (oi := ?o4) (v := ?v4) ?a4 (by kernel_rfl) (by kernel_rfl) (by kernel_rfl) ?q4 (Or.inl ⟨?g4, ?y4⟩) (by assumption) ?r4; (case' a4 => (simp only [List.getElem?_toArray, List.getElem?_cons_zero, List.getElem?_cons_succ]; rfl)); (case' q4 => (exact fun _ _ _ h => h)); (case' g4 => rfl); (case' y4 => (intro w hSw; (try dsimp only at hSw); go_simp; try with_reducible rfl)); (case' r4 => (try simp only [Act.put, List.setIfInBounds_toArray, List.set_cons_zero, List.set_cons_succ]))
      refine wpAnyH_take (i := 5) (oi := ?o5) (v := ?v5) ?a5 (by kernel_rfl) (by kernel_rfl) (by kernel_rfl) ?q5 (Or.inl ⟨?g5, ?y5⟩) (by assumption) ?r5; (case' a5 => (simp only [List.getElem?_toArray, List.getElem?_cons_zero, List.getElem?_cons_succ]; rfl)); (case' q5 => (exact fun _ _ _ h => h)); (case' g5 => rfl); (case' y5 => (intro w hSw; (try dsimp only at hSw); go_simp; try with_reducible rfl)); (case' r5 => (try simp only [Act.put, List.setIfInBounds_toArray, List.set_cons_zero, List.set_cons_succ]))
      refine wpAnyH_take (i := 6) (oi := ?o6) (v := ?v6) ?a6 (by kernel_rfl) (by kernel_rfl) (by kernel_rfl) ?q6 (Or.inl ⟨?g6, ?y6⟩) (by assumption) ?r6; (case' a6 => (simp only [List.getElem?_toArray, List.getElem?_cons_zero, List.getElem?_cons_succ]; rfl)); (case' q6 => (exact fun _ _ _ h => h)); (case' g6 => rfl); (case' y6 => (intro w hSw; (try dsimp only at hSw); go_simp; try with_reducible rfl)); (case' r6 => (try simp only [Act.put, List.setIfInBounds_toArray, List.set_cons_zero, List.set_cons_succ]))
      refine wpAnyH_ready (rs := [1, 7]) (by kernel_rfl) (by simp) ?_
      refine AllReadyH.cons (o := ?o7) ?a7 (fun K hK => ?s7) ?m7; (case' a7 => (simp only [List.getElem?_toArray, List.getElem?_cons_zero, List.getElem?_cons_succ]; rfl))
      case s7 =>
        go_simp
        refine hK.out _ _ (hHeld) (fun hHeld => ?_)
        clear hK K
        (try simp only [Act.put, List.setIfInBounds_toArray, List.set_cons_zero, List.set_cons_succ])
        refine wpAnyH_ready (rs := [7]) (by kernel_rfl) (by simp) ?_
        refine AllReadyH.cons (o := ?o8) ?a8 (fun K hK => ?s8) ?m8; (case' a8 => (simp only [List.getElem?_toArray, List.getElem?_cons_zero, List.getElem?_cons_succ]; rfl))
        case s8 =>
          go_simp
          go_at_call 51
          refine (cut_is _ _ _ _ _ Z1.out Z2.out).mono ?_
          rintro e wn ⟨rfl, hbn⟩
          have hv1 : wn.cell? ⟨w.heap.size + 1 + 1, 3, none⟩ = some V := (hbn.cell (p := ⟨w.heap.size + 1 + 1, 3, none⟩) hsz).trans v3
          have hw1 : wn.frozen? ⟨w.heap.size + 1 + 1, 3, none⟩ = false := (hbn.frozen (p := ⟨w.heap.size + 1 + 1, 3, none⟩) hsz).trans f3
          have hz1 : w.heap.size + 1 + 1 < wn.heap.size := Nat.lt_of_lt_of_le hsz hbn.size
          go_wp2_with fail
          refine hK.out _ _ (HT.out _ (hHeld.2.trans (hbn.mono (Nat.le_trans (Nat.le_of_lt hsz) hHeld.2.size)))) (fun hHeld => ?_)
          clear hK K
          (try simp only [Act.put, List.setIfInBounds_toArray, List.set_cons_zero, List.set_cons_succ])
          refine wpAnyH_ready (rs := [8]) (by kernel_rfl) (by simp) ?_
          refine AllReadyH.cons (o := ?o9) ?a9 (fun K hK => ?s9) ?m9; (case' a9 => (simp only [List.getElem?_toArray, List.getElem?_cons_zero, List.getElem?_cons_succ]; rfl))
          case s9 =>
            go_simp
            refine hK.out _ _ (HT.out _ (hHeld.2.alloc (Nat.le_trans (Nat.le_of_lt hsz) hHeld.2.size) _)) (fun hHeld => ?_)
            clear hK K
            (try simp only [Act.put, List.setIfInBounds_toArray, List.set_cons_zero, List.set_cons_succ])
            refine wpAnyH_ready (rs := [9]) (by kernel_rfl) (by simp) ?_
            refine AllReadyH.cons (o := ?o10) ?a10 (fun K hK => ?s10) ?m10; (case' a10 => (simp only [List.getElem?_toArray, List.getElem?_cons_zero, List.getElem?_cons_succ]; rfl))
            case s10 =>
              refine step_append_lies _ (by rfl) _ _ _ (by rfl) (w.heap.size + 1 + 1 + 1) 41 i0 _ 4 48 Try.underlying30 hi0 hz0 hz1' hz2 rfl (by omega) V k (rowOf ((l.take k).map R.cut)) (by rfl) ((own_below HO.out (((Below.refl _ _).drew).trans hbn)).alloc _) ⟨wn.heap.size, 0, none⟩ 1 1 [.bool rk, .string (cutS key 80), .bool tb, .string (cutS val 600)] (by rfl) (by rfl) (World.news_of_block (cs := #[.bool rk, .string (cutS key 80), .bool tb, .string (cutS val 600)]) (t := 41) (fr := (0, 0)) (heap_alloc_new wn _)) (by simp [Value.oneCell']) (by omega) hn hnb (by simp; omega) (wn.heap.size + 1) (by simp) ?_
              intro gg cc w2 hown2 hgrow hat hltg
              have hx3 : w2.cell? ⟨w.heap.size + 1 + 1, 3, none⟩ = some V := (hgrow.cell_far ⟨w.heap.size + 1 + 1, 3, none⟩ (by simp; omega) (fun e => Nat.lt_irrefl (w.heap.size + 1 + 1) (HL.out _ e.symm).1)).trans ((World.cell?_alloc_lt _ _ _ hz1).trans hv1)
              have hy3 : w2.frozen? ⟨w.heap.size + 1 + 1, 3, none⟩ = false := (hgrow.frozen_far ⟨w.heap.size + 1 + 1, 3, none⟩ (by simp; omega) (fun e => Nat.lt_irrefl (w.heap.size + 1 + 1) (HL.out _ e.symm).1)).trans ((((Below.refl (w.heap.size + 1 + 1 + 1) wn).alloc hz1 _).frozen (p := ⟨w.heap.size + 1 + 1, 3, none⟩) (by show w.heap.size + 1 + 1 < _; omega)).trans hw1)
              refine hK.out _ _ (HT.out _ (hHeld.2.grown hgrow (Nat.le_trans (Nat.le_of_lt hsz) hHeld.2.size) (fun j e => by have := (HL.out j e).1; omega))) (fun hHeld => ?_)
              clear hK K
              (try simp only [Act.put, List.setIfInBounds_toArray, List.set_cons_zero, List.set_cons_succ])
              refine wpAnyH_take (i := 10) (oi := ?o11) (v := ?v11) ?a11 (by kernel_rfl) (by kernel_rfl) (by kernel_rfl) ?q11 (Or.inl ⟨?g11, ?y11⟩) (by assumption) ?r11; (case' a11 => (simp only [List.getElem?_toArray, List.getElem?_cons_zero, List.getElem?_cons_succ]; rfl)); (case' q11 => (exact fun _ _ _ h => h)); (case' g11 => rfl); (case' y11 => (intro w hSw; (try dsimp only at hSw); go_simp; try with_reducible rfl)); (case' r11 => (try simp only [Act.put, List.setIfInBounds_toArray, List.set_cons_zero, List.set_cons_succ]))
              refine wpAnyH_ready (rs := [11]) (by kernel_rfl) (by simp) ?_
              refine AllReadyH.cons (o := ?o12) ?a12 (fun K hK => ?s12) ?m12; (case' a12 => (simp only [List.getElem?_toArray, List.getElem?_cons_zero, List.getElem?_cons_succ]; rfl))
              case s12 =>
                go_simp
                refine hK.out _ _ (HT.out _ (hHeld.2.setCell (by show _ ≤ w.heap.size + 1 + 1; omega) _)) (fun hHeld => ?_)
                clear hK K
                (try simp only [Act.put, List.setIfInBounds_toArray, List.set_cons_zero, List.set_cons_succ])
                refine wpAnyH_done (by kernel_rfl) ?_ _
                go_wp2_with fail
                go_roundw
                case rel =>
                  have hnx := bound_next hbel hbn hgrow hown2 hbox.out HR.out hHeld.2 hsz HL.out
                  exact ⟨k + 1, _, by omega, by omega, by go_num, hnx.1, hnx.2.1, hnx.2.2⟩
                case measure => simp [intOf]; omega
              exact AllReadyH.nil
            exact AllReadyH.nil
          exact AllReadyH.nil
        exact AllReadyH.nil
      refine AllReadyH.cons (o := ?o13) ?a13 (fun K hK => ?s13) ?m13; (case' a13 => (simp only [List.getElem?_toArray, List.getElem?_cons_zero, List.getElem?_cons_succ]; rfl))
      case s13 =>
        go_simp
        go_at_call 51
        refine (cut_is _ _ _ _ _ Z1.out Z2.out).mono ?_
        rintro e wn ⟨rfl, hbn⟩
        have hv1 : wn.cell? ⟨w.heap.size + 1 + 1, 3, none⟩ = some V := (hbn.cell (p := ⟨w.heap.size + 1 + 1, 3, none⟩) hsz).trans v3
        have hw1 : wn.frozen? ⟨w.heap.size + 1 + 1, 3, none⟩ = false := (hbn.frozen (p := ⟨w.heap.size + 1 + 1, 3, none⟩) hsz).trans f3
        have hz1 : w.heap.size + 1 + 1 < wn.heap.size := Nat.lt_of_lt_of_le hsz hbn.size
        go_wp2_with fail
        refine hK.out _ _ (HT.out _ (hHeld.2.trans (hbn.mono (Nat.le_trans (Nat.le_of_lt hsz) hHeld.2.size)))) (fun hHeld => ?_)
        clear hK K
        (try simp only [Act.put, List.setIfInBounds_toArray, List.set_cons_zero, List.set_cons_succ])
        refine wpAnyH_ready (rs := [1, 8]) (by kernel_rfl) (by simp) ?_
        refine AllReadyH.cons (o := ?o14) ?a14 (fun K hK => ?s14) ?m14; (case' a14 => (simp only [List.getElem?_toArray, List.getElem?_cons_zero, List.getElem?_cons_succ]; rfl))
        case s14 =>
          go_simp
          refine hK.out _ _ (hHeld) (fun hHeld => ?_)
          clear hK K
          (try simp only [Act.put, List.setIfInBounds_toArray, List.set_cons_zero, List.set_cons_succ])
          refine wpAnyH_ready (rs := [8]) (by kernel_rfl) (by simp) ?_
          refine AllReadyH.cons (o := ?o15) ?a15 (fun K hK => ?s15) ?m15; (case' a15 => (simp only [List.getElem?_toArray, List.getElem?_cons_zero, List.getElem?_cons_succ]; rfl))
          case s15 =>
            go_simp
            refine hK.out _ _ (HT.out _ (hHeld.2.alloc (Nat.le_trans (Nat.le_of_lt hsz) hHeld.2.size) _)) (fun hHeld => ?_)
            clear hK K
            (try simp only [Act.put, List.setIfInBounds_toArray, List.set_cons_zero, List.set_cons_succ])
            refine wpAnyH_ready (rs := [9]) (by kernel_rfl) (by simp) ?_
            refine AllReadyH.cons (o := ?o16) ?a16 (fun K hK => ?s16) ?m16; (case' a16 => (simp only [List.getElem?_toArray, List.getElem?_cons_zero, List.getElem?_cons_succ]; rfl))
            case s16 =>
              refine step_append_lies _ (by rfl) _ _ _ (by rfl) (w.heap.size + 1 + 1 + 1) 41 i0 _ 4 48 Try.underlying30 hi0 hz0 hz1' hz2 rfl (by omega) V k (rowOf ((l.take k).map R.cut)) (by rfl) ((own_below HO.out (((Below.refl _ _).drew).trans hbn)).alloc _) ⟨wn.heap.size, 0, none⟩ 1 1 [.bool rk, .string (cutS key 80), .bool tb, .string (cutS val 600)] (by rfl) (by rfl) (World.news_of_block (cs := #[.bool rk, .string (cutS key 80), .bool tb, .string (cutS val 600)]) (t := 41) (fr := (0, 0)) (heap_alloc_new wn _)) (by simp [Value.oneCell']) (by omega) hn hnb (by simp; omega) (wn.heap.size + 1) (by simp) ?_
              intro gg cc w2 hown2 hgrow hat hltg
              have hx3 : w2.cell? ⟨w.heap.size + 1 + 1, 3, none⟩ = some V := (hgrow.cell_far ⟨w.heap.size + 1 + 1, 3, none⟩ (by simp; omega) (fun e => Nat.lt_irrefl (w.heap.size + 1 + 1) (HL.out _ e.symm).1)).trans ((World.cell?_alloc_lt _ _ _ hz1).trans hv1)
              have hy3 : w2.frozen? ⟨w.heap.size + 1 + 1, 3, none⟩ = false := (hgrow.frozen_far ⟨w.heap.size + 1 + 1, 3, none⟩ (by simp; omega) (fun e => Nat.lt_irrefl (w.heap.size + 1 + 1) (HL.out _ e.symm).1)).trans ((((Below.refl (w.heap.size + 1 + 1 + 1) wn).alloc hz1 _).frozen (p := ⟨w.heap.size + 1 + 1, 3, none⟩) (by show w.heap.size + 1 + 1 < _; omega)).trans hw1)
              refine hK.out _ _ (HT.out _ (hHeld.2.grown hgrow (Nat.le_trans (Nat.le_of_lt hsz) hHeld.2.size) (fun j e => by have := (HL.out j e).1; omega))) (fun hHeld => ?_)
              clear hK K
              (try simp only [Act.put, List.setIfInBounds_toArray, List.set_cons_zero, List.set_cons_succ])
              refine wpAnyH_take (i := 10) (oi := ?o17) (v := ?v17) ?a17 (by kernel_rfl) (by kernel_rfl) (by kernel_rfl) ?q17 (Or.inl ⟨?g17, ?y17⟩) (by assumption) ?r17; (case' a17 => (simp only [List.getElem?_toArray, List.getElem?_cons_zero, List.getElem?_cons_succ]; rfl)); (case' q17 => (exact fun _ _ _ h => h)); (case' g17 => rfl); (case' y17 => (intro w hSw; (try dsimp only at hSw); go_simp; try with_reducible rfl)); (case' r17 => (try simp only [Act.put, List.setIfInBounds_toArray, List.set_cons_zero, List.set_cons_succ]))
              refine wpAnyH_ready (rs := [11]) (by kernel_rfl) (by simp) ?_
              refine AllReadyH.cons (o := ?o18) ?a18 (fun K hK => ?s18) ?m18; (case' a18 => (simp only [List.getElem?_toArray, List.getElem?_cons_zero, List.getElem?_cons_succ]; rfl))
              case s18 =>
                go_simp
                refine hK.out _ _ (HT.out _ (hHeld.2.setCell (by show _ ≤ w.heap.size + 1 + 1; omega) _)) (fun hHeld => ?_)
                clear hK K
                (try simp only [Act.put, List.setIfInBounds_toArray, List.set_cons_zero, List.set_cons_succ])
                refine wpAnyH_done (by kernel_rfl) ?_ _
                go_wp2_with fail
                go_roundw
                case rel =>
                  have hnx := bound_next hbel hbn hgrow hown2 hbox.out HR.out hHeld.2 hsz HL.out
                  exact ⟨k + 1, _, by omega, by omega, by go_num, hnx.1, hnx.2.1, hnx.2.2⟩
                case measure => simp [intOf]; omega
              exact AllReadyH.nil
            exact AllReadyH.nil
          exact AllReadyH.nil
        refine AllReadyH.cons (o := ?o19) ?a19 (fun K hK => ?s19) ?m19; (case' a19 => (simp only [List.getElem?_toArray, List.getElem?_cons_zero, List.getElem?_cons_succ]; rfl))
        case s19 =>
          go_simp
          refine hK.out _ _ (HT.out _ (hHeld.2.alloc (Nat.le_trans (Nat.le_of_lt hsz) hHeld.2.size) _)) (fun hHeld => ?_)
          clear hK K
          (try simp only [Act.put, List.setIfInBounds_toArray, List.set_cons_zero, List.set_cons_succ])
          refine wpAnyH_ready (rs := [1]) (by kernel_rfl) (by simp) ?_
          refine AllReadyH.cons (o := ?o20) ?a20 (fun K hK => ?s20) ?m20; (case' a20 => (simp only [List.getElem?_toArray, List.getElem?_cons_zero, List.getElem?_cons_succ]; rfl))
          case s20 =>
            go_simp
            refine hK.out _ _ (hHeld) (fun hHeld => ?_)
            clear hK K
            (try simp only [Act.put, List.setIfInBounds_toArray, List.set_cons_zero, List.set_cons_succ])
            refine wpAnyH_ready (rs := [9]) (by kernel_rfl) (by simp) ?_
            refine AllReadyH.cons (o := ?o21) ?a21 (fun K hK => ?s21) ?m21; (case' a21 => (simp only [List.getElem?_toArray, List.getElem?_cons_zero, List.getElem?_cons_succ]; rfl))
            case s21 =>
              refine step_append_lies _ (by rfl) _ _ _ (by rfl) (w.heap.size + 1 + 1 + 1) 41 i0 _ 4 48 Try.underlying30 hi0 hz0 hz1' hz2 rfl (by omega) V k (rowOf ((l.take k).map R.cut)) (by rfl) ((own_below HO.out (((Below.refl _ _).drew).trans hbn)).alloc _) ⟨wn.heap.size, 0, none⟩ 1 1 [.bool rk, .string (cutS key 80), .bool tb, .string (cutS val 600)] (by rfl) (by rfl) (World.news_of_block (cs := #[.bool rk, .string (cutS key 80), .bool tb, .string (cutS val 600)]) (t := 41) (fr := (0, 0)) (heap_alloc_new wn _)) (by simp [Value.oneCell']) (by omega) hn hnb (by simp; omega) (wn.heap.size + 1) (by simp) ?_
              intro gg cc w2 hown2 hgrow hat hltg
              have hx3 : w2.cell? ⟨w.heap.size + 1 + 1, 3, none⟩ = some V := (hgrow.cell_far ⟨w.heap.size + 1 + 1, 3, none⟩ (by simp; omega) (fun e => Nat.lt_irrefl (w.heap.size + 1 + 1) (HL.out _ e.symm).1)).trans ((World.cell?_alloc_lt _ _ _ hz1).trans hv1)
              have hy3 : w2.frozen? ⟨w.heap.size + 1 + 1, 3, none⟩ = false := (hgrow.frozen_far ⟨w.heap.size + 1 + 1, 3, none⟩ (by simp; omega) (fun e => Nat.lt_irrefl (w.heap.size + 1 + 1) (HL.out _ e.symm).1)).trans ((((Below.refl (w.heap.size + 1 + 1 + 1) wn).alloc hz1 _).frozen (p := ⟨w.heap.size + 1 + 1, 3, none⟩) (by show w.heap.size + 1 + 1 < _; omega)).trans hw1)
              refine hK.out _ _ (HT.out _ (hHeld.2.grown hgrow (Nat.le_trans (Nat.le_of_lt hsz) hHeld.2.size) (fun j e => by have := (HL.out j e).1; omega))) (fun hHeld => ?_)
              clear hK K
              (try simp only [Act.put, List.setIfInBounds_toArray, List.set_cons_zero, List.set_cons_succ])
              refine wpAnyH_take (i := 10) (oi := ?o22) (v := ?v22) ?a22 (by kernel_rfl) (by kernel_rfl) (by kernel_rfl) ?q22 (Or.inl ⟨?g22, ?y22⟩) (by assumption) ?r22; (case' a22 => (simp only [List.getElem?_toArray, List.getElem?_cons_zero, List.getElem?_cons_succ]; rfl)); (case' q22 => (exact fun _ _ _ h => h)); (case' g22 => rfl); (case' y22 => (intro w hSw; (try dsimp only at hSw); go_simp; try with_reducible rfl)); (case' r22 => (try simp only [Act.put, List.setIfInBounds_toArray, List.set_cons_zero, List.set_cons_succ]))
              refine wpAnyH_ready (rs := [11]) (by kernel_rfl) (by simp) ?_
              refine AllReadyH.cons (o := ?o23) ?a23 (fun K hK => ?s23) ?m23; (case' a23 => (simp only [List.getElem?_toArray, List.getElem?_cons_zero, List.getElem?_cons_succ]; rfl))
              case s23 =>
                go_simp
                refine hK.out _ _ (HT.out _ (hHeld.2.setCell (by show _ ≤ w.heap.size + 1 + 1; omega) _)) (fun hHeld => ?_)
                clear hK K
                (try simp only [Act.put, List.setIfInBounds_toArray, List.set_cons_zero, List.set_cons_succ])
                refine wpAnyH_done (by kernel_rfl) ?_ _
                go_wp2_with fail
                go_roundw
                case rel =>
                  have hnx := bound_next hbel hbn hgrow hown2 hbox.out HR.out hHeld.2 hsz HL.out
                  exact ⟨k + 1, _, by omega, by omega, by go_num, hnx.1, hnx.2.1, hnx.2.2⟩
                case measure => simp [intOf]; omega
              exact AllReadyH.nil
            exact AllReadyH.nil
          exact AllReadyH.nil
        exact AllReadyH.nil
      exact AllReadyH.nil
    · obtain ⟨A', cap', rfl⟩ := own_form hown
      have hln := take_len (f := R.cut) hk hk20 (by omega : ¬ (k < l.length ∧ k < 20))
      have HLN := Lib.hid hln
      clear hln
      have m0 : wr.cell? ⟨w.heap.size + 1 + 1, 0, none⟩ = some (.int .i64 p) := (cell_of_row _ _ _ _ _ _ hbox.out).trans rfl
      have m1 : wr.cell? ⟨w.heap.size + 1 + 1, 1, none⟩ = some (.int .i64 e) := (cell_of_row _ _ _ _ _ _ hbox.out).trans rfl
      have m2 : wr.cell? ⟨w.heap.size + 1 + 1, 2, none⟩ = some (.int .i64 q) := (cell_of_row _ _ _ _ _ _ hbox.out).trans rfl
      have m3 : wr.cell? ⟨w.heap.size + 1 + 1, 3, none⟩ = some (.slice A' k cap') := (cell_of_row _ _ _ _ _ _ hbox.out).trans rfl
      have rr : wr.heap[w.heap.size + 1]? = some (.cells #[.int .i64 0, .int .i64 0, .int .i64 0, .slice none 0 0] 60 (0, 0)) := (hbel.block _ (by omega)).trans (by simpa using heap_alloc_new (w.alloc _) _)
      have r0 : wr.cell? ⟨w.heap.size + 1, 0, none⟩ = some (.int .i64 0) := (cell_of_row _ _ _ _ _ _ rr).trans rfl
      have r1 : wr.cell? ⟨w.heap.size + 1, 1, none⟩ = some (.int .i64 0) := (cell_of_row _ _ _ _ _ _ rr).trans rfl
      have r2 : wr.cell? ⟨w.heap.size + 1, 2, none⟩ = some (.int .i64 0) := (cell_of_row _ _ _ _ _ _ rr).trans rfl
      have r3 : wr.cell? ⟨w.heap.size + 1, 3, none⟩ = some (.slice none 0 0) := (cell_of_row _ _ _ _ _ _ rr).trans rfl
      have q0 : wr.frozen? ⟨w.heap.size + 1, 0, none⟩ = false := frozen_of_row _ _ _ _ _ rr
      have q1 : wr.frozen? ⟨w.heap.size + 1, 1, none⟩ = false := frozen_of_row _ _ _ _ _ rr
      have q2 : wr.frozen? ⟨w.heap.size + 1, 2, none⟩ = false := frozen_of_row _ _ _ _ _ rr
      have q3 : wr.frozen? ⟨w.heap.size + 1, 3, none⟩ = false := frozen_of_row _ _ _ _ _ rr
      have HRR := Lib.hid rr
      clear rr
      have hd : (l.length ≤ k) ∨ (k < l.length ∧ 20 ≤ k) := by omega
      rcases hd with hd | ⟨hd1, hd2⟩
      · go_wp2_with fail
        refine bodyPost_ret (v := .agg #[.int .i64 p, .int .i64 e, .int .i64 q, .slice A' k cap']) (results_cell_row (p := 2) (ty := 60) Try.results23 _ _ (w.heap.size + 1) 60 #[.int .i64 p, .int .i64 e, .int .i64 q, .slice A' k cap'] (0, 0) _ rfl ?row1 Try.underlying60 rfl (by kernel_rfl)) rfl ?_
        case row1 => exact heap_setCell_same _ (w.heap.size + 1) 3 _ _ (.slice A' k cap') (heap_setCell_same _ (w.heap.size + 1) 2 _ _ (.int .i64 q) (heap_setCell_same _ (w.heap.size + 1) 1 _ _ (.int .i64 e) (heap_setCell_same _ (w.heap.size + 1) 0 _ _ (.int .i64 p) HRR.out)))
        exact bound_end HLN.out hown hbel0 (by omega)
      · go_wp2_with fail
        refine bodyPost_ret (v := .agg #[.int .i64 p, .int .i64 e, .int .i64 q, .slice A' k cap']) (results_cell_row (p := 2) (ty := 60) Try.results23 _ _ (w.heap.size + 1) 60 #[.int .i64 p, .int .i64 e, .int .i64 q, .slice A' k cap'] (0, 0) _ rfl ?row2 Try.underlying60 rfl (by kernel_rfl)) rfl ?_
        case row2 => exact heap_setCell_same _ (w.heap.size + 1) 3 _ _ (.slice A' k cap') (heap_setCell_same _ (w.heap.size + 1) 2 _ _ (.int .i64 q) (heap_setCell_same _ (w.heap.size + 1) 1 _ _ (.int .i64 e) (heap_setCell_same _ (w.heap.size + 1) 0 _ _ (.int .i64 p) HRR.out)))
        exact bound_end HLN.out hown hbel0 (by omega)

theorem bound_is (p e q : Int) (A : Option Addr) (l L : List R) (cap B : Nat) (w : World) (hR : Hid (ReadsO w B A l)) (hB : B ≤ w.heap.size) (hl : l.length ≤ maxLen) (hs : Hid (∀ r ∈ l, r.key.size ≤ maxLen ∧ r.val.size ≤ maxLen)) (HL : Hid ((l.take 20).map R.cut = L)) :
    Calls Try.prog 23 #[.agg #[.int .i64 p, .int .i64 e, .int .i64 q, .slice A l.length cap]] w (BoundPost p e q L w) := by
  have k := bound_any p e q A l cap B w hR hB hl hs
  rw [HL.out] at k
  exact k
end Go.Proofs.Ytflcggpeflagiaa.L3
