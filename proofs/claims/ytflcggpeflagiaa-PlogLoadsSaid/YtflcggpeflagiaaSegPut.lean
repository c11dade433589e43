/-
  Contracts: a record is put behind all of a segment's.
-/
import Derived.Test.YtflcggpeflagiaaSegClone
import Derived.Test.YtflcggpeflagiaaMText
namespace Go.Proofs.Ytflcggpeflagiaa.L5
open Go.RowKit
open L3 L4

/-- a record's box, its texts told cell by cell -/
theorem box_held {w w' : World} {H : Nat} {rk tb : Bool} {key val : ByteArray} (hr : w'.heap[H]? = some (.cells #[.bool rk, .string key, .bool tb, .string val] 41 (0, 0))) (hb : Below H w w') :
    ((w'.cell? ⟨H, 1, none⟩ = some (.string key) ∧ w'.cell? ⟨H, 3, none⟩ = some (.string val) ∧ w'.frozen? ⟨H, 1, none⟩ = false ∧ w'.frozen? ⟨H, 3, none⟩ = false) ∧ w'.heap[H]? = some (.cells #[.bool rk, .string key, .bool tb, .string val] 41 (0, 0)) ∧ Below H w w') :=
  ⟨⟨(cell_of_row _ _ 1 _ _ _ hr).trans rfl, (cell_of_row _ _ 3 _ _ _ hr).trans rfl, frozen_of_row _ _ _ _ _ hr, frozen_of_row _ _ _ _ _ hr⟩, hr, hb⟩
theorem box_call {w w' w1 : World} {H : Nat} {rk tb : Bool} {key val : ByteArray} (h : ((w'.cell? ⟨H, 1, none⟩ = some (.string key) ∧ w'.cell? ⟨H, 3, none⟩ = some (.string val) ∧ w'.frozen? ⟨H, 1, none⟩ = false ∧ w'.frozen? ⟨H, 3, none⟩ = false) ∧ w'.heap[H]? = some (.cells #[.bool rk, .string key, .bool tb, .string val] 41 (0, 0)) ∧ Below H w w')) (hb : Below w'.heap.size w' w1) :
    ((w1.cell? ⟨H, 1, none⟩ = some (.string key) ∧ w1.cell? ⟨H, 3, none⟩ = some (.string val) ∧ w1.frozen? ⟨H, 1, none⟩ = false ∧ w1.frozen? ⟨H, 3, none⟩ = false) ∧ w1.heap[H]? = some (.cells #[.bool rk, .string key, .bool tb, .string val] 41 (0, 0)) ∧ Below H w w1) :=
  have hlt := (Array.getElem?_eq_some_iff.1 h.2.1).1
  box_held ((hb.block _ hlt).trans h.2.1) (h.2.2.trans (hb.mono (Nat.le_of_lt hlt)))
theorem box_set1 {w w' : World} {H : Nat} {rk tb : Bool} {key val : ByteArray} (h : ((w'.cell? ⟨H, 1, none⟩ = some (.string key) ∧ w'.cell? ⟨H, 3, none⟩ = some (.string val) ∧ w'.frozen? ⟨H, 1, none⟩ = false ∧ w'.frozen? ⟨H, 3, none⟩ = false) ∧ w'.heap[H]? = some (.cells #[.bool rk, .string key, .bool tb, .string val] 41 (0, 0)) ∧ Below H w w')) :
    (((w'.setCell ⟨H, 1, none⟩ (.string key)).cell? ⟨H, 1, none⟩ = some (.string key) ∧ (w'.setCell ⟨H, 1, none⟩ (.string key)).cell? ⟨H, 3, none⟩ = some (.string val) ∧ (w'.setCell ⟨H, 1, none⟩ (.string key)).frozen? ⟨H, 1, none⟩ = false ∧ (w'.setCell ⟨H, 1, none⟩ (.string key)).frozen? ⟨H, 3, none⟩ = false) ∧ (w'.setCell ⟨H, 1, none⟩ (.string key)).heap[H]? = some (.cells #[.bool rk, .string key, .bool tb, .string val] 41 (0, 0)) ∧ Below H w (w'.setCell ⟨H, 1, none⟩ (.string key))) :=
  box_held (heap_setCell_same _ _ 1 _ _ _ h.2.1) (h.2.2.setCell (Nat.le_refl _) _)
theorem box_set3 {w w' : World} {H : Nat} {rk tb : Bool} {key val : ByteArray} (h : ((w'.cell? ⟨H, 1, none⟩ = some (.string key) ∧ w'.cell? ⟨H, 3, none⟩ = some (.string val) ∧ w'.frozen? ⟨H, 1, none⟩ = false ∧ w'.frozen? ⟨H, 3, none⟩ = false) ∧ w'.heap[H]? = some (.cells #[.bool rk, .string key, .bool tb, .string val] 41 (0, 0)) ∧ Below H w w')) :
    (((w'.setCell ⟨H, 3, none⟩ (.string val)).cell? ⟨H, 1, none⟩ = some (.string key) ∧ (w'.setCell ⟨H, 3, none⟩ (.string val)).cell? ⟨H, 3, none⟩ = some (.string val) ∧ (w'.setCell ⟨H, 3, none⟩ (.string val)).frozen? ⟨H, 1, none⟩ = false ∧ (w'.setCell ⟨H, 3, none⟩ (.string val)).frozen? ⟨H, 3, none⟩ = false) ∧ (w'.setCell ⟨H, 3, none⟩ (.string val)).heap[H]? = some (.cells #[.bool rk, .string key, .bool tb, .string val] 41 (0, 0)) ∧ Below H w (w'.setCell ⟨H, 3, none⟩ (.string val))) :=
  box_held (heap_setCell_same _ _ 3 _ _ _ h.2.1) (h.2.2.setCell (Nat.le_refl _) _)

/-- behind an append to what a segment has -/
theorem grown_row {W w2 : World} {g n cap : Nat} {A : Option Addr} {o : Obj} {row : Array Value} {T : TypeId} (hr : W.heap[g]? = some (.cells row T (0, 0))) (hgrow : (W.drew.alloc o).grownBy w2 (Value.slice A n cap).ownBlock) (hne : blk A ≠ some g) :
    w2.heap[g]? = some (.cells row T (0, 0)) :=
  (hgrow.block g (by have := (Array.getElem?_eq_some_iff.1 hr).1; simp; omega) (fun e => hne (by rw [ownBlock_blk] at e; exact e.symm))).trans ((Below.heap_alloc _ _ _ (Array.getElem?_eq_some_iff.1 hr).1).trans hr)
theorem But.alloc {g : Nat} {h : Option Nat} {w w1 : World} (a : But g h w w1) (o : Obj) : But g h w (w1.alloc o) :=
  a.trans (.ofBelow (h := none) ((Below.refl _ _).alloc (Nat.le_refl _) o)) (fun k e => by cases e)
theorem but_grown {W w2 : World} {g n cap : Nat} {A : Option Addr} {o : Obj} (hgrow : (W.drew.alloc o).grownBy w2 (Value.slice A n cap).ownBlock) : But g (blk A) W w2 := by
  rw [ownBlock_blk] at hgrow
  exact (But.ofBelow ((Below.refl _ W).drew.alloc (Nat.le_refl _) o)).trans (.ofGrown hgrow) (fun k e => .inl e)
theorem put_step {T : TypeId} {w W w2 : World} {g n : Nat} {A : Option Addr} {cap : Nat} {base next : Int} {L : List L4.Fd} {x : L4.Fd} {gg cc : Nat} (h : Seg T w g A cap base next L) (hn : L.length = n) (hb : Below w.heap.size w W)
    (hbut : But g (blk A) W (w2.setCell ⟨g, 2, none⟩ (.slice (some ⟨gg, 0, none⟩) (n + 1) cc))) (hrow : w2.heap[g]? = some (.cells #[.int .i64 base, .int .i64 next, .slice A n cap] T (0, 0)))
    (ho : w2.ownsRow 0 43 5 (.slice (some ⟨gg, 0, none⟩) (n + 1) cc) (n + 1) (rowF L ++ [.int .i64 x.o, .bool x.r.hk, .string x.r.key, .bool x.r.tb, .string x.r.val])) (hat : (Value.slice A n cap).ownBlock = some gg ∨ gg = W.heap.size + 1) :
    Step T w g A base next (L ++ [x]) (w2.setCell ⟨g, 2, none⟩ (.slice (some ⟨gg, 0, none⟩) (n + 1) cc)) := by
  subst hn
  have hs := h.below hb
  have hg := hs.lt
  rw [ownBlock_blk] at hat
  have hne : blk (some (⟨gg, 0, none⟩ : Addr)) ≠ some g := by
    rcases hat with e | e
    · intro q; exact h.ne (by rw [e]; exact q)
    · intro q; injection q with q; dsimp only at q; omega
  have hl : L.length + 1 = (L ++ [x]).length := by simp
  have hf : rowF L ++ [.int .i64 x.o, .bool x.r.hk, .string x.r.key, .bool x.r.tb, .string x.r.val] = rowF (L ++ [x]) := by rw [rowF_app]; rfl
  rw [hf, hl] at ho
  have := hs.setL (w1 := w2) (hrow.trans hs.row.symm) ho hne
  rw [← hl] at this
  refine ⟨some ⟨gg, 0, none⟩, cc, ?_, ?_, ?_⟩
  · rw [hl] at this ⊢; exact this
  · exact (But.ofBelow hb).trans hbut (fun k e => .inl e)
  · intro k e
    rcases hat with q | q
    · left; rw [q]; exact e
    · right; injection e with e; dsimp only at e; have := hb.size; omega

set_option maxRecDepth 100000 in
set_option maxHeartbeats 4000000 in
theorem put_is {T : TypeId} {w : World} {g : Nat} {A : Option Addr} {cap : Nat} {base next : Int} {L : List L4.Fd} (o : Int) (rk : Bool) (key : ByteArray) (tb : Bool) (val : ByteArray) (n : Nat) (hn : L.length = n) (h : Hid (Seg T w g A cap base next L)) (hl : n ≤ 1000) (h1 : key.size ≤ 281474976710656) (h2 : val.size ≤ 281474976710656) :
    Calls Try.prog 53 #[.pointer (some ⟨g, 0, none⟩), .int .i64 o, .agg #[.bool rk, .string key, .bool tb, .string val]] w fun e w' => e = .returned (.tuple #[]) ∧ Step T w g A base next (L ++ [⟨o, ⟨rk, key, tb, val⟩⟩]) w' := by
  go_enter Try.func53, Try.ntmps53
  go_wp2_with fail
  have hS := box_held (H := w.heap.size) (w := w) (w' := (w.alloc (.cells #[.bool rk, .string key, .bool tb, .string val] 41)).drew) (heap_alloc_new _ _) (one_box _).drew
  go_region_held3 (fun w' => ((w'.cell? ⟨w.heap.size, 1, none⟩ = some (.string key) ∧ w'.cell? ⟨w.heap.size, 3, none⟩ = some (.string val) ∧ w'.frozen? ⟨w.heap.size, 1, none⟩ = false ∧ w'.frozen? ⟨w.heap.size, 3, none⟩ = false) ∧ w'.heap[w.heap.size]? = some (.cells #[.bool rk, .string key, .bool tb, .string val] 41 (0, 0)) ∧ Below w.heap.size w w'))
    (first
      | with_reducible assumption
      | exact box_call (by assumption) (by assumption)
      | exact box_set1 (by assumption)
      | exact box_set3 (by assumption))
    (first
      | (go_at_call 67; (first | (with_reducible refine (clone_any key _ h1).mono ?_) | (with_reducible refine (clone_any val _ h2).mono ?_)); rintro e w1 ⟨rfl, hb1⟩))
  rename_i hh
  generalize (World.setCell _ _ _).setCell _ _ = W at hh ⊢
  obtain ⟨-, hr, hb⟩ := hh
  have hs := h.out.below hb
  have HR := Lib.hid hs.row
  have HO := Lib.hid hs.own
  have c2 := hs.c2
  have hg := hs.lt
  have hgw := h.out.lt
  have hbw := h.out.blkLt
  have HNE := Lib.hid hs.ne
  rw [hn] at c2 HR HO
  have HSEG := h
  have HN := Lib.hid hn
  have hH := (Array.getElem?_eq_some_iff.1 hr).1
  have e0 := (cell_of_row _ _ 0 _ _ _ hr).trans rfl
  have e1 := (cell_of_row _ _ 1 _ _ _ hr).trans rfl
  have e2 := (cell_of_row _ _ 2 _ _ _ hr).trans rfl
  have e3 := (cell_of_row _ _ 3 _ _ _ hr).trans rfl
  obtain ⟨i0, hi0, hz0, hz1, hz2⟩ := info_parts fdInfo
  have hT : ∀ w', But g (blk A) W w' → (w'.cell? ⟨w.heap.size, 0, none⟩ = some (.bool rk) ∧ w'.cell? ⟨w.heap.size, 1, none⟩ = some (.string key) ∧ w'.cell? ⟨w.heap.size, 2, none⟩ = some (.bool tb) ∧ w'.cell? ⟨w.heap.size, 3, none⟩ = some (.string val)) ∧ But g (blk A) W w' := fun w' q =>
    ⟨⟨q.cell e0 (by show w.heap.size ≠ g; omega) (fun e => by have := hbw w.heap.size e.symm; omega), q.cell e1 (by show w.heap.size ≠ g; omega) (fun e => by have := hbw w.heap.size e.symm; omega), q.cell e2 (by show w.heap.size ≠ g; omega) (fun e => by have := hbw w.heap.size e.symm; omega), q.cell e3 (by show w.heap.size ≠ g; omega) (fun e => by have := hbw w.heap.size e.symm; omega)⟩, q⟩
  have HT := Lib.hid hT
  clear hT hS hr hs e0 e1 e2 e3 hn hbw
  go_wp2_with fail
  refine wp_region_held_drew (S := fun w' => (w'.cell? ⟨w.heap.size, 0, none⟩ = some (.bool rk) ∧ w'.cell? ⟨w.heap.size, 1, none⟩ = some (.string key) ∧ w'.cell? ⟨w.heap.size, 2, none⟩ = some (.bool tb) ∧ w'.cell? ⟨w.heap.size, 3, none⟩ = some (.string val)) ∧ But g (blk A) W w') (by kernel_rfl) (HT.out _ (But.ofBelow (Below.refl _ _).drew)) (fun hHeld => ?_)
  refine wpAnyH_take (i := 0) (oi := ?o1) (v := ?v1) ?a1 (by kernel_rfl) (by kernel_rfl) (by kernel_rfl) ?q1 (Or.inl ⟨?g1, ?y1⟩) (by assumption) ?r1; (case' a1 => (simp only [List.getElem?_toArray, List.getElem?_cons_zero]; rfl)); (case' q1 => (exact fun _ _ _ h => h)); (case' g1 => rfl); (case' y1 => (intro w hSw; (try dsimp only at hSw); go_simp; try with_reducible rfl)); (case' r1 => (try simp only [Act.put, List.setIfInBounds_toArray, List.set_cons_zero, List.set_cons_succ]))
  refine wpAnyH_take (i := 1) (oi := ?o2) (v := ?v2) ?a2 (by kernel_rfl) (by kernel_rfl) (by kernel_rfl) ?q2 (Or.inl ⟨?g2, ?y2⟩) (by assumption) ?r2; (case' a2 => (simp only [List.getElem?_toArray, List.getElem?_cons_zero, List.getElem?_cons_succ]; rfl)); (case' q2 => (exact fun _ _ _ h => h)); (case' g2 => rfl); (case' y2 => (intro w hSw; (try dsimp only at hSw); go_simp; try with_reducible rfl)); (case' r2 => (try simp only [Act.put, List.setIfInBounds_toArray, List.set_cons_zero, List.set_cons_succ]))
  refine wpAnyH_take (i := 2) (oi := ?o3) (v := ?v3) ?a3 (by kernel_rfl) (by kernel_rfl) (by kernel_rfl) ?q3 (Or.inl ⟨?g3, ?y3⟩) (by assumption) ?r3; (case' a3 => (simp only [List.getElem?_toArray, List.getElem?_cons_zero, List.getElem?_cons_succ]; rfl)); (case' q3 => (exact fun _ _ _ h => h)); (case' g3 => rfl); (case' y3 => (intro w hSw; (try dsimp only at hSw); go_simp; try with_reducible rfl)); (case' r3 => (try simp only [Act.put, List.setIfInBounds_toArray, List.set_cons_zero, List.set_cons_succ]))
  refine wpAnyH_take (i := 3) (oi := ?o4) (v := ?v4) ?a4 (by kernel_rfl) (by kernel_rfl) (by kernel_rfl) ?q4 (Or.inl ⟨?g4, ?y4⟩) (by assumption) ?r4; (case' a4 => (simp only [List.getElem?_toArray, List.getElem?_cons_zero, List.getElem?_cons_succ]; rfl)); (case' q4 => (exact fun _ _ _ h => h)); (case' g4 => rfl); (case' y4 => (intro w hSw; (try dsimp only at hSw); go_simp; try with_reducible rfl)); (case' r4 => (try simp only [Act.put, List.setIfInBounds_toArray, List.set_cons_zero, List.set_cons_succ]))
  refine wpAnyH_take (i := 5) (oi := ?o5) (v := ?v5) ?a5 (by kernel_rfl) (by kernel_rfl) (by kernel_rfl) ?q5 (Or.inl ⟨?g5, ?y5⟩) (by assumption) ?r5; (case' a5 => (simp only [List.getElem?_toArray, List.getElem?_cons_zero, List.getElem?_cons_succ]; rfl)); (case' q5 => (exact fun _ _ _ h => h)); (case' g5 => rfl); (case' y5 => (intro w hSw; (try dsimp only at hSw); go_simp; try with_reducible rfl)); (case' r5 => (try simp only [Act.put, List.setIfInBounds_toArray, List.set_cons_zero, List.set_cons_succ]))
  refine wpAnyH_take (i := 6) (oi := ?o6) (v := ?v6) ?a6 (by kernel_rfl) (by kernel_rfl) (by kernel_rfl) ?q6 (Or.inl ⟨?g6, ?y6⟩) (by assumption) ?r6; (case' a6 => (simp only [List.getElem?_toArray, List.getElem?_cons_zero, List.getElem?_cons_succ]; rfl)); (case' q6 => (exact fun _ _ _ h => h)); (case' g6 => rfl); (case' y6 => (intro w hSw; (try dsimp only at hSw); go_simp; try with_reducible rfl)); (case' r6 => (try simp only [Act.put, List.setIfInBounds_toArray, List.set_cons_zero, List.set_cons_succ]))
  refine wpAnyH_take (i := 7) (oi := ?o7) (v := ?v7) ?a7 (by kernel_rfl) (by kernel_rfl) (by kernel_rfl) ?q7 (Or.inl ⟨?g7, ?y7⟩) (by assumption) ?r7; (case' a7 => (simp only [List.getElem?_toArray, List.getElem?_cons_zero, List.getElem?_cons_succ]; rfl)); (case' q7 => (exact fun _ _ _ h => h)); (case' g7 => rfl); (case' y7 => (intro w hSw; (try dsimp only at hSw); go_simp; try with_reducible rfl)); (case' r7 => (try simp only [Act.put, List.setIfInBounds_toArray, List.set_cons_zero, List.set_cons_succ]))
  refine wpAnyH_ready (rs := [4, 8]) (by kernel_rfl) (by simp) ?_
  refine AllReadyH.cons (o := ?o8) ?a8 (fun K hK => ?s8) ?m8; (case' a8 => (simp only [List.getElem?_toArray, List.getElem?_cons_zero, List.getElem?_cons_succ]; rfl))
  case s8 =>
    go_simp
    refine hK.out _ _ (hHeld) (fun hHeld => ?_)
    clear hK K
    (try simp only [Act.put, List.setIfInBounds_toArray, List.set_cons_zero, List.set_cons_succ])
    refine wpAnyH_ready (rs := [8]) (by kernel_rfl) (by simp) ?_
    refine AllReadyH.cons (o := ?o9) ?a9 (fun K hK => ?s9) ?m9; (case' a9 => (simp only [List.getElem?_toArray, List.getElem?_cons_zero, List.getElem?_cons_succ]; rfl))
    case s9 =>
      go_simp
      refine hK.out _ _ (HT.out _ (hHeld.2.alloc _)) (fun hHeld => ?_)
      clear hK K
      (try simp only [Act.put, List.setIfInBounds_toArray, List.set_cons_zero, List.set_cons_succ])
      refine wpAnyH_ready (rs := [9]) (by kernel_rfl) (by simp) ?_
      refine AllReadyH.cons (o := ?o10) ?a10 (fun K hK => ?s10) ?m10; (case' a10 => (simp only [List.getElem?_toArray, List.getElem?_cons_zero, List.getElem?_cons_succ]; rfl))
      case s10 =>
        refine step_append_lies _ (by rfl) _ _ _ (by rfl) 0 43 i0 _ 5 56 Try.underlying36 hi0 hz0 hz1 hz2 rfl (by omega) (.slice A n cap) n (rowF L) (by rfl) ((own_below HO.out (Below.refl _ _).drew).alloc _) ⟨W.heap.size, 0, none⟩ 1 1 [.int .i64 o, .bool rk, .string key, .bool tb, .string val] (by rfl) (by rfl) (World.news_of_block (cs := #[.int .i64 o, .bool rk, .string key, .bool tb, .string val]) (t := 43) (fr := (0, 0)) (heap_alloc_new W.drew _)) (by simp [Value.oneCell']) (by omega) (by unfold maxLen; omega) (by omega) (Nat.zero_le _) (W.heap.size + 1) (by simp) ?_
        intro gg cc w2 hown2 hgrow hat hltg
        have hrow := grown_row HR.out hgrow HNE.out
        have x2 := (cell_of_row _ _ 2 _ _ _ hrow).trans rfl
        have y2 := frozen_of_row _ _ 2 _ _ hrow
        have HROW := Lib.hid hrow
        clear hrow
        refine hK.out _ _ (HT.out _ (but_grown hgrow)) (fun hHeld => ?_)
        clear hK K
        (try simp only [Act.put, List.setIfInBounds_toArray, List.set_cons_zero, List.set_cons_succ])
        refine wpAnyH_take (i := 10) (oi := ?o11) (v := ?v11) ?a11 (by kernel_rfl) (by kernel_rfl) (by kernel_rfl) ?q11 (Or.inl ⟨?g11, ?y11⟩) (by assumption) ?r11; (case' a11 => (simp only [List.getElem?_toArray, List.getElem?_cons_zero, List.getElem?_cons_succ]; rfl)); (case' q11 => (exact fun _ _ _ h => h)); (case' g11 => rfl); (case' y11 => (intro w hSw; (try dsimp only at hSw); go_simp; try with_reducible rfl)); (case' r11 => (try simp only [Act.put, List.setIfInBounds_toArray, List.set_cons_zero, List.set_cons_succ]))
        refine wpAnyH_take (i := 11) (oi := ?o12) (v := ?v12) ?a12 (by kernel_rfl) (by kernel_rfl) (by kernel_rfl) ?q12 (Or.inl ⟨?g12, ?y12⟩) (by assumption) ?r12; (case' a12 => (simp only [List.getElem?_toArray, List.getElem?_cons_zero, List.getElem?_cons_succ]; rfl)); (case' q12 => (exact fun _ _ _ h => h)); (case' g12 => rfl); (case' y12 => (intro w hSw; (try dsimp only at hSw); go_simp; try with_reducible rfl)); (case' r12 => (try simp only [Act.put, List.setIfInBounds_toArray, List.set_cons_zero, List.set_cons_succ]))
        refine wpAnyH_ready (rs := [12]) (by kernel_rfl) (by simp) ?_
        refine AllReadyH.cons (o := ?o13) ?a13 (fun K hK => ?s13) ?m13; (case' a13 => (simp only [List.getElem?_toArray, List.getElem?_cons_zero, List.getElem?_cons_succ]; rfl))
        case s13 =>
          go_simp
          refine hK.out _ _ (HT.out _ (hHeld.2.setCell (.inl rfl) _)) (fun hHeld => ?_)
          clear hK K
          (try simp only [Act.put, List.setIfInBounds_toArray, List.set_cons_zero, List.set_cons_succ])
          refine wpAnyH_done (by kernel_rfl) ?_ _
          go_wp2_with fail
          go_end0
          exact ⟨rfl, put_step HSEG.out HN.out hb hHeld.2 HROW.out hown2 hat⟩
        exact AllReadyH.nil
      exact AllReadyH.nil
    exact AllReadyH.nil
  refine AllReadyH.cons (o := ?o14) ?a14 (fun K hK => ?s14) ?m14; (case' a14 => (simp only [List.getElem?_toArray, List.getElem?_cons_zero, List.getElem?_cons_succ]; rfl))
  case s14 =>
    go_simp
    refine hK.out _ _ (HT.out _ (hHeld.2.alloc _)) (fun hHeld => ?_)
    clear hK K
    (try simp only [Act.put, List.setIfInBounds_toArray, List.set_cons_zero, List.set_cons_succ])
    refine wpAnyH_ready (rs := [4]) (by kernel_rfl) (by simp) ?_
    refine AllReadyH.cons (o := ?o15) ?a15 (fun K hK => ?s15) ?m15; (case' a15 => (simp only [List.getElem?_toArray, List.getElem?_cons_zero, List.getElem?_cons_succ]; rfl))
    case s15 =>
      go_simp
      refine hK.out _ _ (hHeld) (fun hHeld => ?_)
      clear hK K
      (try simp only [Act.put, List.setIfInBounds_toArray, List.set_cons_zero, List.set_cons_succ])
      refine wpAnyH_ready (rs := [9]) (by kernel_rfl) (by simp) ?_
      refine AllReadyH.cons (o := ?o16) ?a16 (fun K hK => ?s16) ?m16; (case' a16 => (simp only [List.getElem?_toArray, List.getElem?_cons_zero, List.getElem?_cons_succ]; rfl))
      case s16 =>
        refine step_append_lies _ (by rfl) _ _ _ (by rfl) 0 43 i0 _ 5 56 Try.underlying36 hi0 hz0 hz1 hz2 rfl (by omega) (.slice A n cap) n (rowF L) (by rfl) ((own_below HO.out (Below.refl _ _).drew).alloc _) ⟨W.heap.size, 0, none⟩ 1 1 [.int .i64 o, .bool rk, .string key, .bool tb, .string val] (by rfl) (by rfl) (World.news_of_block (cs := #[.int .i64 o, .bool rk, .string key, .bool tb, .string val]) (t := 43) (fr := (0, 0)) (heap_alloc_new W.drew _)) (by simp [Value.oneCell']) (by omega) (by unfold maxLen; omega) (by omega) (Nat.zero_le _) (W.heap.size + 1) (by simp) ?_
        intro gg cc w2 hown2 hgrow hat hltg
        have hrow := grown_row HR.out hgrow HNE.out
        have x2 := (cell_of_row _ _ 2 _ _ _ hrow).trans rfl
        have y2 := frozen_of_row _ _ 2 _ _ hrow
        have HROW := Lib.hid hrow
        clear hrow
        refine hK.out _ _ (HT.out _ (but_grown hgrow)) (fun hHeld => ?_)
        clear hK K
        (try simp only [Act.put, List.setIfInBounds_toArray, List.set_cons_zero, List.set_cons_succ])
        refine wpAnyH_take (i := 10) (oi := ?o17) (v := ?v17) ?a17 (by kernel_rfl) (by kernel_rfl) (by kernel_rfl) ?q17 (Or.inl ⟨?g17, ?y17⟩) (by assumption) ?r17; (case' a17 => (simp only [List.getElem?_toArray, List.getElem?_cons_zero, List.getElem?_cons_succ]; rfl)); (case' q17 => (exact fun _ _ _ h => h)); (case' g17 => rfl); (case' y17 => (intro w hSw; (try dsimp only at hSw); go_simp; try with_reducible rfl)); (case' r17 => (try simp only [Act.put, List.setIfInBounds_toArray, List.set_cons_zero, List.set_cons_succ]))
        refine wpAnyH_take (i := 11) (oi := ?o18) (v := ?v18) ?a18 (by kernel_rfl) (by kernel_rfl) (by kernel_rfl) ?q18 (Or.inl ⟨?g18, ?y18⟩) (by assumption) ?r18; (case' a18 => (simp only [List.getElem?_toArray, List.getElem?_cons_zero, List.getElem?_cons_succ]; rfl)); (case' q18 => (exact fun _ _ _ h => h)); (case' g18 => rfl); (case' y18 => (intro w hSw; (try dsimp only at hSw); go_simp; try with_reducible rfl)); (case' r18 => (try simp only [Act.put, List.setIfInBounds_toArray, List.set_cons_zero, List.set_cons_succ]))
        refine wpAnyH_ready (rs := [12]) (by kernel_rfl) (by simp) ?_
        refine AllReadyH.cons (o := ?o19) ?a19 (fun K hK => ?s19) ?m19; (case' a19 => (simp only [List.getElem?_toArray, List.getElem?_cons_zero, List.getElem?_cons_succ]; rfl))
        case s19 =>
          go_simp
          refine hK.out _ _ (HT.out _ (hHeld.2.setCell (.inl rfl) _)) (fun hHeld => ?_)
          clear hK K
          (try simp only [Act.put, List.setIfInBounds_toArray, List.set_cons_zero, List.set_cons_succ])
          refine wpAnyH_done (by kernel_rfl) ?_ _
          go_wp2_with fail
          go_end0
          exact ⟨rfl, put_step HSEG.out HN.out hb hHeld.2 HROW.out hown2 hat⟩
        exact AllReadyH.nil
      exact AllReadyH.nil
    exact AllReadyH.nil
  exact AllReadyH.nil
end Go.Proofs.Ytflcggpeflagiaa.L5
