/-
  The document's log: records are put behind all.
-/
import Derived.Test.YtflcggpeflagiaaMPlRef
import Derived.Deep.DeepCutAuto
import Derived.Deep.CutBlock
namespace Go.Proofs.Ytflcggpeflagiaa.L6
open Go.RowKit
open L3 L4 L5

theorem only_grown {W W' : World} {row : Option Nat} (h : W.grownBy W' row) : Only row.toList W W' :=
  ⟨h.os, h.tape, h.output, h.size, fun j hj hn => h.block j hj (fun e => hn (by rw [← e]; simp))⟩
theorem rowS_app (a b : List Sa) : rowS (a ++ b) = rowS a ++ rowS b := by simp [rowS]
theorem rowS_set (ss : List Sa) (j : Nat) (r : Sa) (h : j < ss.length) : (((rowS ss).set (j * 3) (.int .i64 r.b)).set (j * 3 + 1) (.int .i64 r.n)).set (j * 3 + 2) (.slice r.A r.L.length r.c) = rowS (ss.set j r) := by
  induction ss generalizing j with
  | nil => simp at h
  | cons a t ih =>
    cases j with
    | zero => rfl
    | succ j =>
      have := ih j (by simpa using h)
      rw [show (j + 1) * 3 = j * 3 + 1 + 1 + 1 by omega]
      show Value.int .i64 a.b :: Value.int .i64 a.n :: Value.slice a.A a.L.length a.c :: (((rowS t).set (j * 3) _).set (j * 3 + 1) _).set (j * 3 + 2) _ = _
      rw [this]; rfl
theorem set_last {α : Type} (i : List α) (x y : α) : (i ++ [x]).set i.length y = i ++ [y] := by
  rw [List.set_append_right _ _ (Nat.le_refl _), Nat.sub_self]; rfl
/-- what a log is on its way, ahead of its last segment's turn -/
structure AppI (W wc : World) (room kb : Nat) (D : List Nat) (rs : List R) (l : List Sg) (en : Int) (Q' : Option Addr) (cap' : Nat) (ss' : List Sa) (s' : Sa) (j : Nat) : Prop where
  it : RetI W wc room kb D Q' cap' ss'
  at_ : ss'[j]? = some s'
  len : ss'.length = j + 1
  nx : s'.n = en
  fits : s'.L.length + rs.length ≤ room
  app : appL room rs l = (ss'.map Sa.s).set j ⟨s'.b, en + rs.length, s'.L ++ numbered en rs⟩
theorem split_last {ss : List Sa} {j : Nat} {s : Sa} (h : ss[j]? = some s) (hl : ss.length = j + 1) : ∃ i, ss = i ++ [s] ∧ i.length = j := by
  refine ⟨ss.take j, ?_, by rw [List.length_take]; omega⟩
  have e : ss.take (j + 1) = ss := List.take_of_length_le (by omega)
  conv => lhs; rw [← e]
  rw [List.take_add_one, h]; rfl
theorem app_stay {room : Nat} {rs : List R} {ss : List Sa} {j : Nat} {s : Sa} {en : Int} (h : ss[j]? = some s) (hl : ss.length = j + 1) (hn : s.n = en) (hf : s.L.length + rs.length ≤ room) :
    appL room rs (ss.map Sa.s) = (ss.map Sa.s).set j ⟨s.b, en + rs.length, s.L ++ numbered en rs⟩ := by
  obtain ⟨i, rfl, rfl⟩ := split_last h hl
  subst hn
  rw [List.map_append, List.map_singleton, app_snoc, if_neg (by show ¬ room < s.L.length + rs.length; omega)]
  have e : (i.map Sa.s).length = i.length := List.length_map ..
  rw [← e, set_last]; rfl
theorem app_grow {room : Nat} {rs : List R} {ss : List Sa} {j : Nat} {s : Sa} {en : Int} (h : ss[j]? = some s) (hl : ss.length = j + 1) (hn : s.n = en) (hf : room < s.L.length + rs.length) :
    appL room rs (ss.map Sa.s) = ((ss ++ [(⟨en, en, none, 0, []⟩ : Sa)]).map Sa.s).set (j + 1) ⟨en, en + rs.length, [] ++ numbered en rs⟩ := by
  obtain ⟨i, rfl, rfl⟩ := split_last h hl
  subst hn
  rw [List.map_append, List.map_append, List.map_singleton, List.map_singleton, app_snoc, if_pos (by show room < s.L.length + rs.length; omega)]
  have e : (i.map Sa.s ++ [s.s]).length = i.length + 1 := by simp
  rw [List.map_append, List.map_singleton, ← e, set_last]; rfl
theorem RetI.step {W wr w' : World} {room kb cap cap2 : Nat} {D : List Nat} {Q Q2 : Option Addr} {ss ss2 : List Sa} (h : RetI W wr room kb D Q cap ss) (q : RLog w' room kb Q2 cap2 ss2 ∧ Only (rblocks kb Q ss) wr w' ∧ New (rblocks kb Q ss) wr (rblocks kb Q2 ss2)) : RetI W w' room kb D Q2 cap2 ss2 :=
  ⟨q.1, h.only.trans q.2.1 (fun j hj => h.new j hj), fun j hj => by
    rcases q.2.2 j hj with e | e
    · exact h.new j e
    · exact .inr (Nat.le_trans h.only.size e)⟩
theorem RetI.grow {W wb w3 : World} {room kb cap N g2 c2 qb : Nat} {D : List Nat} {ss : List Sa} {sn : Int} {o : Obj} (h : RetI W wb room kb D (some ⟨qb, 0, none⟩) cap ss) (hN : ss.length = N) (ho : w3.ownsRow 0 53 3 (.slice (some ⟨g2, 0, none⟩) (N + 1) c2) (N + 1) (rowS ss ++ [.int .i64 sn, .int .i64 sn, .slice none 0 0])) (hg : (wb.alloc o).grownBy w3 (some qb)) (hat : some qb = some g2 ∨ g2 = (wb.alloc o).heap.size) :
    RetI W (w3.setCell ⟨kb, 1, none⟩ (.slice (some ⟨g2, 0, none⟩) (N + 1) c2)) room kb D (some ⟨g2, 0, none⟩) c2 (ss ++ [⟨sn, sn, none, 0, []⟩]) ∧ w3.cell? ⟨kb, 1, none⟩ = some (.slice (some ⟨qb, 0, none⟩) N cap) ∧ w3.frozen? ⟨kb, 1, none⟩ = false := by
  have ho3 : Only [qb] wb w3 := (Only.ofBelow (one_box _)).trans (only_grown hg) (fun j hj => .inl hj)
  have hnk : kb ∉ [qb] := fun e => h.log.ne (by rw [List.mem_singleton.1 e]; rfl)
  have hat' : ∀ j, blk (some (⟨g2, 0, none⟩ : Addr)) = some j → blk (some (⟨qb, 0, none⟩ : Addr)) = some j ∨ wb.heap.size ≤ j := fun j e => by
    have e' : g2 = j := by injection e
    rcases hat with q | q
    · left
      show some qb = some j
      rw [q, e']
    · right
      rw [World.size_alloc] at q
      omega
  have x1 := h.log.c1
  rw [hN] at x1
  exact ⟨h.step (h.log.put (ss' := ss ++ [⟨sn, sn, none, 0, []⟩]) ho3 (by simp [hN]) (by rw [rowS_app]; exact ho) hat' (fun r hr => (List.mem_append.1 hr).elim (fun q => .inl q) (fun q => .inr (by rw [List.mem_singleton.1 q]; exact ⟨World.ownsRow_nil _ _ _ _, fun j e => by cases e⟩)))),
    ho3.cell (p := ⟨kb, 1, none⟩) x1 hnk, frozen_of_row _ _ _ _ _ ((ho3.block kb h.log.kLt hnk).trans h.log.row)⟩
/-- the copy of the last segment, and what else there was -/
structure BoxI (wc wr : World) (g : Nat) (A' : Option Addr) : Prop where
  below : Below wc.heap.size wc wr
  g0 : wc.heap.size ≤ g
  a0 : ∀ j, blk A' = some j → wc.heap.size ≤ j
theorem box_step {wc wr w' : World} {g : Nat} {A' A2 : Option Addr} (h : BoxI wc wr g A') (b : But g (blk A') wr w') (n : ∀ k, blk A2 = some k → blk A' = some k ∨ wr.heap.size ≤ k) : BoxI wc w' g A2 :=
  ⟨h.below.trans (b.below h.below.size h.g0 h.a0), h.g0, fun j e => by
    rcases n j e with q | q
    · exact h.a0 j q
    · have := h.below.size; omega⟩
theorem box_made {wc w3 : World} {A3 : Option Addr} {c3 l2 : Nat} {base next : Int} {L : List L4.Fd} (hl : L.length = l2) (ho : w3.ownsRow wc.heap.size 43 5 (.slice A3 l2 c3) l2 (rowF L)) (hb : Below wc.heap.size wc w3) :
    Seg 53 (w3.alloc (.cells #[.int .i64 base, .int .i64 next, .slice A3 l2 c3] 53)) w3.heap.size A3 c3 base next L ∧ BoxI wc (w3.alloc (.cells #[.int .i64 base, .int .i64 next, .slice A3 l2 c3] 53)) w3.heap.size A3 := by
  subst hl
  have hb2 := own_blkLt ho
  exact ⟨⟨heap_alloc_new _ _, (own_low ho (Nat.zero_le _)).alloc _, fun e => by have := (hb2 _ e).2; omega⟩, hb.trans ((Below.refl _ _).alloc hb.size _), hb.size, fun j e => (hb2 j e).1⟩
theorem app_done {W wc W5 : World} {room kb cap2 qb sc2 j2 g cap' ll : Nat} {D : List Nat} {rs : List R} {l : List Sg} {ss2 : List Sa} {A2 A' : Option Addr} {base next nn : Int} {L : List L4.Fd} (h : AppI W wc room kb D rs l next (some ⟨qb, 0, none⟩) cap2 ss2 ⟨base, next, A2, sc2, L⟩ j2) (hb : Below wc.heap.size wc W5) (hs : Seg 53 W5 g A' cap' base nn (L ++ numbered next rs)) (a0 : ∀ j, blk A' = some j → wc.heap.size ≤ j) (hn : nn = next + rs.length) (hll : (L ++ numbered next rs).length = ll) :
    RStep W room kb D (appL room rs l) (((W5.drew.setCell ⟨qb, j2 * 3, none⟩ (.int .i64 base)).setCell ⟨qb, j2 * 3 + 1, none⟩ (.int .i64 nn)).setCell ⟨qb, j2 * 3 + 2, none⟩ (.slice A' ll cap')) := by
  subst hn hll
  have hqb : qb < wc.heap.size := h.it.log.lt qb (mem_rblocks.2 (.inr (.inl rfl)))
  have hj : j2 < ss2.length := by have := h.len; omega
  have b0 : Below wc.heap.size wc W5.drew := hb.drew
  have ho := own_below h.it.log.own b0
  have ho3 := ((ho.stored (j2 * 3) (.int .i64 base)).1.stored (j2 * 3 + 1) (.int .i64 (next + rs.length))).1.stored (j2 * 3 + 2) (.slice A' (L ++ numbered next rs).length cap')
  have e := rowS_set ss2 j2 ⟨base, next + rs.length, A', cap', L ++ numbered next rs⟩ hj
  dsimp only at e
  have ho4 := ho3.1
  rw [e] at ho4
  have o : Only [qb] wc _ := (((Only.ofBelow (S := [qb]) b0).setCell (p := ⟨qb, j2 * 3, none⟩) (.inl (by simp)) (.int .i64 base)).setCell (p := ⟨qb, j2 * 3 + 1, none⟩) (.inl (by simp)) (.int .i64 (next + rs.length))).setCell (p := ⟨qb, j2 * 3 + 2, none⟩) (.inl (by simp)) (.slice A' (L ++ numbered next rs).length cap')
  have hres := h.it.step (h.it.log.rowed (ss' := ss2.set j2 ⟨base, next + rs.length, A', cap', L ++ numbered next rs⟩) o (List.length_set ..) rfl ho4 (fun r hr => by
    rcases List.mem_or_eq_of_mem_set hr with q | rfl
    · exact .inl q
    · refine .inr ⟨own_at hs.own (fun j e => ?_), fun j e => ⟨a0 j e, fun e2 => ?_⟩⟩
      · rw [ownBlock_blk] at e
        have := a0 j e
        rw [Below.heap_setCell _ _ _ _ (by show j ≠ qb; omega), Below.heap_setCell _ _ _ _ (by show j ≠ qb; omega), Below.heap_setCell _ _ _ _ (by show j ≠ qb; omega)]
        rfl
      · have q1 := a0 j e
        have q2 : qb = j := by injection e2
        omega))
  exact ⟨_, _, _, by rw [List.map_set, h.app]; rfl, hres.log, hres.only, hres.new⟩
def AppD (W : World) (room k : Nat) (D : List Nat) (l : List Sg) (rs : List R) (x : Int) (e : Ending) (W' : World) : Prop :=
  (x ≠ 0 ∧ e = .returned (.tuple #[.int .i64 0, .int .i64 x]) ∧ Below W.heap.size W W') ∨ (x = 0 ∧ e = .returned (.tuple #[.int .i64 (endL l), .int .i64 0]) ∧ RStep W room k D (appL room rs l) W')
theorem app_nil (room : Nat) {l : List Sg} (h : GoodL room l) : appL room [] l = l := by
  obtain ⟨i, s, rfl⟩ := last_split h.ne
  have := h.few s (by simp)
  rw [app_snoc, if_neg (by simp; omega)]
  simp [numbered]

set_option maxRecDepth 100000 in
set_option maxHeartbeats 8000000 in
theorem rappend6_is {W : World} {room kb cap : Nat} {Q : Option Addr} {ss : List Sa} (X : Option Addr) (rs : List R) (n xc B N : Nat) (x : Int) (h : Hid (RLog W room kb Q cap ss)) (G : Hid (GoodL room (ss.map Sa.s))) (hN : ss.length = N) (hN1 : N + 1 ≤ 1000)
    (hR : Hid (Reads W B X rs)) (hX : Hid (∀ j, blk X = some j → j ∉ rblocks kb Q ss)) (hB : B ≤ W.heap.size) (hn : rs.length = n) (hrl : n ≤ 1000000) (hs : Hid (∀ r ∈ rs, r.key.size ≤ maxLen ∧ r.val.size ≤ maxLen)) (HX : Hid (appE room (ss.map Sa.s) rs = x)) :
    Calls Try.prog 9 #[.pointer (some ⟨kb, 0, none⟩), .slice X n xc] W (AppD W room kb (rblocks kb Q ss) (ss.map Sa.s) rs x) := by
  obtain ⟨D, hD⟩ : ∃ D, rblocks kb Q ss = D := ⟨_, rfl⟩
  obtain ⟨l, hl⟩ : ∃ l, ss.map Sa.s = l := ⟨_, rfl⟩
  obtain ⟨en, hen⟩ : ∃ en, endL l = en := ⟨_, rfl⟩
  rw [hD] at hX ⊢
  rw [hl] at G HX ⊢
  have h0 : 0 < N := by have := G.out.ne; rw [← hl, List.length_map, hN] at this; exact this
  obtain ⟨e0, e1⟩ := good_end G.out
  rw [hen] at e0 e1
  have r64 := G.out.r64
  have HEN : Hid (endL (ss.map Sa.s) = en) := Lib.hid (by rw [hl, hen])
  have HI : Hid (RetI W W room kb D Q cap ss) := Lib.hid ⟨h.out, Only.refl _ _, fun j hj => .inl (by rw [← hD]; exact hj)⟩
  have HN := Lib.hid hN
  have HNR := Lib.hid hn
  have HEL := Lib.hid hen
  have HLL := Lib.hid hl
  clear hN hn hD hl hen
  go_enter Try.func9, Try.ntmps9
  go_wp2_with fail
  go_loopw [6] (fun i wr => ∃ k : Nat, k ≤ n ∧ i = .int .i64 k ∧ Below W.heap.size W wr ∧ Hid (chkL (rs.drop k) = chkL rs)) (fun i _ => n - (intOf i).toNat)
  case atStart => exact ⟨0, by omega, rfl, Below.refl _ _, Lib.hid (by simp)⟩
  case round =>
    obtain ⟨k, hk, rfl, hbel, hC⟩ := hrel
    by_cases hlt : k < n
    · obtain ⟨b, rfl, hb, hcells⟩ := hR.out (by rw [HNR.out]; omega)
      obtain ⟨⟨rk, key, tb, val⟩, hr⟩ : ∃ s, rs[k]? = some s := ⟨_, List.getElem?_eq_getElem (by rw [HNR.out]; exact hlt)⟩
      obtain ⟨q1, q2⟩ := hs.out _ (List.mem_of_getElem? hr)
      have Q1 := Lib.hid q1
      have Q2 := Lib.hid q2
      obtain ⟨c0, c1, c2, c3⟩ := hcells k _ hr
      have d0 := (hbel.cell (p := ⟨b, k * 4, none⟩) (by show b < _; omega)).trans c0
      have d1 := (hbel.cell (p := ⟨b, k * 4 + 1, none⟩) (by show b < _; omega)).trans c1
      have d2 := (hbel.cell (p := ⟨b, k * 4 + 2, none⟩) (by show b < _; omega)).trans c2
      have d3 := (hbel.cell (p := ⟨b, k * 4 + 3, none⟩) (by show b < _; omega)).trans c3
      have k0 : (0 : Int) ≤ (k : Int) := by omega
      have k1 : (k : Int) < (n : Int) := by omega
      obtain ⟨y, hy⟩ : ∃ y, chk rk key tb val = y := ⟨_, rfl⟩
      have hnext := chkL_next hr hy
      have HY := Lib.hid hy
      clear c0 c1 c2 c3 hcells hr hy q1 q2
      dsimp only at d0 d1 d2 d3 Q1 Q2
      by_cases hy0 : y = 0
      · subst hy0
        have hC' : Hid (chkL (rs.drop (k + 1)) = chkL rs) := Lib.hid ((hnext.2 rfl).symm.trans hC.out)
        clear hnext
        go_wp2_with (go_at_call 30; refine (refcheck_any _ _ _ _ _ Q1.out Q2.out).mono ?_; rw [HY.out]; rintro e w1 ⟨rfl, hb1⟩)
        go_roundw
        case rel => exact ⟨k + 1, by omega, by go_num, hbel.trans (hb1.mono hbel.size), hC'⟩
        case measure => simp [intOf]; omega
      · have hy1 : (y != 0) = true := by simpa using hy0
        have hx : x = y := by
          rw [← HX.out]; unfold L6.appE
          rw [← hC.out, hnext.1 hy0, if_pos hy0]
        subst hx
        have HN0 := Lib.hid hy0
        clear hnext hy0
        go_wp2_with (go_at_call 30; refine (refcheck_any _ _ _ _ _ Q1.out Q2.out).mono ?_; rw [HY.out]; rintro e w1 ⟨rfl, hb1⟩)
        go_ret2
        exact .inl ⟨HN0.out, rfl, hbel.trans (hb1.mono hbel.size)⟩
    · obtain rfl : k = n := by omega
      have hc0 : chkL rs = 0 := by have := hC.out; rw [List.drop_of_length_le (by rw [HNR.out]; exact Nat.le_refl _)] at this; exact this.symm
      have hx := HX.out
      unfold L6.appE at hx
      rw [if_neg (by rw [hc0]; simp), HNR.out, HEL.out] at hx
      have c0 := (h.out.below hbel).c0
      have w2 : wrap64 (en + (k : Int)) = en + (k : Int) := by simp only [wrap64]; omega
      clear hC hc0
      by_cases hf1 : room < k
      · rw [if_pos hf1] at hx
        subst hx
        have hf : (room : Int) < (k : Int) := by omega
        go_wp2_with (go_at_call 31; refine (rend6_is N en (Lib.hid (h.out.below hbel)) HN.out h0 (by omega) HEN).mono ?_; rintro e w1 ⟨rfl, hb1⟩; have x0 := keep_cell c0 hb1)
        go_ret2
        exact .inl ⟨by decide, rfl, acc hbel hb1⟩
      · rw [if_neg hf1] at hx
        have hf : ¬ (room : Int) < (k : Int) := by omega
        by_cases hf2 : 1099511627776 < en + (k : Int)
        · rw [if_pos hf2] at hx
          subst hx
          go_wp2_with (go_at_call 31; refine (rend6_is N en (Lib.hid (h.out.below hbel)) HN.out h0 (by omega) HEN).mono ?_; rintro e w1 ⟨rfl, hb1⟩; have x0 := keep_cell c0 hb1)
          go_ret2
          exact .inl ⟨by decide, rfl, acc hbel hb1⟩
        · rw [if_neg hf2] at hx
          subst hx
          by_cases hz : k = 0
          · have hnil : rs = [] := List.eq_nil_of_length_eq_zero (by rw [HNR.out, hz])
            have hk0 : ((k : Int) == 0) = true := by simpa using hz
            have HAP : Hid (appL room rs l = l) := Lib.hid (by rw [hnil]; exact app_nil room G.out)
            clear hz hnil
            go_wp2_with (go_at_call 31; refine (rend6_is N en (Lib.hid (h.out.below hbel)) HN.out h0 (by omega) HEN).mono ?_; rintro e w1 ⟨rfl, hb1⟩; have x0 := keep_cell c0 hb1)
            go_ret2
            refine .inr ⟨rfl, by rw [HEL.out]; rfl, ?_⟩
            rw [HAP.out]
            exact ⟨Q, cap, ss, HLL.out, HI.out.log.below (acc hbel hb1), Only.ofBelow (acc hbel hb1), HI.out.new⟩
          · have hk0 : ((k : Int) == 0) = false := by simpa using hz
            have kp : 0 < k := by omega
            clear hz
            obtain ⟨j, hj⟩ : ∃ j, j + 1 = N := ⟨N - 1, by omega⟩
            obtain ⟨⟨sb, sn, sA, sc, sL⟩, hsg⟩ : ∃ s, ss[j]? = some s := ⟨_, List.getElem?_eq_getElem (by rw [HN.out]; omega)⟩
            have hsn : sn = en := by
              have e : (ss.map Sa.s)[(ss.map Sa.s).length - 1]? = some ⟨sb, sn, sL⟩ := by rw [List.length_map, List.getElem?_map, show ss.length - 1 = j by rw [HN.out]; omega, hsg]; rfl
              rw [← HEN.out, end_is e]
            subst hsn
            obtain ⟨ls, hls⟩ : ∃ ls, sL.length = ls := ⟨_, rfl⟩
            have hls64 : ls ≤ 64 := by rw [← hls]; exact Nat.le_trans (G.out.few ⟨sb, sn, sL⟩ (by rw [← HLL.out]; exact List.mem_map_of_mem (f := Sa.s) (List.mem_of_getElem? hsg))) r64
            obtain ⟨bb, hbb⟩ : ∃ bb, decide ((room : Int) < (ls : Int) + (k : Int)) = bb := ⟨_, rfl⟩
            have w3 : wrap64 ((ls : Int) + (k : Int)) = (ls : Int) + (k : Int) := by simp only [wrap64]; omega
            have w4 : wrap64 ((N : Int) - 1) = (j : Int) := by simp only [wrap64]; omega
            have w5 : (N : Int) - 1 = (j : Int) := by omega
            have j0 : (0 : Int) ≤ (j : Int) := by omega
            have j1 : (j : Int) < (N : Int) := by omega
            have HBB := Lib.hid hbb
            have HJ := Lib.hid hj
            have HLS := Lib.hid hls
            have HSG := Lib.hid hsg
            clear hj hls hsg
            go_upto_region 14 with (go_at_call 31; refine (rend6_is N sn (Lib.hid (h.out.below hbel)) HN.out h0 (by omega) HEN).mono ?_; rintro e w1 ⟨rfl, hb1⟩; have x0 := keep_cell c0 hb1)
            obtain ⟨wa, rfl⟩ : ∃ wa, wa = w1 := ⟨_, rfl⟩
            have HIA : Hid (RetI W wa room kb D Q cap ss) := Lib.hid ⟨HI.out.log.below (acc hbel hb1), Only.ofBelow (acc hbel hb1), HI.out.new⟩
            obtain ⟨qb, hqb, hqw, hnc, hcells⟩ := HIA.out.log.form (by rw [HN.out]; omega)
            subst hqb
            have x1 := HIA.out.log.c1
            obtain ⟨_, _, d2⟩ := hcells j _ HSG.out
            rw [HN.out] at x1 hnc
            dsimp only at d2
            rw [HLS.out] at d2
            clear hcells hb1 hbel c0
            go_quiet (fail)
            obtain ⟨wb, hwb⟩ : ∃ wb, wa.drewN nq = wb := ⟨_, rfl⟩
            have HIB : Hid (RetI W wb room kb D (some ⟨qb, 0, none⟩) cap ss) := Lib.hid (by
              have hb : Below wa.heap.size wa wb := by rw [← hwb]; exact drewN_below (Below.refl _ _) _
              exact ⟨HIA.out.log.below hb, HIA.out.only.trans (S' := []) (Only.ofBelow hb) (fun j hj => by cases hj), HIA.out.new⟩)
            rw [hwb]
            have kroom : k ≤ room := by omega
            clear hwb HIA x0 x1 d2 w3 w4 w5 hqw hf hf1 hf2 hk0
            go_upto_if 65 with fail
            go_cut [8] (fun ev wc => ev = .int .i64 sn ∧ ∃ (Q2 : Option Addr) (cap2 n2 j2 : Nat) (ss2 : List Sa) (s2 : Sa), j2 + 1 = n2 ∧ n2 ≤ 1000 ∧ Hid (AppI W wc room kb D rs l sn Q2 cap2 ss2 s2 j2))
            case' first =>
              cases bb
              · have hfit : ls + k ≤ room := by have := of_decide_eq_false HBB.out; omega
                go_wp2_with fail
                go_meet
                exact ⟨rfl, some ⟨qb, 0, none⟩, cap, N, j, ss, ⟨sb, sn, sA, sc, sL⟩, HJ.out, by omega, Lib.hid ⟨HIB.out, HSG.out, by rw [HN.out]; exact HJ.out.symm, rfl, by rw [HNR.out]; show sL.length + k ≤ room; rw [HLS.out]; exact hfit, by rw [← HLL.out]; exact app_stay HSG.out (by rw [HN.out]; exact HJ.out.symm) rfl (by rw [HNR.out]; show sL.length + k ≤ room; rw [HLS.out]; exact hfit)⟩⟩
              · have hfit : room < ls + k := by have := of_decide_eq_true HBB.out; omega
                obtain ⟨i1, hi1, hy0, hy1, hy2⟩ := info_parts segInfo
                have x1 := HIB.out.log.c1
                rw [HN.out] at x1
                have hkw := HIB.out.log.kLt
                have HOW := Lib.hid HIB.out.log.own
                rw [HN.out] at HOW
                have HX1 := Lib.hid x1
                have n1000 : N ≤ 999 := by omega
                go_wp2_with (at_builtin; refine wpList_append_lies _ rfl _ _ 51 (by rfl) 0 53 i1 _ 3 40 Try.underlying51 hi1 hy0 hy1 hy2 rfl (by omega) _ N (rowS ss) (by rfl) (HOW.out.alloc _) ⟨wb.heap.size, 0, none⟩ 1 1 [.int .i64 sn, .int .i64 sn, .slice none 0 0] (by rfl) (by rfl) (World.news_of_block (cs := #[.int .i64 sn, .int .i64 sn, .slice none 0 0]) (t := 53) (fr := (0, 0)) (heap_alloc_new wb _)) (by simp [Value.oneCell']) (by omega) (by unfold maxLen; omega) (by omega) (Nat.zero_le _) _ rfl ?_; intro g2 c2 w3 hown3 hgrow3 hat3 hlt3; obtain ⟨q1, x1, y1⟩ := HIB.out.grow HN.out hown3 hgrow3 hat3; have HGR := Lib.hid q1; clear hown3 hgrow3 hat3 hlt3 q1)
                go_meet
                exact ⟨rfl, _, _, N + 1, j + 1, ss ++ [⟨sn, sn, none, 0, []⟩], ⟨sn, sn, none, 0, []⟩, by have := HJ.out; omega, by omega, Lib.hid ⟨HGR.out, by rw [List.getElem?_append_right (by rw [HN.out]; have := HJ.out; omega), HN.out, HJ.out, Nat.sub_self]; rfl, by rw [List.length_append, HN.out, HJ.out]; rfl, rfl, by rw [HNR.out]; show 0 + k ≤ room; omega, by rw [← HLL.out]; exact app_grow HSG.out (by rw [HN.out]; exact HJ.out.symm) rfl (by rw [HNR.out]; show room < sL.length + k; rw [HLS.out]; exact hfit)⟩⟩
            case' rest =>
              obtain ⟨rfl, Q2, cap2, n2, j2, ss2, s2, hj2, hn2, HAI⟩ := hcut
              obtain ⟨base, sn2, A2, sc2, L⟩ := s2
              obtain rfl : sn2 = sn := HAI.out.nx
              obtain ⟨m, rfl⟩ : ∃ m, m = k := ⟨_, rfl⟩
              obtain ⟨next, rfl⟩ : ∃ next, next = sn2 := ⟨_, rfl⟩
              have hit := HAI.out.it
              have hle2 : ss2.length = n2 := by rw [HAI.out.len, hj2]
              obtain ⟨qb2, rfl, hqw, hnc2, hcells⟩ := hit.log.form (by omega)
              obtain ⟨d0, d1, d2⟩ := hcells j2 _ HAI.out.at_
              have x1 := hit.log.c1
              rw [hle2] at x1 hnc2
              dsimp only at d0 d1 d2
              obtain ⟨l2, hl2⟩ : ∃ l2, L.length = l2 := ⟨_, rfl⟩
              have hf2 := HAI.out.fits
              dsimp only at hf2
              rw [HNR.out, hl2] at hf2
              rw [hl2] at d2
              have HO2 : Hid (wc.ownsRow 0 43 5 (.slice A2 l2 sc2) l2 (rowF L)) := Lib.hid (by have := (hit.log.recs _ (List.mem_of_getElem? HAI.out.at_)).1; dsimp only at this; rwa [hl2] at this)
              have HL2 := Lib.hid hl2
              have HJ2 := Lib.hid hj2
              have w4 : wrap64 ((n2 : Int) - 1) = (j2 : Int) := by simp only [wrap64]; omega
              have w5 : (n2 : Int) - 1 = (j2 : Int) := by omega
              have i0 : (0 : Int) ≤ (j2 : Int) := by omega
              have i1 : (j2 : Int) < (n2 : Int) := by omega
              have l64 : l2 ≤ 1000 := by omega
              clear hcells hit hle2 hl2 hj2
              go_upto_region 18 with (go_at_call 32; refine (rseg6_is base next A2 l2 sc2 L HO2 l64).mono ?_; rintro e w3 ⟨A3, c3, rfl, ho3, hb3⟩; have HO3 := Lib.hid ho3; have HB3 := Lib.hid hb3; clear ho3 hb3)
              obtain ⟨hsg4, hbx4⟩ := box_made (base := base) (next := next) HL2.out HO3.out HB3.out
              have HS4 := Lib.hid hsg4
              have HX4 := Lib.hid hbx4
              have HRC : Hid (Reads wc B X rs) := Lib.hid (reads_only hR.out HAI.out.it.only hX.out)
              have hBc : B ≤ wc.heap.size := Nat.le_trans hB HAI.out.it.only.size
              clear hsg4 hbx4 d0 d1 d2 x1 w4 w5 HO3 HB3 HO2
              generalize w3.alloc (.cells #[.int .i64 base, .int .i64 next, .slice A3 l2 c3] 53) = W4 at HS4 HX4 ⊢
              generalize w3.heap.size = g at HS4 HX4 ⊢
              go_wp2_with fail
              go_loopw [11] (fun i wr => ∃ (k : Nat) (A' : Option Addr) (cap' : Nat), k ≤ m ∧ i = .int .i64 k ∧ Hid (Seg 53 wr g A' cap' base next (L ++ numbered next (rs.take k))) ∧ Hid (BoxI wc wr g A')) (fun i _ => m - (intOf i).toNat)
              case atStart => exact ⟨0, A3, c3, by omega, rfl, Lib.hid (by simpa [numbered] using HS4.out), HX4⟩
              case round =>
                obtain ⟨k, A', cap', hk, rfl, hseg, HBX⟩ := hrel
                obtain ⟨n, hn⟩ : ∃ n, l2 + k = n := ⟨_, rfl⟩
                have hlen : (L ++ numbered next (rs.take k)).length = n := by rw [List.length_append, numbered_len, List.length_take, HNR.out, HL2.out]; omega
                have HN := Lib.hid hlen
                have c2 := hseg.out.c2
                rw [hlen] at c2
                clear hlen
                by_cases hlt : k < m
                · have hR2 := HRC.out.below (HBX.out.below.mono hBc)
                  obtain ⟨b, rfl, hb, hcells⟩ := hR2 (by rw [HNR.out]; omega)
                  obtain ⟨⟨rk, key, tb, val⟩, hr⟩ : ∃ s, rs[k]? = some s := ⟨_, List.getElem?_eq_getElem (by rw [HNR.out]; exact hlt)⟩
                  obtain ⟨d0, d1, d2, d3⟩ := hcells k _ hr
                  have k0 : (0 : Int) ≤ (k : Int) := by omega
                  have k1 : (k : Int) < (m : Int) := by omega
                  have HR := Lib.hid hr
                  have e1 : IntKind.i64.wrap (next + (k : Int)) = next + (k : Int) := by rw [IntKind.wrap_i64]; omega
                  have hn130 : n ≤ 130 := by omega
                  dsimp only at d0 d1 d2 d3
                  have HR2 := Lib.hid hseg.out.row
                  have HO := Lib.hid hseg.out.own
                  have HNE := Lib.hid hseg.out.ne
                  have hgw := hseg.out.lt
                  rw [HN.out] at HR2 HO
                  obtain ⟨i0, hi0, hz0, hz1, hz2⟩ := info_parts fdInfo
                  have hbg : b ≠ g := by have := HBX.out.g0; omega
                  have hbA : some b ≠ blk A' := fun e => by
                    have := HBX.out.a0 b e.symm; omega
                  have hT : ∀ w', But g (blk A') wr w' → (w'.cell? ⟨b, k * 4, none⟩ = some (.bool rk) ∧ w'.cell? ⟨b, k * 4 + 1, none⟩ = some (.string key) ∧ w'.cell? ⟨b, k * 4 + 2, none⟩ = some (.bool tb) ∧ w'.cell? ⟨b, k * 4 + 3, none⟩ = some (.string val)) ∧ But g (blk A') wr w' := fun w' q => ⟨⟨q.cell d0 hbg hbA, q.cell d1 hbg hbA, q.cell d2 hbg hbA, q.cell d3 hbg hbA⟩, q⟩
                  have HT := Lib.hid hT
                  clear hcells hr hR2 hT hbg hbA hn
                  go_wp2_with fail
                  refine wp_region_held_drew (S := fun w' => (w'.cell? ⟨b, k * 4, none⟩ = some (.bool rk) ∧ w'.cell? ⟨b, k * 4 + 1, none⟩ = some (.string key) ∧ w'.cell? ⟨b, k * 4 + 2, none⟩ = some (.bool tb) ∧ w'.cell? ⟨b, k * 4 + 3, none⟩ = some (.string val)) ∧ But g (blk A') wr w') (by kernel_rfl) (HT.out _ (But.ofBelow (Below.refl _ _).drew)) (fun hHeld => ?_)
                  refine wpAnyH_take (i := 0) (oi := ?o1) (v := ?v1) ?a1 (by kernel_rfl) (by kernel_rfl) (by kernel_rfl) ?q1 (Or.inl ⟨?g1, ?y1⟩) (by assumption) ?r1; (case' a1 => (simp only [List.getElem?_toArray, List.getElem?_cons_zero]; rfl)); (case' q1 => (exact fun _ _ _ h => h)); (case' g1 => rfl); (case' y1 => (intro w hSw; (try dsimp only at hSw); go_simp; try with_reducible rfl)); (case' r1 => (try simp only [Act.put, List.setIfInBounds_toArray, List.set_cons_zero, List.set_cons_succ]))
                  refine wpAnyH_take (i := 2) (oi := ?o2) (v := ?v2) ?a2 (by kernel_rfl) (by kernel_rfl) (by kernel_rfl) ?q2 (Or.inl ⟨?g2, ?y2⟩) (by assumption) ?r2; (case' a2 => (simp only [List.getElem?_toArray, List.getElem?_cons_zero, List.getElem?_cons_succ]; rfl)); (case' q2 => (exact fun _ _ _ h => h)); (case' g2 => rfl); (case' y2 => (intro w hSw; (try dsimp only at hSw); go_simp; try with_reducible rfl)); (case' r2 => (try simp only [Act.put, List.setIfInBounds_toArray, List.set_cons_zero, List.set_cons_succ]))
                  refine wpAnyH_take (i := 3) (oi := ?o3) (v := ?v3) ?a3 (by kernel_rfl) (by kernel_rfl) (by kernel_rfl) ?q3 (Or.inl ⟨?g3, ?y3⟩) (by assumption) ?r3; (case' a3 => (simp only [List.getElem?_toArray, List.getElem?_cons_zero, List.getElem?_cons_succ]; rfl)); (case' q3 => (exact fun _ _ _ h => h)); (case' g3 => rfl); (case' y3 => (intro w hSw; (try dsimp only at hSw); go_simp; try with_reducible rfl)); (case' r3 => (try simp only [Act.put, List.setIfInBounds_toArray, List.set_cons_zero, List.set_cons_succ]))
                  refine wpAnyH_take (i := 4) (oi := ?o4) (v := ?v4) ?a4 (by kernel_rfl) (by kernel_rfl) (by kernel_rfl) ?q4 (Or.inl ⟨?g4, ?y4⟩) (by assumption) ?r4; (case' a4 => (simp only [List.getElem?_toArray, List.getElem?_cons_zero, List.getElem?_cons_succ]; rfl)); (case' q4 => (exact fun _ _ _ h => h)); (case' g4 => rfl); (case' y4 => (intro w hSw; (try dsimp only at hSw); go_simp; try with_reducible rfl)); (case' r4 => (try simp only [Act.put, List.setIfInBounds_toArray, List.set_cons_zero, List.set_cons_succ]))
                  refine wpAnyH_take (i := 5) (oi := ?o5) (v := ?v5) ?a5 (by kernel_rfl) (by kernel_rfl) (by kernel_rfl) ?q5 (Or.inl ⟨?g5, ?y5⟩) (by assumption) ?r5; (case' a5 => (simp only [List.getElem?_toArray, List.getElem?_cons_zero, List.getElem?_cons_succ]; rfl)); (case' q5 => (exact fun _ _ _ h => h)); (case' g5 => rfl); (case' y5 => (intro w hSw; (try dsimp only at hSw); go_simp; try with_reducible rfl)); (case' r5 => (try simp only [Act.put, List.setIfInBounds_toArray, List.set_cons_zero, List.set_cons_succ]))
                  refine wpAnyH_take (i := 6) (oi := ?o6) (v := ?v6) ?a6 (by kernel_rfl) (by kernel_rfl) (by kernel_rfl) ?q6 (Or.inl ⟨?g6, ?y6⟩) (by assumption) ?r6; (case' a6 => (simp only [List.getElem?_toArray, List.getElem?_cons_zero, List.getElem?_cons_succ]; rfl)); (case' q6 => (exact fun _ _ _ h => h)); (case' g6 => rfl); (case' y6 => (intro w hSw; (try dsimp only at hSw); go_simp; try with_reducible rfl)); (case' r6 => (try simp only [Act.put, List.setIfInBounds_toArray, List.set_cons_zero, List.set_cons_succ]))
                  refine wpAnyH_take (i := 7) (oi := ?o7) (v := ?v7) ?a7 (by kernel_rfl) (by kernel_rfl) (by kernel_rfl) ?q7 (Or.inl ⟨?g7, ?y7⟩) (by assumption) ?r7; (case' a7 => (simp only [List.getElem?_toArray, List.getElem?_cons_zero, List.getElem?_cons_succ]; rfl)); (case' q7 => (exact fun _ _ _ h => h)); (case' g7 => rfl); (case' y7 => (intro w hSw; (try dsimp only at hSw); go_simp; try with_reducible rfl)); (case' r7 => (try simp only [Act.put, List.setIfInBounds_toArray, List.set_cons_zero, List.set_cons_succ]))
                  refine wpAnyH_take (i := 8) (oi := ?o8) (v := ?v8) ?a8 (by kernel_rfl) (by kernel_rfl) (by kernel_rfl) ?q8 (Or.inl ⟨?g8, ?y8⟩) (by assumption) ?r8; (case' a8 => (simp only [List.getElem?_toArray, List.getElem?_cons_zero, List.getElem?_cons_succ]; rfl)); (case' q8 => (exact fun _ _ _ h => h)); (case' g8 => rfl); (case' y8 => (intro w hSw; (try dsimp only at hSw); go_simp; try with_reducible rfl)); (case' r8 => (try simp only [Act.put, List.setIfInBounds_toArray, List.set_cons_zero, List.set_cons_succ]))
                  refine wpAnyH_take (i := 9) (oi := ?o9) (v := ?v9) ?a9 (by kernel_rfl) (by kernel_rfl) (by kernel_rfl) ?q9 (Or.inl ⟨?g9, ?y9⟩) (by assumption) ?r9; (case' a9 => (simp only [List.getElem?_toArray, List.getElem?_cons_zero, List.getElem?_cons_succ]; rfl)); (case' q9 => (exact fun _ _ _ h => h)); (case' g9 => rfl); (case' y9 => (intro w hSw; (try dsimp only at hSw); go_simp; try with_reducible rfl)); (case' r9 => (try simp only [Act.put, List.setIfInBounds_toArray, List.set_cons_zero, List.set_cons_succ]))
                  refine wpAnyH_ready (rs := [1, 10]) (by kernel_rfl) (by simp) ?_
                  refine AllReadyH.cons (o := ?o10) ?a10 (fun K hK => ?s10) ?m10; (case' a10 => (simp only [List.getElem?_toArray, List.getElem?_cons_zero, List.getElem?_cons_succ]; rfl))
                  case s10 =>
                    go_simp
                    refine hK.out _ _ (hHeld) (fun hHeld => ?_)
                    clear hK K
                    (try simp only [Act.put, List.setIfInBounds_toArray, List.set_cons_zero, List.set_cons_succ])
                    refine wpAnyH_ready (rs := [10]) (by kernel_rfl) (by simp) ?_
                    refine AllReadyH.cons (o := ?o11) ?a11 (fun K hK => ?s11) ?m11; (case' a11 => (simp only [List.getElem?_toArray, List.getElem?_cons_zero, List.getElem?_cons_succ]; rfl))
                    case s11 =>
                      go_simp
                      refine hK.out _ _ (HT.out _ (hHeld.2.alloc _)) (fun hHeld => ?_)
                      clear hK K
                      (try simp only [Act.put, List.setIfInBounds_toArray, List.set_cons_zero, List.set_cons_succ])
                      refine wpAnyH_ready (rs := [11]) (by kernel_rfl) (by simp) ?_
                      refine AllReadyH.cons (o := ?o12) ?a12 (fun K hK => ?s12) ?m12; (case' a12 => (simp only [List.getElem?_toArray, List.getElem?_cons_zero, List.getElem?_cons_succ]; rfl))
                      case s12 =>
                        refine step_append_lies _ (by rfl) _ _ _ (by rfl) 0 43 i0 _ 5 56 Try.underlying36 hi0 hz0 hz1 hz2 rfl (by omega) (.slice A' n cap') n (rowF (L ++ numbered next (rs.take k))) (by rfl) ((own_below HO.out (Below.refl _ _).drew).alloc _) ⟨wr.heap.size, 0, none⟩ 1 1 [.int .i64 (next + k), .bool rk, .string key, .bool tb, .string val] (by rfl) (by rfl) (World.news_of_block (cs := #[.int .i64 (next + k), .bool rk, .string key, .bool tb, .string val]) (t := 43) (fr := (0, 0)) (heap_alloc_new wr.drew _)) (by simp [Value.oneCell']) (by omega) (by unfold maxLen; omega) (by omega) (Nat.zero_le _) (wr.heap.size + 1) (by simp) ?_
                        intro gg cc w2 hown2 hgrow hat hltg
                        have hrow := grown_row HR2.out hgrow HNE.out
                        have x2 := (cell_of_row _ _ 2 _ _ _ hrow).trans rfl
                        have y2 := frozen_of_row _ _ 2 _ _ hrow
                        have HROW := Lib.hid hrow
                        clear hrow
                        refine hK.out _ _ (HT.out _ (but_grown hgrow)) (fun hHeld => ?_)
                        clear hK K
                        (try simp only [Act.put, List.setIfInBounds_toArray, List.set_cons_zero, List.set_cons_succ])
                        refine wpAnyH_take (i := 12) (oi := ?o13) (v := ?v13) ?a13 (by kernel_rfl) (by kernel_rfl) (by kernel_rfl) ?q13 (Or.inl ⟨?g13, ?y13⟩) (by assumption) ?r13; (case' a13 => (simp only [List.getElem?_toArray, List.getElem?_cons_zero, List.getElem?_cons_succ]; rfl)); (case' q13 => (exact fun _ _ _ h => h)); (case' g13 => rfl); (case' y13 => (intro w hSw; (try dsimp only at hSw); go_simp; try with_reducible rfl)); (case' r13 => (try simp only [Act.put, List.setIfInBounds_toArray, List.set_cons_zero, List.set_cons_succ]))
                        refine wpAnyH_ready (rs := [13]) (by kernel_rfl) (by simp) ?_
                        refine AllReadyH.cons (o := ?o14) ?a14 (fun K hK => ?s14) ?m14; (case' a14 => (simp only [List.getElem?_toArray, List.getElem?_cons_zero, List.getElem?_cons_succ]; rfl))
                        case s14 =>
                          go_simp
                          refine hK.out _ _ (HT.out _ (hHeld.2.setCell (.inl rfl) _)) (fun hHeld => ?_)
                          clear hK K
                          (try simp only [Act.put, List.setIfInBounds_toArray, List.set_cons_zero, List.set_cons_succ])
                          refine wpAnyH_done (by kernel_rfl) ?_ _
                          have hst := put_step (x := ⟨next + k, ⟨rk, key, tb, val⟩⟩) hseg.out HN.out (Below.refl _ _) hHeld.2 HROW.out hown2 hat
                          have HST := Lib.hid hst
                          clear hst hHeld
                          go_wp2_with fail
                          go_roundw
                          case rel =>
                            obtain ⟨A2, c2, s1, s2, s3⟩ := HST.out
                            exact ⟨k + 1, A2, c2, by omega, by go_num, Lib.hid (by rw [numbered_take HR.out, ← List.append_assoc]; exact s1), Lib.hid (box_step HBX.out s2 s3)⟩
                          case measure => simp [intOf]; omega
                        exact AllReadyH.nil
                      exact AllReadyH.nil
                    exact AllReadyH.nil
                  refine AllReadyH.cons (o := ?o15) ?a15 (fun K hK => ?s15) ?m15; (case' a15 => (simp only [List.getElem?_toArray, List.getElem?_cons_zero, List.getElem?_cons_succ]; rfl))
                  case s15 =>
                    go_simp
                    refine hK.out _ _ (HT.out _ (hHeld.2.alloc _)) (fun hHeld => ?_)
                    clear hK K
                    (try simp only [Act.put, List.setIfInBounds_toArray, List.set_cons_zero, List.set_cons_succ])
                    refine wpAnyH_ready (rs := [1]) (by kernel_rfl) (by simp) ?_
                    refine AllReadyH.cons (o := ?o16) ?a16 (fun K hK => ?s16) ?m16; (case' a16 => (simp only [List.getElem?_toArray, List.getElem?_cons_zero, List.getElem?_cons_succ]; rfl))
                    case s16 =>
                      go_simp
                      refine hK.out _ _ (hHeld) (fun hHeld => ?_)
                      clear hK K
                      (try simp only [Act.put, List.setIfInBounds_toArray, List.set_cons_zero, List.set_cons_succ])
                      refine wpAnyH_ready (rs := [11]) (by kernel_rfl) (by simp) ?_
                      refine AllReadyH.cons (o := ?o17) ?a17 (fun K hK => ?s17) ?m17; (case' a17 => (simp only [List.getElem?_toArray, List.getElem?_cons_zero, List.getElem?_cons_succ]; rfl))
                      case s17 =>
                        refine step_append_lies _ (by rfl) _ _ _ (by rfl) 0 43 i0 _ 5 56 Try.underlying36 hi0 hz0 hz1 hz2 rfl (by omega) (.slice A' n cap') n (rowF (L ++ numbered next (rs.take k))) (by rfl) ((own_below HO.out (Below.refl _ _).drew).alloc _) ⟨wr.heap.size, 0, none⟩ 1 1 [.int .i64 (next + k), .bool rk, .string key, .bool tb, .string val] (by rfl) (by rfl) (World.news_of_block (cs := #[.int .i64 (next + k), .bool rk, .string key, .bool tb, .string val]) (t := 43) (fr := (0, 0)) (heap_alloc_new wr.drew _)) (by simp [Value.oneCell']) (by omega) (by unfold maxLen; omega) (by omega) (Nat.zero_le _) (wr.heap.size + 1) (by simp) ?_
                        intro gg cc w2 hown2 hgrow hat hltg
                        have hrow := grown_row HR2.out hgrow HNE.out
                        have x2 := (cell_of_row _ _ 2 _ _ _ hrow).trans rfl
                        have y2 := frozen_of_row _ _ 2 _ _ hrow
                        have HROW := Lib.hid hrow
                        clear hrow
                        refine hK.out _ _ (HT.out _ (but_grown hgrow)) (fun hHeld => ?_)
                        clear hK K
                        (try simp only [Act.put, List.setIfInBounds_toArray, List.set_cons_zero, List.set_cons_succ])
                        refine wpAnyH_take (i := 12) (oi := ?o18) (v := ?v18) ?a18 (by kernel_rfl) (by kernel_rfl) (by kernel_rfl) ?q18 (Or.inl ⟨?g18, ?y18⟩) (by assumption) ?r18; (case' a18 => (simp only [List.getElem?_toArray, List.getElem?_cons_zero, List.getElem?_cons_succ]; rfl)); (case' q18 => (exact fun _ _ _ h => h)); (case' g18 => rfl); (case' y18 => (intro w hSw; (try dsimp only at hSw); go_simp; try with_reducible rfl)); (case' r18 => (try simp only [Act.put, List.setIfInBounds_toArray, List.set_cons_zero, List.set_cons_succ]))
                        refine wpAnyH_ready (rs := [13]) (by kernel_rfl) (by simp) ?_
                        refine AllReadyH.cons (o := ?o19) ?a19 (fun K hK => ?s19) ?m19; (case' a19 => (simp only [List.getElem?_toArray, List.getElem?_cons_zero, List.getElem?_cons_succ]; rfl))
                        case s19 =>
                          go_simp
                          refine hK.out _ _ (HT.out _ (hHeld.2.setCell (.inl rfl) _)) (fun hHeld => ?_)
                          clear hK K
                          (try simp only [Act.put, List.setIfInBounds_toArray, List.set_cons_zero, List.set_cons_succ])
                          refine wpAnyH_done (by kernel_rfl) ?_ _
                          have hst := put_step (x := ⟨next + k, ⟨rk, key, tb, val⟩⟩) hseg.out HN.out (Below.refl _ _) hHeld.2 HROW.out hown2 hat
                          have HST := Lib.hid hst
                          clear hst hHeld
                          go_wp2_with fail
                          go_roundw
                          case rel =>
                            obtain ⟨A2, c2, s1, s2, s3⟩ := HST.out
                            exact ⟨k + 1, A2, c2, by omega, by go_num, Lib.hid (by rw [numbered_take HR.out, ← List.append_assoc]; exact s1), Lib.hid (box_step HBX.out s2 s3)⟩
                          case measure => simp [intOf]; omega
                        exact AllReadyH.nil
                      exact AllReadyH.nil
                    exact AllReadyH.nil
                  exact AllReadyH.nil
                · obtain rfl : k = m := by omega
                  have hs2 : Seg 53 wr g A' cap' base next (L ++ numbered next rs) := by have := hseg.out; rwa [List.take_of_length_le (by rw [HNR.out]; exact Nat.le_refl _)] at this
                  have n2' := hs2.froz 1
                  have n1 := hs2.c1
                  have HS := Lib.hid hs2
                  have e1 : wrap64 (next + (k : Int)) = next + (k : Int) := by simp only [wrap64]; omega
                  clear hs2
                  go_upto_region 23 with fail
                  obtain ⟨nn, hnn⟩ : ∃ nn, next + (k : Int) = nn := ⟨_, rfl⟩
                  have HS5 := Lib.hid (HS.out.setNext nn)
                  have HB5 : Hid (Below wc.heap.size wc (wr.setCell ⟨g, 1, none⟩ (.int .i64 nn))) := Lib.hid (HBX.out.below.setCell (p := ⟨g, 1, none⟩) HBX.out.g0 _)
                  rw [hnn]
                  have HNN : Hid (nn = next + rs.length) := Lib.hid (by rw [HNR.out, hnn])
                  obtain ⟨ll, hll⟩ : ∃ ll, (L ++ numbered next rs).length = ll := ⟨_, rfl⟩
                  have HLN := Lib.hid hll
                  clear hnn n1 n2' e1 HS c2
                  generalize wr.setCell ⟨g, 1, none⟩ (.int .i64 nn) = W5 at HS5 HB5 ⊢
                  have b0 := HS5.out.c0
                  have b1 := HS5.out.c1
                  have b2 := HS5.out.c2
                  rw [hll] at b2
                  have hlog := HAI.out.it.log.below HB5.out
                  have hle2 : ss2.length = n2 := by rw [HAI.out.len, HJ2.out]
                  have x1 := hlog.c1
                  rw [hle2] at x1
                  obtain ⟨qx, hqx, _, _, hcells⟩ := hlog.form (by omega)
                  have hqx' : qb2 = qx := by injection hqx with q; injection q
                  subst hqx'
                  obtain ⟨z0, z1, z2⟩ := hcells j2 _ HAI.out.at_
                  have y0 := hlog.own.frozenAt (j2 * 3)
                  have y1 := hlog.own.frozenAt (j2 * 3 + 1)
                  have y2 := hlog.own.frozenAt (j2 * 3 + 2)
                  have hT : ∀ w', Only [qb2] W5 w' → (w'.cell? ⟨g, 0, none⟩ = some (.int .i64 base) ∧ w'.cell? ⟨g, 1, none⟩ = some (.int .i64 nn) ∧ w'.cell? ⟨g, 2, none⟩ = some (.slice A' ll cap') ∧ w'.cell? ⟨kb, 1, none⟩ = some (.slice (some ⟨qb2, 0, none⟩) n2 cap2)) ∧ Only [qb2] W5 w' := fun w' q => by
                    have hgq : g ∉ [qb2] := fun e => by have := HBX.out.g0; rw [List.mem_singleton.1 e] at this; omega
                    have hkq : kb ∉ [qb2] := fun e => HAI.out.it.log.ne (by rw [List.mem_singleton.1 e]; rfl)
                    exact ⟨⟨q.cell b0 hgq, q.cell b1 hgq, q.cell b2 hgq, q.cell x1 hkq⟩, q⟩
                  have HT5 := Lib.hid hT
                  clear hlog hle2 hcells hqx hT hll
                  refine wp_region_held_drew (S := fun w' => (w'.cell? ⟨g, 0, none⟩ = some (.int .i64 base) ∧ w'.cell? ⟨g, 1, none⟩ = some (.int .i64 nn) ∧ w'.cell? ⟨g, 2, none⟩ = some (.slice A' ll cap') ∧ w'.cell? ⟨kb, 1, none⟩ = some (.slice (some ⟨qb2, 0, none⟩) n2 cap2)) ∧ Only [qb2] W5 w') (by kernel_rfl) (HT5.out _ (Only.ofBelow (Below.refl _ _).drew)) (fun hHeld => ?_)
                  refine wpAnyH_take (i := 0) (oi := ?o20) (v := ?v20) ?a20 (by kernel_rfl) (by kernel_rfl) (by kernel_rfl) ?q20 (Or.inl ⟨?g20, ?y20⟩) (by assumption) ?r20; (case' a20 => (simp only [List.getElem?_toArray, List.getElem?_cons_zero]; rfl)); (case' q20 => (exact fun _ _ _ h => h)); (case' g20 => rfl); (case' y20 => (intro w hSw; (try dsimp only at hSw); go_simp; try with_reducible rfl)); (case' r20 => (try simp only [Act.put, List.setIfInBounds_toArray, List.set_cons_zero, List.set_cons_succ]))
                  refine wpAnyH_take (i := 1) (oi := ?o21) (v := ?v21) ?a21 (by kernel_rfl) (by kernel_rfl) (by kernel_rfl) ?q21 (Or.inl ⟨?g21, ?y21⟩) (by assumption) ?r21; (case' a21 => (simp only [List.getElem?_toArray, List.getElem?_cons_zero, List.getElem?_cons_succ]; rfl)); (case' q21 => (exact fun _ _ _ h => h)); (case' g21 => rfl); (case' y21 => (intro w hSw; (try dsimp only at hSw); go_simp; try with_reducible rfl)); (case' r21 => (try simp only [Act.put, List.setIfInBounds_toArray, List.set_cons_zero, List.set_cons_succ]))
                  refine wpAnyH_take (i := 2) (oi := ?o22) (v := ?v22) ?a22 (by kernel_rfl) (by kernel_rfl) (by kernel_rfl) ?q22 (Or.inl ⟨?g22, ?y22⟩) (by assumption) ?r22; (case' a22 => (simp only [List.getElem?_toArray, List.getElem?_cons_zero, List.getElem?_cons_succ]; rfl)); (case' q22 => (exact fun _ _ _ h => h)); (case' g22 => rfl); (case' y22 => (intro w hSw; (try dsimp only at hSw); go_simp; try with_reducible rfl)); (case' r22 => (try simp only [Act.put, List.setIfInBounds_toArray, List.set_cons_zero, List.set_cons_succ]))
                  refine wpAnyH_take (i := 3) (oi := ?o23) (v := ?v23) ?a23 (by kernel_rfl) (by kernel_rfl) (by kernel_rfl) ?q23 (Or.inl ⟨?g23, ?y23⟩) (by assumption) ?r23; (case' a23 => (simp only [List.getElem?_toArray, List.getElem?_cons_zero, List.getElem?_cons_succ]; rfl)); (case' q23 => (exact fun _ _ _ h => h)); (case' g23 => rfl); (case' y23 => (intro w hSw; (try dsimp only at hSw); go_simp; try with_reducible rfl)); (case' r23 => (try simp only [Act.put, List.setIfInBounds_toArray, List.set_cons_zero, List.set_cons_succ]))
                  refine wpAnyH_take (i := 4) (oi := ?o24) (v := ?v24) ?a24 (by kernel_rfl) (by kernel_rfl) (by kernel_rfl) ?q24 (Or.inl ⟨?g24, ?y24⟩) (by assumption) ?r24; (case' a24 => (simp only [List.getElem?_toArray, List.getElem?_cons_zero, List.getElem?_cons_succ]; rfl)); (case' q24 => (exact fun _ _ _ h => h)); (case' g24 => rfl); (case' y24 => (intro w hSw; (try dsimp only at hSw); go_simp; try with_reducible rfl)); (case' r24 => (try simp only [Act.put, List.setIfInBounds_toArray, List.set_cons_zero, List.set_cons_succ]))
                  refine wpAnyH_take (i := 5) (oi := ?o25) (v := ?v25) ?a25 (by kernel_rfl) (by kernel_rfl) (by kernel_rfl) ?q25 (Or.inl ⟨?g25, ?y25⟩) (by assumption) ?r25; (case' a25 => (simp only [List.getElem?_toArray, List.getElem?_cons_zero, List.getElem?_cons_succ]; rfl)); (case' q25 => (exact fun _ _ _ h => h)); (case' g25 => rfl); (case' y25 => (intro w hSw; (try dsimp only at hSw); go_simp; try with_reducible rfl)); (case' r25 => (try simp only [Act.put, List.setIfInBounds_toArray, List.set_cons_zero, List.set_cons_succ]))
                  refine wpAnyH_take (i := 6) (oi := ?o26) (v := ?v26) ?a26 (by kernel_rfl) (by kernel_rfl) (by kernel_rfl) ?q26 (Or.inl ⟨?g26, ?y26⟩) (by assumption) ?r26; (case' a26 => (simp only [List.getElem?_toArray, List.getElem?_cons_zero, List.getElem?_cons_succ]; rfl)); (case' q26 => (exact fun _ _ _ h => h)); (case' g26 => rfl); (case' y26 => (intro w hSw; (try dsimp only at hSw); go_simp; try with_reducible rfl)); (case' r26 => (try simp only [Act.put, List.setIfInBounds_toArray, List.set_cons_zero, List.set_cons_succ]))
                  refine wpAnyH_ready (rs := [7]) (by kernel_rfl) (by simp) ?_
                  refine AllReadyH.cons (o := ?o27) ?a27 (fun K hK => ?s27) ?m27; (case' a27 => (simp only [List.getElem?_toArray, List.getElem?_cons_zero, List.getElem?_cons_succ]; rfl))
                  case s27 =>
                    go_simp
                    refine hK.out _ _ (HT5.out _ (((hHeld.2.setCell (p := ⟨qb2, j2 * 3, none⟩) (.inl (by simp)) _).setCell (p := ⟨qb2, j2 * 3 + 1, none⟩) (.inl (by simp)) _).setCell (p := ⟨qb2, j2 * 3 + 2, none⟩) (.inl (by simp)) _)) (fun hHeld => ?_)
                    clear hK K
                    (try simp only [Act.put, List.setIfInBounds_toArray, List.set_cons_zero, List.set_cons_succ])
                    refine wpAnyH_done (by kernel_rfl) ?_ _
                    go_wp2_with fail
                    go_ret2
                    refine .inr ⟨rfl, by rw [HEL.out]; rfl, ?_⟩
                    exact app_done HAI.out HB5.out HS5.out HBX.out.a0 HNN.out HLN.out
                  exact AllReadyH.nil
end Go.Proofs.Ytflcggpeflagiaa.L6
