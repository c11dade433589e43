/-
  Contracts: records are put behind all of a segment's.
-/
import Derived.Test.YtflcggpeflagiaaSegLoad
namespace Go.Proofs.Ytflcggpeflagiaa.L5
open Go.RowKit
open L3 L4

/-- what Append tells, and leaves -/
def AppP (T : TypeId) (w : World) (g : Nat) (A : Option Addr) (base next : Int) (L : List L4.Fd) (rs : List R) (x : Int) (e : Ending) (w' : World) : Prop :=
  (x ≠ 0 ∧ e = .returned (.tuple #[.int .i64 0, .int .i64 x]) ∧ Below w.heap.size w w') ∨ (x = 0 ∧ e = .returned (.tuple #[.int .i64 next, .int .i64 0]) ∧ Step T w g A base (next + rs.length) (L ++ numbered next rs) w')
theorem app_held {T : TypeId} {w w2 : World} {g : Nat} {A' : Option Addr} {cap' : Nat} {base next : Int} {M M' : List L4.Fd} {k : Nat} {rk tb : Bool} {key val : ByteArray} (h : Seg T w g A' cap' base (next + k) M) (hst : Step T (w.alloc (.cells #[.bool rk, .string key, .bool tb, .string val] 41)).drew g A' base (next + k) M' w2) :
    (w2.cell? ⟨g, 1, none⟩ = some (.int .i64 (next + k))) ∧ (w2.cell? ⟨w.heap.size, 0, none⟩ = some (.bool rk) ∧ w2.cell? ⟨w.heap.size, 1, none⟩ = some (.string key) ∧ w2.cell? ⟨w.heap.size, 2, none⟩ = some (.bool tb) ∧ w2.cell? ⟨w.heap.size, 3, none⟩ = some (.string val)) := by
  obtain ⟨A2, c2, s1, s2, s3⟩ := hst
  have hlt := h.lt
  have hne : w.heap.size ≠ g := by omega
  have hb : some w.heap.size ≠ blk A' := fun e => by have := h.blkLt _ e.symm; omega
  have hr : (w.alloc (.cells #[.bool rk, .string key, .bool tb, .string val] 41)).drew.heap[w.heap.size]? = some (.cells #[.bool rk, .string key, .bool tb, .string val] 41 (0, 0)) := heap_alloc_new _ _
  exact ⟨s1.c1, s2.cell ((cell_of_row _ _ 0 _ _ _ hr).trans rfl) hne hb, s2.cell ((cell_of_row _ _ 1 _ _ _ hr).trans rfl) hne hb, s2.cell ((cell_of_row _ _ 2 _ _ _ hr).trans rfl) hne hb, s2.cell ((cell_of_row _ _ 3 _ _ _ hr).trans rfl) hne hb⟩
theorem app_start {w : World} {g k : Nat} {next : Int} {rk tb : Bool} {key val : ByteArray} (h : w.cell? ⟨g, 1, none⟩ = some (.int .i64 (next + k))) :
    ((w.alloc (.cells #[.bool rk, .string key, .bool tb, .string val] 41)).drew.cell? ⟨g, 1, none⟩ = some (.int .i64 (next + k))) ∧ ((w.alloc (.cells #[.bool rk, .string key, .bool tb, .string val] 41)).drew.cell? ⟨w.heap.size, 0, none⟩ = some (.bool rk) ∧ (w.alloc (.cells #[.bool rk, .string key, .bool tb, .string val] 41)).drew.cell? ⟨w.heap.size, 1, none⟩ = some (.string key) ∧ (w.alloc (.cells #[.bool rk, .string key, .bool tb, .string val] 41)).drew.cell? ⟨w.heap.size, 2, none⟩ = some (.bool tb) ∧ (w.alloc (.cells #[.bool rk, .string key, .bool tb, .string val] 41)).drew.cell? ⟨w.heap.size, 3, none⟩ = some (.string val)) := by
  have hr : (w.alloc (.cells #[.bool rk, .string key, .bool tb, .string val] 41)).drew.heap[w.heap.size]? = some (.cells #[.bool rk, .string key, .bool tb, .string val] 41 (0, 0)) := heap_alloc_new _ _
  exact ⟨(World.cell?_alloc_lt _ _ _ (World.block_lt_of_cell? _ _ h)).trans h, (cell_of_row _ _ 0 _ _ _ hr).trans rfl, (cell_of_row _ _ 1 _ _ _ hr).trans rfl, (cell_of_row _ _ 2 _ _ _ hr).trans rfl, (cell_of_row _ _ 3 _ _ _ hr).trans rfl⟩
/-- one record further -/
theorem app_next {T : TypeId} {w wr w2 : World} {g k : Nat} {A A' A2 : Option Addr} {c2 : Nat} {base next : Int} {L : List L4.Fd} {rs : List R} {o : Obj} {r : R} (hr : rs[k]? = some r) (hbut : But g (blk A) w wr) (hA' : ∀ j, blk A' = some j → blk A = some j ∨ w.heap.size ≤ j)
    (s1 : Seg T w2 g A2 c2 base (next + k) ((L ++ numbered next (rs.take k)) ++ [⟨next + k, r⟩])) (s2 : But g (blk A') (wr.alloc o).drew w2) (s3 : ∀ j, blk A2 = some j → blk A' = some j ∨ (wr.alloc o).drew.heap.size ≤ j) :
    Hid (Seg T (w2.setCell ⟨g, 1, none⟩ (.int .i64 (next + k + 1))) g A2 c2 base (next + (k + 1 : Nat)) (L ++ numbered next (rs.take (k + 1)))) ∧ But g (blk A) w (w2.setCell ⟨g, 1, none⟩ (.int .i64 (next + k + 1))) ∧ Hid (∀ j, blk A2 = some j → blk A = some j ∨ w.heap.size ≤ j) := by
  have hs := hbut.size
  refine ⟨Lib.hid ?_, ?_, Lib.hid (fun j e => ?_)⟩
  · rw [numbered_take hr, ← List.append_assoc, show next + ((k + 1 : Nat) : Int) = next + k + 1 by omega]
    exact s1.setNext _
  · refine But.setCell (p := ⟨g, 1, none⟩) ?_ (.inl rfl) _
    exact (hbut.trans (.ofBelow (h := none) ((Below.refl _ wr).alloc (Nat.le_refl _) o).drew) (fun k e => by cases e)).trans s2 hA'
  · rcases s3 j e with e' | e'
    · exact hA' j e'
    · right
      have : (wr.alloc o).drew.heap.size = wr.heap.size + 1 := by simp
      omega

set_option maxRecDepth 100000 in
set_option maxHeartbeats 4000000 in
theorem append_is {T : TypeId} {w : World} {g : Nat} {A : Option Addr} {cap : Nat} {base next : Int} {L : List L4.Fd} (X : Option Addr) (rs : List R) (xc B : Nat) (x : Int) (h : Hid (Seg T w g A cap base next L)) (hl : L.length ≤ 64) (hn0 : 0 ≤ next) (hn1 : next ≤ 1099511627776)
    (hR : Hid (Reads w B X rs)) (hX : Hid (Apart g A X)) (hB : B ≤ w.heap.size) (hrl : rs.length ≤ maxLen) (hs : Hid (∀ r ∈ rs, r.key.size ≤ maxLen ∧ r.val.size ≤ maxLen)) (HX : Hid (appE next L.length rs = x)) :
    Calls Try.prog 29 #[.pointer (some ⟨g, 0, none⟩), .slice X rs.length xc] w (AppP T w g A base next L rs x) := by
  unfold maxLen at hrl
  go_enter Try.func29, Try.ntmps29
  go_wp2_with fail
  go_loopw [14] (fun i wr => ∃ k : Nat, k ≤ rs.length ∧ i = .int .i64 k ∧ Below w.heap.size w wr ∧ Hid (chkL (rs.drop k) = chkL rs)) (fun i _ => rs.length - (intOf i).toNat)
  case atStart => exact ⟨0, by omega, rfl, Below.refl _ _, Lib.hid (by simp)⟩
  case round =>
    obtain ⟨k, hk, rfl, hbel, hC⟩ := hrel
    by_cases hlt : k < rs.length
    · obtain ⟨b, rfl, hb, hcells⟩ := hR.out (by omega)
      obtain ⟨⟨rk, key, tb, val⟩, hr⟩ : ∃ s, rs[k]? = some s := ⟨rs[k], List.getElem?_eq_getElem hlt⟩
      obtain ⟨q1, q2⟩ := hs.out _ (List.mem_of_getElem? hr)
      have Q1 := Lib.hid q1
      have Q2 := Lib.hid q2
      obtain ⟨c0, c1, c2, c3⟩ := hcells k _ hr
      have d0 := (hbel.cell (p := ⟨b, k * 4, none⟩) (by show b < _; omega)).trans c0
      have d1 := (hbel.cell (p := ⟨b, k * 4 + 1, none⟩) (by show b < _; omega)).trans c1
      have d2 := (hbel.cell (p := ⟨b, k * 4 + 2, none⟩) (by show b < _; omega)).trans c2
      have d3 := (hbel.cell (p := ⟨b, k * 4 + 3, none⟩) (by show b < _; omega)).trans c3
      have k0 : (0 : Int) ≤ (k : Int) := by omega
      have k1 : (k : Int) < (rs.length : Int) := by omega
      obtain ⟨y, hy⟩ : ∃ y, chk rk key tb val = y := ⟨_, rfl⟩
      have hnext := chkL_next hr hy
      have HY := Lib.hid hy
      clear c0 c1 c2 c3 hcells hr hy q1 q2
      dsimp only at d0 d1 d2 d3 Q1 Q2
      by_cases hy0 : y = 0
      · subst hy0
        have hC' : Hid (chkL (rs.drop (k + 1)) = chkL rs) := Lib.hid ((hnext.2 rfl).symm.trans hC.out)
        clear hnext
        go_wp2_with (go_at_call 24; refine (check_any _ _ _ _ _ Q1.out Q2.out).mono ?_; rw [HY.out]; rintro e w1 ⟨rfl, hb1⟩)
        go_roundw
        case rel => exact ⟨k + 1, by omega, by go_num, (hbel.alloc hbel.size _).trans (hb1.mono (by simp; exact Nat.le_succ_of_le hbel.size)), hC'⟩
        case measure => simp [intOf]; omega
      · have hy1 : (y != 0) = true := by simpa using hy0
        have hx : x = y := by
          rw [← HX.out]; unfold appE
          rw [← hC.out, hnext.1 hy0, if_pos hy0]
        subst hx
        have HN0 := Lib.hid hy0
        clear hnext hy0
        go_wp2_with (go_at_call 24; refine (check_any _ _ _ _ _ Q1.out Q2.out).mono ?_; rw [HY.out]; rintro e w1 ⟨rfl, hb1⟩)
        go_ret2
        exact .inl ⟨HN0.out, rfl, (hbel.alloc hbel.size _).trans (hb1.mono (by simp; exact Nat.le_succ_of_le hbel.size))⟩
    · obtain rfl : k = rs.length := by omega
      have hc0 : chkL rs = 0 := by have := hC.out; rw [List.drop_length] at this; exact this.symm
      have hx := HX.out
      unfold appE at hx
      rw [if_neg (by rw [hc0]; simp)] at hx
      have hsm : ∀ r ∈ rs, r.key.size ≤ 64 ∧ r.val.size ≤ 512 := fun r hr => by
        have := chk_parts (L5.chkL_all hc0 _ hr); exact ⟨this.1, this.2.1⟩
      have HSM := Lib.hid hsm
      have hseg0 := h.out.below hbel
      have c2 := hseg0.c2
      have c1 := hseg0.c1
      clear hsm hc0
      have w1 : wrap64 (64 - (L.length : Int)) = 64 - (L.length : Int) := by simp only [wrap64]; omega
      have w2 : wrap64 (1099511627776 - next) = 1099511627776 - next := by simp only [wrap64]; omega
      by_cases hf1 : 64 - (L.length : Int) < (rs.length : Int)
      · rw [if_pos (by omega)] at hx
        subst hx
        clear hseg0
        go_wp2_with fail
        go_ret2
        exact .inl ⟨by decide, rfl, hbel⟩
      · by_cases hf2 : 1099511627776 - next < (rs.length : Int)
        · rw [if_pos (by omega)] at hx
          subst hx
          clear hseg0
          go_wp2_with fail
          go_ret2
          exact .inl ⟨by decide, rfl, hbel⟩
        · rw [if_neg (by omega)] at hx
          subst hx
          have hrl2 : rs.length ≤ 64 := by omega
          have hnr : next + (rs.length : Int) ≤ 1099511627776 := by omega
          have HLn := hl
          clear hseg0
          go_wp2_with fail
          obtain ⟨W1, hW1⟩ : ∃ W1, W1 = wr := ⟨_, rfl⟩
          rw [← hW1] at hbel ⊢
          clear hW1 c1 c2 hf1 hf2 w1 w2 hC
          go_loopw [49] (fun i wr => ∃ (k : Nat) (A' : Option Addr) (cap' : Nat), k ≤ rs.length ∧ i = .int .i64 k ∧ Hid (Seg T wr g A' cap' base (next + k) (L ++ numbered next (rs.take k))) ∧ But g (blk A) w wr ∧ Hid (∀ j, blk A' = some j → blk A = some j ∨ w.heap.size ≤ j)) (fun i _ => rs.length - (intOf i).toNat)
          case atStart => exact ⟨0, A, cap, by omega, rfl, Lib.hid (by simpa [numbered] using h.out.below hbel), .ofBelow hbel, Lib.hid (fun j e => .inl e)⟩
          case round =>
            obtain ⟨k, A', cap', hk, rfl, hseg, hbut, hA'⟩ := hrel
            by_cases hlt : k < rs.length
            · have hR2 := reads_but hR.out hbut hX.out
              obtain ⟨b, rfl, hb, hcells⟩ := hR2 (by omega)
              obtain ⟨⟨rk, key, tb, val⟩, hr⟩ : ∃ s, rs[k]? = some s := ⟨rs[k], List.getElem?_eq_getElem hlt⟩
              obtain ⟨q1, q2⟩ := HSM.out _ (List.mem_of_getElem? hr)
              have Q1 : key.size ≤ 281474976710656 := Nat.le_trans q1 (by decide)
              have Q2 : val.size ≤ 281474976710656 := Nat.le_trans q2 (by decide)
              obtain ⟨d0, d1, d2, d3⟩ := hcells k _ hr
              have k0 : (0 : Int) ≤ (k : Int) := by omega
              have k1 : (k : Int) < (rs.length : Int) := by omega
              have HR := Lib.hid hr
              have HLL : Hid ((L ++ numbered next (rs.take k)).length = L.length + k) := Lib.hid (by rw [List.length_append, numbered_len, List.length_take]; omega)
              have c1n := hseg.out.c1
              have e1 : wrap64 (next + (k : Int) + 1) = next + (k : Int) + 1 := by simp only [wrap64]; omega
              clear hcells hr q1 q2 hR2
              dsimp only at d0 d1 d2 d3 Q1 Q2
              go_wp2_with fail
              refine wp_region_held_drew (S := fun w' => (w'.cell? ⟨g, 1, none⟩ = some (.int .i64 (next + k))) ∧ (w'.cell? ⟨wr.heap.size, 0, none⟩ = some (.bool rk) ∧ w'.cell? ⟨wr.heap.size, 1, none⟩ = some (.string key) ∧ w'.cell? ⟨wr.heap.size, 2, none⟩ = some (.bool tb) ∧ w'.cell? ⟨wr.heap.size, 3, none⟩ = some (.string val))) (by kernel_rfl) (app_start c1n) (fun hHeld => ?_)
              refine wpAnyH_take (i := 0) (oi := ?o1) (v := ?v1) ?a1 (by kernel_rfl) (by kernel_rfl) (by kernel_rfl) ?q1 (Or.inl ⟨?g1, ?y1⟩) (by assumption) ?r1; (case' a1 => (simp only [List.getElem?_toArray, List.getElem?_cons_zero]; rfl)); (case' q1 => (exact fun _ _ _ h => h)); (case' g1 => rfl); (case' y1 => (intro w hSw; (try dsimp only at hSw); go_simp; try with_reducible rfl)); (case' r1 => (try simp only [Act.put, List.setIfInBounds_toArray, List.set_cons_zero, List.set_cons_succ]))
              refine wpAnyH_take (i := 1) (oi := ?o2) (v := ?v2) ?a2 (by kernel_rfl) (by kernel_rfl) (by kernel_rfl) ?q2 (Or.inl ⟨?g2, ?y2⟩) (by assumption) ?r2; (case' a2 => (simp only [List.getElem?_toArray, List.getElem?_cons_zero, List.getElem?_cons_succ]; rfl)); (case' q2 => (exact fun _ _ _ h => h)); (case' g2 => rfl); (case' y2 => (intro w hSw; (try dsimp only at hSw); go_simp; try with_reducible rfl)); (case' r2 => (try simp only [Act.put, List.setIfInBounds_toArray, List.set_cons_zero, List.set_cons_succ]))
              refine wpAnyH_take (i := 2) (oi := ?o3) (v := ?v3) ?a3 (by kernel_rfl) (by kernel_rfl) (by kernel_rfl) ?q3 (Or.inl ⟨?g3, ?y3⟩) (by assumption) ?r3; (case' a3 => (simp only [List.getElem?_toArray, List.getElem?_cons_zero, List.getElem?_cons_succ]; rfl)); (case' q3 => (exact fun _ _ _ h => h)); (case' g3 => rfl); (case' y3 => (intro w hSw; (try dsimp only at hSw); go_simp; try with_reducible rfl)); (case' r3 => (try simp only [Act.put, List.setIfInBounds_toArray, List.set_cons_zero, List.set_cons_succ]))
              refine wpAnyH_take (i := 3) (oi := ?o4) (v := ?v4) ?a4 (by kernel_rfl) (by kernel_rfl) (by kernel_rfl) ?q4 (Or.inl ⟨?g4, ?y4⟩) (by assumption) ?r4; (case' a4 => (simp only [List.getElem?_toArray, List.getElem?_cons_zero, List.getElem?_cons_succ]; rfl)); (case' q4 => (exact fun _ _ _ h => h)); (case' g4 => rfl); (case' y4 => (intro w hSw; (try dsimp only at hSw); go_simp; try with_reducible rfl)); (case' r4 => (try simp only [Act.put, List.setIfInBounds_toArray, List.set_cons_zero, List.set_cons_succ]))
              refine wpAnyH_take (i := 4) (oi := ?o5) (v := ?v5) ?a5 (by kernel_rfl) (by kernel_rfl) (by kernel_rfl) ?q5 (Or.inl ⟨?g5, ?y5⟩) (by assumption) ?r5; (case' a5 => (simp only [List.getElem?_toArray, List.getElem?_cons_zero, List.getElem?_cons_succ]; rfl)); (case' q5 => (exact fun _ _ _ h => h)); (case' g5 => rfl); (case' y5 => (intro w hSw; (try dsimp only at hSw); go_simp; try with_reducible rfl)); (case' r5 => (try simp only [Act.put, List.setIfInBounds_toArray, List.set_cons_zero, List.set_cons_succ]))
              refine wpAnyH_take (i := 5) (oi := ?o6) (v := ?v6) ?a6 (by kernel_rfl) (by kernel_rfl) (by kernel_rfl) ?q6 (Or.inl ⟨?g6, ?y6⟩) (by assumption) ?r6; (case' a6 => (simp only [List.getElem?_toArray, List.getElem?_cons_zero, List.getElem?_cons_succ]; rfl)); (case' q6 => (exact fun _ _ _ h => h)); (case' g6 => rfl); (case' y6 => (intro w hSw; (try dsimp only at hSw); go_simp; try with_reducible rfl)); (case' r6 => (try simp only [Act.put, List.setIfInBounds_toArray, List.set_cons_zero, List.set_cons_succ]))
              refine wpAnyH_ready (rs := [6]) (by kernel_rfl) (by simp) ?_
              refine AllReadyH.cons (o := ?o7) ?a7 (fun K hK => ?s7) ?m7; (case' a7 => (simp only [List.getElem?_toArray, List.getElem?_cons_zero, List.getElem?_cons_succ]; rfl))
              case s7 =>
                go_simp
                go_at_call 53
                refine (put_is (next + k) rk key tb val (L.length + k) HLL.out (Lib.hid (hseg.out.below ((one_box _).drew))) (by omega) Q1 Q2).mono ?_
                rintro e w2 ⟨rfl, hst⟩
                go_wp2_with fail
                refine hK.out _ _ (app_held hseg.out hst) (fun hHeld => ?_)
                clear hK K
                (try simp only [Act.put, List.setIfInBounds_toArray, List.set_cons_zero, List.set_cons_succ])
                refine wpAnyH_done (by kernel_rfl) ?_ _
                obtain ⟨A2, c2, s1, s2, s3⟩ := hst
                have n1 := s1.c1
                have n2 := s1.froz 1
                have S1 := Lib.hid s1
                have S2 := Lib.hid s2
                have S3 := Lib.hid s3
                clear s1 s2 s3 hHeld
                go_wp2_with fail
                go_roundw
                case rel =>
                  exact ⟨k + 1, A2, c2, by omega, by go_num, app_next HR.out hbut hA'.out S1.out S2.out S3.out⟩
                case measure => simp [intOf]; omega
              exact AllReadyH.nil
            · obtain rfl : k = rs.length := by omega
              have HS : Hid (Seg T wr g A' cap' base (next + rs.length) (L ++ numbered next rs)) := Lib.hid (by have := hseg.out; rwa [List.take_length] at this)
              go_wp2_with fail
              go_ret2
              exact .inr ⟨rfl, rfl, A', cap', HS.out, hbut, hA'.out⟩
end Go.Proofs.Ytflcggpeflagiaa.L5
