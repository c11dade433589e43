/-
  The contracts of the program's own sums, frames and cuts.
-/
import Derived.Test.YtlemcijgjebekaaMSev
import Derived.Test.YtlemcijgjebekaaCrcSpec
import Derived.Test.YtlemcijgjebekaaCrcRef
import Derived.Laws.Rows
import Derived.IntWalk
namespace Go.Proofs.Ytlemcijgjebekaa
open Go.RowKit

theorem u32_low (c : Nat) (hc : c < 4294967296) : bits .and .u32 (c : Int) 1 = ((c % 2 : Nat) : Int) := by
  have := u32_and_nat c 1 hc (by decide)
  rw [nat_mask1] at this
  exact this
theorem u32_turn (c : Nat) (hc : c < 4294967296) : bits .xor .u32 ((c : Int) / 2) 3988292384 = ((c / 2 ^^^ 3988292384 : Nat) : Int) := by
  have := u32_xor_nat (c / 2) 3988292384 (by omega) (by decide)
  rw [show ((c / 2 : Nat) : Int) = (c : Int) / 2 by omega] at this
  exact this

theorem step_any (c : Nat) (w : World) (hc : c < 4294967296) (d : Nat) (hd : Hid (C.step c = d)) :
    Calls Try.prog 151 #[.int .u32 c] w fun e w' => e = .returned (.int .u32 d) ∧ w = w' := by
  have HL := Lib.hid (u32_low c hc)
  have HT := Lib.hid (u32_turn c hc)
  by_cases h : c % 2 = 1
  · have e1 : (bits .and .u32 (c : Int) 1 == 1) = true := by rw [HL.out, h]; rfl
    have HD : Hid (c / 2 ^^^ 3988292384 = d) := by show _ = _; rw [← hd.out]; unfold C.step; rw [if_pos h]
    clear h
    go_enter Try.func151, Try.ntmps151
    go_wp2_with fail
    go_ret
    exact ⟨ret_int (by rw [HT.out, HD.out]), rfl⟩
  · have e1 : (bits .and .u32 (c : Int) 1 == 1) = false := by rw [HL.out, show c % 2 = 0 by omega]; rfl
    have HD : Hid (c / 2 = d) := by show _ = _; rw [← hd.out]; unfold C.step; rw [if_neg h]
    clear h
    go_enter Try.func151, Try.ntmps151
    go_wp2_with fail
    go_ret
    exact ⟨ret_int (by rw [← HD.out]; rfl), rfl⟩

theorem steps_back (j x : Nat) : C.step (C.steps j x) = C.steps (j + 1) x := by
  rw [C.steps_add]; rfl

set_option maxRecDepth 100000 in
set_option maxHeartbeats 1000000 in
theorem fours1_any (n B : Nat) (cs : Array Value) (w : World) (hn : n < 16) (hcs : cs.size = 16) (hw : w.heap[B]? = some (.cells cs 201 (0, 0))) (d : Nat) (hd : Hid (C.steps 4 n = d)) :
    Calls Try.prog 150 #[.int .u32 n, .pointer (some ⟨B, 0, none⟩)] w fun e w' => e = .returned (.tuple #[]) ∧ w' = w.setCell ⟨B, n, none⟩ (.int .u32 d) := by
  have hcell : w.cell? ⟨B, n, none⟩ = cs[n]? := cell_of_row w B n cs 201 (0, 0) hw
  have hfz : w.frozen? ⟨B, n, none⟩ = false := by simp [World.frozen?, hw]
  go_enter Try.func150, Try.ntmps150
  go_wp2_with fail
  go_loop [3, 5] (fun c i => ∃ j x : Nat, j ≤ 4 ∧ i = .int .i64 j ∧ c = .int .u32 x ∧ x ≤ 4294967295 ∧ Hid (C.steps j n = x)) (fun _ i => 4 - (intOf i).toNat)
  case atStart => exact ⟨0, n, by omega, rfl, rfl, by omega, rfl⟩
  case round =>
    obtain ⟨j, x, hj, rfl, rfl, hx, hst⟩ := hrel
    by_cases hlt : j < 4
    · obtain ⟨y, hy⟩ : ∃ y : Nat, C.step x = y := ⟨_, rfl⟩
      have y1 : y ≤ 4294967295 := by rw [← hy]; exact Nat.le_of_lt_succ (C.step_lt (by omega))
      have HY := Lib.hid hy
      have HS : Hid (C.steps (j + 1) n = y) := by show _ = _; rw [← steps_back, hst.out, hy]
      clear hy
      go_wp2_with (go_at_call 151; refine (step_any _ _ (by omega) _ HY).mono ?_; rintro e w' ⟨rfl, rfl⟩)
      go_round
      case rel => exact ⟨j + 1, y, by omega, by go_num, rfl, y1, HS⟩
      case measure => simp [intOf]; omega
    · obtain rfl : j = 4 := by omega
      obtain rfl : x = d := by rw [← hst.out, hd.out]
      go_wp2_with fail
      go_end0
      exact ⟨rfl, rfl⟩

theorem setRow_at (w : World) (B n : Nat) (cs : Array Value) (t : TypeId) (fr : Nat × Nat) (v : Value) (hw : w.heap[B]? = some (.cells cs t fr)) :
    (w.setCell ⟨B, n, none⟩ v).heap[B]? = some (.cells (cs.setIfInBounds n v) t fr) := by
  rw [setCell_eq_setRow w B n cs t fr v hw]
  exact setRow_heap w B cs _ t fr hw

/-- the table after k of its sixteen numbers -/
def row (k : Nat) : Array Value := ((List.range 16).map fun i => Value.int .u32 ((if i < k then C.steps 4 i else 0 : Nat) : Int)).toArray
theorem row_size (k : Nat) : (row k).size = 16 := by unfold row; simp
theorem row_next (k : Nat) : (row k).setIfInBounds k (.int .u32 ((C.steps 4 k : Nat) : Int)) = row (k + 1) := by
  apply Array.ext (by simp [row_size])
  intro i h1 h2
  rw [row_size] at h2
  rw [Array.getElem_setIfInBounds (by rw [row_size]; exact h2)]
  simp only [row, List.getElem_toArray, List.getElem_map, List.getElem_range]
  by_cases e : k = i
  · subst e
    simp
  · rw [if_neg e]
    by_cases h3 : i < k
    · rw [if_pos h3, if_pos (by omega)]
    · rw [if_neg h3, if_neg (by omega)]

set_option maxRecDepth 100000 in
set_option maxHeartbeats 1000000 in
theorem fours_any (w : World) :
    Calls Try.prog 148 #[] w fun e w' => e = .returned (.agg (row 16)) ∧ Below w.heap.size w w' := by
  go_enter Try.func148, Try.ntmps148
  go_wp2_with fail
  go_loopw [3, 5] (fun _ i wr => ∃ k : Nat, k ≤ 16 ∧ i = .int .u32 k ∧ wr.heap[w.heap.size + 1]? = some (.cells (row k) 201 (0, 0)) ∧ (∃ q, wr.heap[w.heap.size]? = some (.cells q 201 (0, 0)) ∧ q.size = 16) ∧ Below w.heap.size w wr) (fun _ i _ => 16 - (intOf i).toNat)
  case atStart =>
    refine ⟨0, by omega, rfl, ?_, ⟨_, (heap_alloc2_old w _ _), rfl⟩, ((Below.refl _ w).alloc (Nat.le_refl _) _).alloc (by simp) _⟩
    exact (heap_alloc2_new w _ _).trans rfl
  case round =>
    obtain ⟨k, hk, rfl, hrow, ⟨q, hq, hqs⟩, hB⟩ := hrel
    by_cases hlt : k < 16
    · have hd : Hid (C.steps 4 k = C.steps 4 k) := rfl
      obtain ⟨d, HD⟩ : ∃ d, Hid (C.steps 4 k = d) := ⟨_, rfl⟩
      have hn := setRow_at wr (w.heap.size + 1) k (row k) 201 (0, 0) (.int .u32 d) hrow
      have hnext : Hid ((row k).setIfInBounds k (.int .u32 (d : Int)) = row (k + 1)) := by show _ = _; rw [← HD.out]; exact row_next k
      go_wp2_with (go_at_call 150; refine (fours1_any _ _ _ _ hlt (row_size k) hrow _ HD).mono ?_; rintro e w' ⟨rfl, rfl⟩)
      go_roundw
      case rel =>
        refine ⟨k + 1, by omega, by go_num, by rw [hn, hnext.out], ⟨q, ?_, hqs⟩, hB.setCell (p := ⟨w.heap.size + 1, k, none⟩) (by simp) _⟩
        rw [← hq]
        exact heap_setCell_other wr _ _ _ (by simp)
      case measure => simp [intOf]; omega
    · obtain rfl : k = 16 := by omega
      have hB2 : Below w.heap.size w (wr.setRow w.heap.size (row 16)) := hB.trans ((Below.refl _ _).grown (row := some w.heap.size) ⟨rfl, rfl, rfl, by simp, fun j _ hj => setRow_other wr _ _ _ (fun e => hj (by rw [e]))⟩ (by have := hB.size; omega) (fun j ej => by cases ej; exact Nat.le_refl _))
      have hr := setRow_heap wr w.heap.size q (row 16) 201 (0, 0) hq
      have hi : (Try.prog.info? 201).map (·.size) = some (row 16).size := by rw [row_size]; kernel_rfl
      have h1 : (row 16).all (·.oneCell') = true := by kernel_rfl
      go_wp2_with (first
        | (refine wpList_load_row rfl _ _ rfl _ rfl _ _ _ _ hrow Try.underlying201 rfl hi ?_)
        | (refine wpList_store_row rfl 201 (Operand.tmp 0) (Operand.tmp 12) rfl w.heap.size (row 16) rfl rfl 201 q hq hi (by rw [hqs, row_size]) h1 ?_))
      exact bodyPost_ret (results_cell_row rfl _ _ _ _ _ _ _ rfl hr Try.underlying201 rfl hi) rfl ⟨rfl, hB2⟩
theorem u32_back (c : Nat) (hc : c < 4294967296) : bits .xor .u32 IntKind.u32.max (c : Int) = ((4294967295 - c : Nat) : Int) := by
  have h := u32_xor_nat 4294967295 c (by decide) hc
  have e : 4294967295 ^^^ c = 4294967295 - c := by
    have h1 : (BitVec.allOnes 32 ^^^ BitVec.ofNat 32 c).toNat = (~~~ (BitVec.ofNat 32 c)).toNat := by rw [BitVec.allOnes_xor]
    rw [BitVec.toNat_xor, BitVec.toNat_not, BitVec.toNat_ofNat, BitVec.toNat_allOnes, Nat.mod_eq_of_lt (by omega)] at h1
    exact h1
  rw [e] at h
  exact h
theorem row_full (i : Nat) (h : i < 16) : (row 16)[i]? = some (.int .u32 ((C.steps 4 i : Nat) : Int)) := by
  rw [Array.getElem?_eq_getElem (by rw [row_size]; exact h)]
  simp only [row, List.getElem_toArray, List.getElem_map, List.getElem_range]
  rw [if_pos h]

set_option maxRecDepth 100000 in
set_option maxHeartbeats 2000000 in
theorem more_in (S : Nat) (s : ByteArray) (w : World) (hS : S < 4294967296) (hs : s.size ≤ 281474976710656) (R : Nat) (hR : Hid (C.run (4294967295 - S) (V.nats s) = R)) (hR2 : R < 4294967296) :
    Calls Try.prog 132 #[.int .u32 S, .string s] w fun e w' => e = .returned (.int .u32 ((4294967295 - R : Nat) : Int)) ∧ Below w.heap.size w w' := by
  have hi : (Try.prog.info? 201).map (·.size) = some (row 16).size := by rw [row_size]; kernel_rfl
  have ha1 : (row 16).all (·.oneCell') = true := by kernel_rfl
  obtain ⟨T, hT⟩ : ∃ T : Nat, 4294967295 - S = T := ⟨_, rfl⟩
  have T1 : T ≤ 4294967295 := by omega
  have hback := u32_back S hS
  rw [hT] at hback hR
  clear hT
  go_enter Try.func132, Try.ntmps132
  go_wp2_with (first
    | (go_at_call 148; refine (fours_any _).mono ?_; rintro e w1 ⟨rfl, hb⟩)
    | (refine wpList_store_row rfl 201 (Operand.tmp 5) (Operand.tmp 8) rfl _ (row 16) rfl rfl 201 _ (World.alloc_heap_new _ _) hi (by rw [row_size]; rfl) ha1 ?_
       have hr := setRow_heap _ _ _ (row 16) 201 (0, 0) (World.alloc_heap_new w1 (.cells #[.int .u32 0, .int .u32 0, .int .u32 0, .int .u32 0, .int .u32 0, .int .u32 0, .int .u32 0, .int .u32 0, .int .u32 0, .int .u32 0, .int .u32 0, .int .u32 0, .int .u32 0, .int .u32 0, .int .u32 0, .int .u32 0] 201))
       have hB : Below w.heap.size w (((w1.alloc (.cells #[.int .u32 0, .int .u32 0, .int .u32 0, .int .u32 0, .int .u32 0, .int .u32 0, .int .u32 0, .int .u32 0, .int .u32 0, .int .u32 0, .int .u32 0, .int .u32 0, .int .u32 0, .int .u32 0, .int .u32 0, .int .u32 0] 201))).setRow w1.heap.size (row 16)) :=
         (hb.alloc hb.size _).trans ((Below.refl _ _).grown (row := some w1.heap.size) ⟨rfl, rfl, rfl, by simp, fun j _ hj => setRow_other _ _ _ _ (fun e => hj (by rw [e]))⟩ (by have := hb.size; simp; omega) (fun j ej => by cases ej; exact hb.size))
       generalize hWW : World.setRow _ w1.heap.size (row 16) = W at hr hB ⊢
       clear hWW))
  clear hback hi ha1
  go_loop [6, 13] (fun c i => ∃ k q : Nat, k ≤ s.size ∧ i = .int .i64 k ∧ c = .int .u32 q ∧ q ≤ 4294967295 ∧ Hid (C.run q ((V.nats s).drop k) = R)) (fun _ i => s.size - (intOf i).toNat)
  case atStart => exact ⟨0, T, Nat.zero_le _, rfl, rfl, T1, by simpa using hR⟩
  case round =>
    obtain ⟨k, q, hk, rfl, rfl, hq, hrun⟩ := hrel
    by_cases hlt : k < s.size
    · obtain ⟨b, hbv⟩ : ∃ b, s[k].toNat = b := ⟨_, rfl⟩
      have hb2 : b ≤ 255 := by rw [← hbv]; exact Nat.le_of_lt_succ s[k].toNat_lt
      have HD : Hid ((V.nats s).drop k = b :: (V.nats s).drop (k + 1)) := by show _ = _; rw [V.drop_at s k hlt, hbv]
      obtain ⟨d, hd⟩ : ∃ d : Nat, q ^^^ b = d := ⟨_, rfl⟩
      have d1 : d ≤ 4294967295 := by rw [← hd]; exact Nat.le_of_lt_succ (Nat.xor_lt_two_pow (n := 32) (by omega) (by omega))
      have hx1 := u32_xor_nat q b (by omega) (by omega)
      rw [hd] at hx1
      have HDD := Lib.hid hd
      clear hd
      go_wp2_with fail
      clear hx1
      go_loop [6, 22] (fun c i => ∃ j x : Nat, j ≤ 2 ∧ i = .int .i64 j ∧ c = .int .u32 x ∧ x ≤ 4294967295 ∧ Hid (C.steps (4 * (2 - j)) x = C.steps 8 d)) (fun _ i => 2 - (intOf i).toNat)
      case atStart => exact ⟨0, d, by omega, rfl, rfl, d1, rfl⟩
      case round =>
        obtain ⟨j, x, hj, rfl, rfl, hx, hst⟩ := hrel
        by_cases hj2 : j < 2
        · obtain ⟨t, ht⟩ : ∃ t : Nat, x % 16 = t := ⟨_, rfl⟩
          obtain ⟨v, hv⟩ : ∃ v : Nat, C.steps 4 t = v := ⟨_, rfl⟩
          obtain ⟨y, hy⟩ : ∃ y : Nat, x / 16 ^^^ v = y := ⟨_, rfl⟩
          have t1 : t < 16 := by omega
          have v1 : v ≤ 4294967295 := by rw [← hv]; exact Nat.le_of_lt_succ (C.steps_lt 4 (by omega))
          have y1 : y ≤ 4294967295 := by rw [← hy]; exact Nat.le_of_lt_succ (Nat.xor_lt_two_pow (n := 32) (by omega) (by omega))
          have ec : W.cell? ⟨w1.heap.size, t, none⟩ = some (.int .u32 v) := by rw [cell_of_row W _ t _ 201 (0, 0) hr, row_full t t1, hv]
          have et : (x : Int) % 16 = (t : Int) := by omega
          have hx2 := u32_xor_nat (x / 16) v (by omega) (by omega)
          rw [hy, show ((x / 16 : Nat) : Int) = (x : Int) / 16 by omega] at hx2
          have HST : Hid (C.steps (4 * (2 - (j + 1))) y = C.steps 8 d) := by
            show _ = _
            rw [← hst.out, show 4 * (2 - j) = 4 + 4 * (2 - (j + 1)) by omega, C.steps_add, C.steps_table 4 x, show (2 : Nat) ^ 4 = 16 from rfl, ht, hv, hy]
          clear ht hv hy
          go_wp2_with fail
          go_round
          case rel => exact ⟨j + 1, y, by omega, by go_num, rfl, y1, HST⟩
          case measure => simp [intOf]; omega
        · obtain rfl : j = 2 := by omega
          go_wp2_with fail
          go_round
          case rel => exact ⟨k + 1, x, by omega, by go_num, rfl, hx, by
            have h1 : x = C.steps 8 d := hst.out
            show C.run x _ = R
            rw [← hrun.out, HD.out, h1, ← HDD.out]
            rfl⟩
          case measure => simp [intOf]; omega
    · obtain rfl : k = s.size := by omega
      have hqR : q = R := by
        have := hrun.out
        rw [List.drop_of_length_le (by rw [V.nats_len]; exact Nat.le_refl _)] at this
        exact this
      subst hqR
      have hback := u32_back q hR2
      go_wp2_with fail
      go_ret
      exact ⟨rfl, hB⟩

theorem crcmore_any (S : Int) (s : ByteArray) (w : World) (h0 : 0 ≤ S) (h1 : S ≤ 4294967295) (hs : s.size ≤ 140737488355328) :
    Calls Try.prog 132 #[.int .u32 S, .string s] w fun e w' => e = .returned (.int .u32 ((C.more S.toNat (V.nats s) : Nat) : Int)) ∧ Below w.heap.size w w' := by
  have k := more_in S.toNat s w (by omega) (by omega) _ (Lib.hid rfl) (C.run_lt _ (by omega) (V.nats_byte s))
  rw [show ((S.toNat : Nat) : Int) = S by omega] at k
  exact k
theorem crcsum_any (s : ByteArray) (w : World) (hs : s.size ≤ 140737488355328) :
    Calls Try.prog 97 #[.string s] w fun e w' => e = .returned (.int .u32 ((sumOf s : Nat) : Int)) ∧ Below w.heap.size w w' := by
  go_enter Try.func97, Try.ntmps97
  go_wp2_with (go_at_call 132; refine (crcmore_any _ _ _ (by decide) (by decide) hs).mono ?_; rintro e w' ⟨rfl, hb⟩)
  go_ret
  exact ⟨rfl, hb⟩

/-- the four bytes after k of them -/
def row4 (n k : Nat) : Array Value := ((List.range 4).map fun i => Value.int .u8 ((if i < k then n / 256 ^ i % 256 else 0 : Nat) : Int)).toArray
theorem row4_size (n k : Nat) : (row4 n k).size = 4 := by unfold row4; simp
theorem row4_next (n k : Nat) : (row4 n k).setIfInBounds k (.int .u8 ((n / 256 ^ k % 256 : Nat) : Int)) = row4 n (k + 1) := by
  apply Array.ext (by simp [row4_size])
  intro i h1 h2
  rw [row4_size] at h2
  rw [Array.getElem_setIfInBounds (by rw [row4_size]; exact h2)]
  simp only [row4, List.getElem_toArray, List.getElem_map, List.getElem_range]
  by_cases e : k = i
  · subst e
    simp
  · rw [if_neg e]
    by_cases h3 : i < k
    · rw [if_pos h3, if_pos (by omega)]
    · rw [if_neg h3, if_neg (by omega)]

theorem row4_at (n k i : Nat) (h : i < 4) : (row4 n k)[i]? = some (.int .u8 ((if i < k then n / 256 ^ i % 256 else 0 : Nat) : Int)) := by
  rw [Array.getElem?_eq_getElem (by rw [row4_size]; exact h)]
  simp only [row4, List.getElem_toArray, List.getElem_map, List.getElem_range]
theorem row4_str (n : Nat) (h : n < 4294967296) : strOfNums [((n / 256 ^ 0 % 256 : Nat) : Int), ((n / 256 ^ 1 % 256 : Nat) : Int), ((n / 256 ^ 2 % 256 : Nat) : Int), ((n / 256 ^ 3 % 256 : Nat) : Int)] = fourB n := by
  have := fourB_of (n : Int) (by omega)
  rw [Int.toNat_natCast] at this
  rw [← this]
  have e0 : ((n / 256 ^ 0 % 256 : Nat) : Int) = (n : Int) % 256 := by simp
  have e1 : ((n / 256 ^ 1 % 256 : Nat) : Int) = (n : Int) / 256 % 256 := by simp
  have e2 : ((n / 256 ^ 2 % 256 : Nat) : Int) = (n : Int) / 65536 % 256 := by simp
  have e3 : ((n / 256 ^ 3 % 256 : Nat) : Int) = (n : Int) / 16777216 := by
    rw [show (256 : Nat) ^ 3 = 16777216 from rfl]; omega
  rw [e0, e1, e2, e3]
theorem byte_at (n k : Nat) : (n : Int) / 2 ^ (8 * k) % 256 = ((n / 256 ^ k % 256 : Nat) : Int) := by
  have e : (2 : Int) ^ (8 * k) = ((256 ^ k : Nat) : Int) := by rw [Int.pow_mul]; simp
  rw [e]
  simp

set_option maxRecDepth 100000 in
set_option maxHeartbeats 2000000 in
theorem sumbytes_any (s : ByteArray) (w : World) (hs : s.size ≤ 140737488355328) :
    Calls Try.prog 135 #[.string s] w fun e w' => e = .returned (.string (fourB (sumOf s))) ∧ Below w.heap.size w w' := by
  obtain ⟨n, hn⟩ : ∃ n, sumOf s = n := ⟨_, rfl⟩
  have n1 : n ≤ 4294967295 := by have := sumOf_lt s; omega
  have k0 := crcsum_any s
  rw [hn] at k0 ⊢
  clear hn
  go_enter Try.func135, Try.ntmps135
  go_wp2_with (go_at_call 97; refine (k0 _ hs).mono ?_; rintro e w1 ⟨rfl, hb⟩)
  clear k0
  go_loopw [8] (fun i wr => ∃ k : Nat, k ≤ 4 ∧ i = .int .i64 k ∧ wr.heap[w1.heap.size]? = some (.cells (row4 n k) 204 (0, 0)) ∧ Below w.heap.size w wr) (fun i _ => 4 - (intOf i).toNat)
  case atStart => exact ⟨0, by omega, rfl, (World.alloc_heap_new _ _).trans rfl, hb.alloc hb.size _⟩
  case round =>
    obtain ⟨k, hk, rfl, hrow, hB⟩ := hrel
    by_cases hlt : k < 4
    · have hcell : wr.cell? ⟨w1.heap.size, k, none⟩ = some (.int .u8 0) := by rw [cell_of_row wr _ k _ 204 (0, 0) hrow, row4_at n k k hlt, if_neg (by omega)]; rfl
      have hfz : wr.frozen? ⟨w1.heap.size, k, none⟩ = false := frozen_of_row wr _ k _ 204 hrow
      have hnext := heap_setCell_same wr w1.heap.size k _ 204 (.int .u8 ((n / 256 ^ k % 256 : Nat) : Int)) hrow
      rw [row4_next] at hnext
      have hv := byte_at n k
      obtain ⟨v, hvv⟩ : ∃ v : Nat, n / 256 ^ k % 256 = v := ⟨_, rfl⟩
      rw [hvv] at hv hnext
      clear hvv
      have HN := Lib.hid hnext
      clear hnext
      go_wp2_with fail
      go_roundw
      case rel => exact ⟨k + 1, by omega, by go_num, HN.out, hB.setCell (p := ⟨w1.heap.size, k, none⟩) hb.size _⟩
      case measure => simp [intOf]; omega
    · obtain rfl : k = 4 := by omega
      have c0 : wr.cell? ⟨w1.heap.size, 0, none⟩ = some (.int .u8 ((n / 256 ^ 0 % 256 : Nat) : Int)) := by rw [cell_of_row wr _ 0 _ 204 (0, 0) hrow, row4_at n 4 0 (by decide)]; rfl
      have c1 : wr.cell? ⟨w1.heap.size, 1, none⟩ = some (.int .u8 ((n / 256 ^ 1 % 256 : Nat) : Int)) := by rw [cell_of_row wr _ 1 _ 204 (0, 0) hrow, row4_at n 4 1 (by decide)]; rfl
      have c2 : wr.cell? ⟨w1.heap.size, 2, none⟩ = some (.int .u8 ((n / 256 ^ 2 % 256 : Nat) : Int)) := by rw [cell_of_row wr _ 2 _ 204 (0, 0) hrow, row4_at n 4 2 (by decide)]; rfl
      have c3 : wr.cell? ⟨w1.heap.size, 3, none⟩ = some (.int .u8 ((n / 256 ^ 3 % 256 : Nat) : Int)) := by rw [cell_of_row wr _ 3 _ 204 (0, 0) hrow, row4_at n 4 3 (by decide)]; rfl
      have kc := conv_four wr w1.heap.size _ _ _ _ c0 c1 c2 c3
      rw [row4_str n (by omega)] at kc
      clear c0 c1 c2 c3
      go_wp2_with fail
      go_ret
      exact ⟨rfl, hB⟩

theorem puttext_is (s p : ByteArray) (w : World) (hs : s.size ≤ 281474976710656) (h : Hid (V.put s.size ++ s = p)) :
    Calls Try.prog 125 #[.string s] w fun e w' => e = .returned (.string p) ∧ Below w.heap.size w w' := by
  have k := puttext_any s w hs
  rw [h.out] at k
  exact k
theorem sumbytes_is (s f : ByteArray) (w : World) (hs : s.size ≤ 140737488355328) (h : Hid (fourB (sumOf s) = f)) :
    Calls Try.prog 135 #[.string s] w fun e w' => e = .returned (.string f) ∧ Below w.heap.size w w' := by
  have k := sumbytes_any s w hs
  rw [h.out] at k
  exact k

theorem frame_any (s : ByteArray) (w : World) (hs : s.size ≤ 140737488355328) :
    Calls Try.prog 101 #[.string s] w fun e w' => e = .returned (.string (frame s)) ∧ Below w.heap.size w w' := by
  have hB := Below.refl w.heap.size w
  have hz : (V.put s.size).size ≤ 10 := by rw [V.put_size]; exact V.puts_len _ (by omega)
  obtain ⟨p, hp⟩ : ∃ p, V.put s.size ++ s = p := ⟨_, rfl⟩
  have p1 : p.size ≤ 140737488355400 := by rw [← hp, ByteArray.size_append]; omega
  obtain ⟨f, hf⟩ : ∃ f, fourB (sumOf s) = f := ⟨_, rfl⟩
  have f1 : f.size ≤ 4 := by rw [← hf, fourB_size]; exact Nat.le_refl _
  have e : frame s = p ++ f := by rw [← hp, ← hf]; rfl
  rw [e]
  have HP := Lib.hid hp
  have HF := Lib.hid hf
  clear hp hf e hz
  go_enter Try.func101, Try.ntmps101
  go_wp2_with (first
    | (go_at_call 125; refine (puttext_is _ _ _ (by omega) HP).mono ?_; rintro e w' ⟨rfl, hb⟩; replace hB := acc hB hb; clear hb)
    | (go_at_call 135; refine (sumbytes_is _ _ _ hs HF).mono ?_; rintro e w' ⟨rfl, hb⟩; replace hB := acc hB hb; clear hb))
  go_ret
  exact ⟨rfl, hB⟩

set_option maxRecDepth 100000 in
set_option maxHeartbeats 2000000 in
theorem cut_any (s : ByteArray) (at_ most : Int) (w : World) (hs : s.size ≤ 140737488355328) (hmost : most ≤ 9223372036854775807) :
    Calls Try.prog 104 #[.string s, .int .i64 at_, .int .i64 most] w fun e w' => e = .returned (.tuple #[.string (cut s at_ most).1, .int .i64 (cut s at_ most).2.1, .int .i64 (cut s at_ most).2.2]) ∧ Below w.heap.size w w' := by
  have hB := Below.refl w.heap.size w
  obtain ⟨t, to, e, hx⟩ : ∃ t to e, V.text s at_ most = (t, to, e) := ⟨_, _, _, rfl⟩
  have HX := Lib.hid hx
  by_cases he : e = 0
  · subst he
    obtain ⟨x1, x2, x3⟩ := text_some hx
    by_cases hsh : (s.size : Int) - to < 4
    · rw [cut_short hx hsh]
      clear hx x3
      go_enter Try.func104, Try.ntmps104
      go_wp2_with (go_at_call 137; refine (text_is _ _ _ _ (by omega) hmost _ _ _ HX).mono ?_; rintro e w' ⟨rfl, hb⟩; replace hB := acc hB hb; clear hb)
      go_ret3
      exact ⟨rfl, hB⟩
    · obtain ⟨f, hf⟩ : ∃ f, fourB (sumOf t) = f := ⟨_, rfl⟩
      have HF := Lib.hid hf
      have HT : Hid (t.size ≤ 140737488355328) := by show _ ≤ _; omega
      obtain ⟨g, hg⟩ : ∃ g, s.extract to.toNat (to + 4).toNat = g := ⟨_, rfl⟩
      have hsh1 : to + 4 ≤ (s.size : Int) := by omega
      have hsh2 : 0 ≤ to + 4 := by omega
      have hsh3 : to ≤ to + 4 := by omega
      have hsh4 : 4 ≤ (s.size : Int) - to := by omega
      by_cases hfg : g = f
      · rw [cut_ok hx hsh (by rw [hg, hf]; exact hfg)]
        subst hfg
        clear hx hsh hf x3
        go_enter Try.func104, Try.ntmps104
        go_wp2_with (go_at_call 137; refine (text_is _ _ _ _ (by omega) hmost _ _ _ HX).mono ?_; rintro e w' ⟨rfl, hb⟩; replace hB := acc hB hb; clear hb)
        have hsum : IntKind.i64.wrap (to + 4) = to + 4 := IntWalk.i64_in _ (by omega)
        go_region_held3 (fun w' => Below w.heap.size w w')
          (first
            | assumption
            | exact Below.drew (by assumption)
            | exact acc (by assumption) (by assumption)
            | exact acc (Below.drew (by assumption)) (by assumption))
          ((go_at_call 135; (refine (sumbytes_is _ _ _ HT.out HF).mono ?_); rintro e w1 ⟨rfl, hb2⟩))
        clear hsum
        go_wp2_with fail
        go_ret3
        exact ⟨rfl, by assumption⟩
      · rw [cut_sum hx hsh (by rw [hg, hf]; exact hfg)]
        have hn1 : (g.toList == f.toList) = false := bytes_ne hfg
        clear hx hsh hf x3 hfg
        go_enter Try.func104, Try.ntmps104
        go_wp2_with (go_at_call 137; refine (text_is _ _ _ _ (by omega) hmost _ _ _ HX).mono ?_; rintro e w' ⟨rfl, hb⟩; replace hB := acc hB hb; clear hb)
        have hsum : IntKind.i64.wrap (to + 4) = to + 4 := IntWalk.i64_in _ (by omega)
        go_region_held3 (fun w' => Below w.heap.size w w')
          (first
            | assumption
            | exact Below.drew (by assumption)
            | exact acc (by assumption) (by assumption)
            | exact acc (Below.drew (by assumption)) (by assumption))
          ((go_at_call 135; (refine (sumbytes_is _ _ _ HT.out HF).mono ?_); rintro e w1 ⟨rfl, hb2⟩))
        clear hsum
        go_wp2_with fail
        go_ret3
        exact ⟨rfl, by assumption⟩
  · rw [cut_err hx he]
    have he' : (e != 0) = true := by simpa using he
    clear hx he
    go_enter Try.func104, Try.ntmps104
    go_wp2_with (go_at_call 137; refine (text_is _ _ _ _ (by omega) hmost _ _ _ HX).mono ?_; rintro e w' ⟨rfl, hb⟩; replace hB := acc hB hb; clear hb)
    go_ret3
    exact ⟨rfl, hB⟩
end Go.Proofs.Ytlemcijgjebekaa
