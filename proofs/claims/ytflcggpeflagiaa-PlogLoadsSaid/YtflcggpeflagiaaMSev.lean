/-
  The contract of a number's sevens: what the loop over them is handed, and how many they are.
-/
import Derived.RangeFuncNested
import Derived.RangeFuncBound
import Derived.RangeFuncCalls
import Derived.RangeFuncLeaves
import Derived.RangeFuncBox
import Derived.RangeFuncMany
import Derived.Shelf.Abstract
import Derived.Shelf.RegionOpen
import Derived.WalkKit
import Derived.OwnWalkIn
import Derived.TacticsInMore
import Derived.LoopNIn
import Derived.LoopIn
import Derived.Maps.AppendAt
import Derived.Outline
import Derived.Lib.Hide
import Derived.Test.YtflcggpeflagiaaProg
import Derived.Test.YtflcggpeflagiaaMMath
import Derived.ArgAppend
import Derived.Laws.BytesArg
import Derived.Test.YtflcggpeflagiaaMSmall
import Derived.LoopTactic
import Derived.Shelf.LaysM
import Derived.Shelf.Strconv.Clone
namespace Go.Proofs.Ytflcggpeflagiaa
open Go.RowKit Go.Shelf

attribute [local go_sem] Oper.semAt_some

/-- the sevens of a number, the lowest first, each with whether it is the last one -/
def svs (n : Nat) : List (Int × Bool) := if n < 128 then [((n : Int), true)] else (((n % 128 : Nat) : Int), false) :: svs (n / 128)
termination_by n
decreasing_by omega
theorem svs_small {n : Nat} (h : n < 128) : svs n = [((n : Int), true)] := by rw [svs, if_pos h]
theorem svs_big {n : Nat} (h : ¬ n < 128) : svs n = (((n % 128 : Nat) : Int), false) :: svs (n / 128) := by rw [svs, if_neg h]

abbrev encs (x : Int × Bool) : Array Value := #[.int .u8 x.1, .bool x.2]

set_option maxRecDepth 100000 in
set_option maxHeartbeats 1000000 in
theorem sevens1_in (F : Fence) (k : Nat) (hf : F.fn 81) (hro : F.round = none) (hk : 1 ≤ k) (l Bn n₀ n : Nat) (hn : n < 18446744073709551616) (J Jx : List (Int × Bool) → World → Prop)
    (hY : ∀ pre x W, J pre W → pre.length < (svs n).length → YieldAt F (k - 1) Try.prog l (encs x) W fun e W' =>
      (e = .returned (.bool true) ∧ J (pre ++ [x]) W' ∧ Below n₀ W W') ∨ (e = .returned (.bool false) ∧ Jx (pre ++ [x]) W'))
    (W : World) (hBn : W.cell? ⟨Bn, 0, none⟩ = some (.int .u64 n)) (h0 : J [] W) :
    CallsIn F k Try.prog 81 #[.func (.yield l) #[] #[], .pointer (some ⟨Bn, 0, none⟩)] W fun e W' => (∃ v, e = .returned v) ∧
      ((∃ ys, ys = svs n ∧ J ys W') ∨ (∃ pre, pre <+: svs n ∧ Jx pre W')) := by
  refine callsIn_of_wp Try.func81 rfl hf ?_ hro
  simp only [Try.ntmps81, List.size_toArray, List.length_cons, List.length_nil, Nat.reduceAdd, Nat.reduceSub, Array.replicate_succ, Array.replicate_zero, List.push_toArray, List.append_toArray, List.nil_append, List.cons_append]
  gi_wp2
  gi_loopw [3] (fun p wr => ∃ (pre : List (Int × Bool)) (m : Nat), p = .int .u64 m ∧ m < 18446744073709551616 ∧ svs n = pre ++ svs m ∧ J pre wr)
    (fun p _ => (intOf p).toNat)
  case atStart =>
    exact ⟨[], n, rfl, hn, rfl, h0⟩
  case round =>
    obtain ⟨pre, m, rfl, hm, hx, hJs⟩ := hrel
    by_cases hlt : m < 128
    · rw [svs_small hlt] at hx
      have hlow : ((bits .andNot .u8 (m : Int) 128, decide ((m : Int) < 128)) : Int × Bool) = ((m : Int), true) := by
        rw [V.u8_low _ (by omega) (by omega), decide_eq_true (by omega)]
        congr 1; omega
      obtain ⟨fn, tmps, assign, body, hy, hR⟩ := hY pre (bits .andNot .u8 (m : Int) 128, decide ((m : Int) < 128)) wr hJs (by rw [hx]; simp)
      rw [hlow] at hR
      dsimp only [encs] at hy
      have HX := Lib.hid hx
      clear hx hlow
      gi_wp2
      refine hR.mono ?_
      rintro e W3 (⟨rfl, hJ3, hk3⟩ | ⟨rfl, hJx3⟩)
      · gi_wp2
        refine bodyPost_ret (results_none rfl _ _ _) rfl ?_
        exact ⟨⟨_, rfl⟩, .inl ⟨_, HX.out.symm, hJ3⟩⟩
      · gi_wp2
        refine bodyPost_ret (results_none rfl _ _ _) rfl ?_
        exact ⟨⟨_, rfl⟩, .inr ⟨_, by rw [HX.out]; exact List.prefix_refl _, hJx3⟩⟩
    · rw [svs_big hlt] at hx
      have hx0 : svs n = (pre ++ [(((m % 128 : Nat) : Int), false)]) ++ svs (m / 128) := by rw [hx]; simp
      have hlow : ((bits .andNot .u8 ((m : Int) % 256) 128, decide ((m : Int) < 128)) : Int × Bool) = (((m % 128 : Nat) : Int), false) := by
        rw [V.u8_low _ (by omega) (by omega), decide_eq_false (by omega)]
        congr 1; omega
      obtain ⟨fn, tmps, assign, body, hy, hR⟩ := hY pre (bits .andNot .u8 ((m : Int) % 256) 128, decide ((m : Int) < 128)) wr hJs (by rw [hx]; simp)
      rw [hlow] at hR
      dsimp only [encs] at hy
      have HX := Lib.hid hx0
      clear hx hx0 hlow
      gi_wp2
      refine hR.mono ?_
      rintro e W3 (⟨rfl, hJ3, hk3⟩ | ⟨rfl, hJx3⟩)
      · gi_wp2
        go_roundw
        case rel => exact ⟨_, m / 128, by simp, by omega, HX.out, hJ3⟩
        case measure => simp [intOf]; omega
      · gi_wp2
        refine bodyPost_ret (results_none rfl _ _ _) rfl ?_
        exact ⟨⟨_, rfl⟩, .inr ⟨_, ⟨_, HX.out.symm⟩, hJx3⟩⟩

set_option maxHeartbeats 1000000 in
theorem sevens_in (F : Fence) (k : Nat) (hf : F.fn 80) (hro : F.round = none) (n : Int) (w : World) :
    CallsIn F k Try.prog 80 #[.int .u64 n] w fun e w' => e = .returned (.func (.func 81) #[] #[.pointer (some ⟨w.heap.size, 0, none⟩)]) ∧ w' = w.alloc (.cells #[.int .u64 n] 118) := by
  refine callsIn_of_wp Try.func80 rfl hf ?_ hro
  simp only [Try.ntmps80, List.size_toArray, List.length_cons, List.length_nil, Nat.reduceAdd, Nat.reduceSub, Array.replicate_succ, Array.replicate_zero, List.push_toArray, List.append_toArray, List.nil_append, List.cons_append]
  gi_wp2
  go_ret
  exact ⟨rfl, rfl⟩

/-- the iterator's contract -/
theorem sevens_stops (F : Fence) (k : Nat) (hf : F.fn 81) (hro : F.round = none) (hk : 1 ≤ k) (Bn n₀ n : Nat) (hn : n < 18446744073709551616) (w : World) (hBn : Bn < w.heap.size)
    (hc : w.cell? ⟨Bn, 0, none⟩ = some (.int .u64 n)) :
    SeqStopsK F k Try.prog 81 #[.pointer (some ⟨Bn, 0, none⟩)] encs (Below n₀) (fun ys => ys = svs n) (fun pre => pre <+: svs n) (svs n).length w := fun l J Jx W hW _ _ hY h0 =>
  sevens1_in F k hf hro hk l Bn n₀ n hn J Jx hY W ((hW.cell (p := ⟨Bn, 0, none⟩) hBn).trans hc) h0
end Go.Proofs.Ytflcggpeflagiaa
/-
  The contract of the program's own number: its bytes, out of its sevens.
-/
namespace Go.Proofs.Ytflcggpeflagiaa
open Go.RowKit Go.Shelf

attribute [local go_sem] Oper.semAt_some

/-- append of one value to a slice over a row that has room, whatever type the row was laid with -/
theorem append_tag {F : Fence} {n : Nat} {P : Program} (w : World) {ops : Array Oper} {rest : List Oper} {o : Oper} {a : Act} {Q : Exit → Act → World → Prop}
    (hg : o.guard = none) (s x : Operand) (t : TypeId) (hop : o.op = Op.call { callee := Callee.builtin Builtin.append, args := #[s, x], argTypes := #[t, t] })
    (e : TypeId) (i : TypeInfo) (h1 : P.underlying t = some (.slice e)) (h2 : P.info? e = some i) (h4 : i.size = 1)
    (B k cap : Nat) (cur : Array Value) (T : TypeId) (hB : w.heap[B]? = some (.cells cur T (0, 0))) (hs : a.eval s = .slice (some ⟨B, 0, none⟩) k cap)
    (v : Value) (ad : Addr) (c : Nat) (hx : a.eval x = .slice (some ad) 1 c) (hc : ∀ j u, [v][j]? = some u → w.cell? (ad.add j) = some u) (h1c : v.oneCell' = true) (b1 : k + 1 ≤ cap) (b2 : k < cur.size)
    (hK : ∀ w', w'.heap[B]? = some (.cells (cur.setIfInBounds k v) T (0, 0)) → w.grownBy w' (some B) → wpListIn F n P ops Q rest (a.put o.dst (.slice (some ⟨B, 0, none⟩) (k + 1) cap)) w') :
    wpListIn F n P ops Q (o :: rest) a w := by
  refine wpListIn_plain hg fun K hK' => ?_
  have hcell : w.cell? ⟨B, k, none⟩ = cur[k]? := by simp [World.cell?, hB]
  have hfz : w.frozen? ⟨B, k, none⟩ = false := by simp [World.frozen?, hB]
  have hrun := run_append_room_cells (P := P) w t o.type e i h1 h2 B 0 k cap ad 1 c [v] (by simp [h4]) hc (by simpa using h1c) b1
    (by intro j hj; simp at hj; subst hj; simp only [h4, Nat.zero_add, Nat.mul_one, Nat.add_zero]; rw [hcell]; simp [b2])
    (by intro j hj; simp at hj; subst hj; simp only [h4, Nat.zero_add, Nat.mul_one, Nat.add_zero]; exact hfz)
  have hw : w.setCells B (0 + k * i.size) [v] = w.setRow B (cur.setIfInBounds k v) := by
    simp only [World.setCells, h4, Nat.mul_one, Nat.zero_add]
    exact setCell_eq_setRow w B k cur T (0, 0) v hB
  rw [hw] at hrun
  have r1 := setRow_heap w B cur (cur.setIfInBounds k v) T (0, 0) hB
  have r2 : w.grownBy (w.setRow B (cur.setIfInBounds k v)) (some B) := ⟨rfl, rfl, rfl, by simp, fun j _ hj => setRow_other w B j _ (fun e => hj (by rw [e]))⟩
  unfold Oper.wpIn
  refine ⟨?_, ?_⟩
  · simp [Oper.about, hop, resolve, Target.leads, Sem.run_pure]
  · rw [Oper.semAt_plain F _ _ (by rw [hop]; intro c hc'; cases hc')]
    simp [execOp, hop, resolve, invoke, builtin, hs, hx, hrun, Result.andThen]
    exact hK' _ _ (hK _ r1 r2)

/-- a byte as it is laid -/
def encB (x : Int × Bool) : Int := if x.2 then x.1 else bits .or .u8 x.1 128

theorem svs_puts (n : Nat) : (svs n).map encB = (V.puts n).map (fun b : Nat => (b : Int)) := by
  induction n using Nat.strongRecOn with
  | _ n ih =>
    by_cases h : n < 128
    · rw [svs_small h, V.puts_small h]; simp [encB]
    · rw [svs_big h, V.puts_big h]
      simp only [List.map_cons, ih _ (by omega : n / 128 < n)]
      congr 1
      simp only [encB]
      rw [if_neg (by simp), V.u8_more _ (by omega) (by omega)]
      omega

theorem svs_len (n : Nat) : (svs n).length = (V.puts n).length := by
  have := congrArg List.length (svs_puts n)
  simpa using this

/-- the row holds these bytes at its head -/
def Held (W : World) (B : Nat) (l : List Int) : Prop :=
  ∃ cur, W.heap[B]? = some (.cells cur 122 (0, 0)) ∧ cur.size = 10 ∧ cur.toList.take l.length = l.map (Value.int .u8)

theorem Held.kept {W W' : World} {row : Option Nat} {B : Nat} {l : List Int} (h : Held W B l) (hg : W.grownBy W' row) (hne : some B ≠ row) : Held W' B l := by
  obtain ⟨cur, hc, hs, ht⟩ := h
  exact ⟨cur, (hg.block B (Array.getElem?_eq_some_iff.1 hc).1 hne).trans hc, hs, ht⟩

theorem held_own {β : Type} (B : Nat) (f : β → List Int) : Own (fun s W => Held W B (f s)) := fun s X Y row hs hg hrow =>
  hs.kept hg (fun e' => by obtain ⟨o, ho, hc⟩ := hrow B e'.symm; obtain ⟨cur, h1, _⟩ := hs; rw [h1] at ho; cases ho; cases hc)

theorem Held.cell {W : World} {B : Nat} {l : List Int} (h : Held W B l) (i : Nat) (hi : i < l.length) : W.cell? ⟨B, 0 + i, none⟩ = some (.int .u8 (l.getD i 0)) := by
  obtain ⟨cur, hc, hs, ht⟩ := h
  have h1 : W.cell? ⟨B, 0 + i, none⟩ = cur[i]? := by simp [World.cell?, hc]
  have h2 : (cur.toList.take l.length)[i]? = (l.map (Value.int .u8))[i]? := by rw [ht]
  rw [List.getElem?_take_of_lt hi] at h2
  rw [h1, ← Array.getElem?_toList, h2]
  simp [List.getD, List.getElem?_eq_getElem hi]

theorem take_set {cur : Array Value} {k : Nat} {v : Value} {xs : List Value} (hk : k < cur.size) (h : cur.toList.take k = xs) : (cur.setIfInBounds k v).toList.take (k + 1) = xs ++ [v] := by
  rw [Array.toList_setIfInBounds, List.take_add_one, List.take_set_of_le (Nat.le_refl _), h, List.getElem?_set_self (by simpa using hk)]
  rfl

/-- behind the append and the store of the longer slice: what the round owes -/
theorem appended {W w1 : World} {B : Nat} {l : List Int} {y : Int} {cur : Array Value} {T t : TypeId} {u v' : Value} (hBW : B ≤ W.heap.size) (hcur : ∀ o, (W.alloc o).heap[B]? = some (.cells cur 122 (0, 0)))
    (hcs : cur.size = 10) (hct : cur.toList.take l.length = l.map (Value.int .u8)) (hl : l.length < 10)
    (hw1 : w1.heap[B]? = some (.cells (cur.setIfInBounds l.length (.int .u8 y)) 122 (0, 0))) (hgrow : (W.alloc (.cells #[.int .u8 y] t)).grownBy w1 (some B)) (hS1 : Boxed w1 (B + 1) T u) :
    KeepsOthers W (w1.setCell ⟨B + 1, 0, none⟩ v') ∧ Below B W (w1.setCell ⟨B + 1, 0, none⟩ v') ∧ Held (w1.setCell ⟨B + 1, 0, none⟩ v') B (l ++ [y]) ∧ Boxed (w1.setCell ⟨B + 1, 0, none⟩ v') (B + 1) T v' := by
  refine ⟨?_, ?_, ?_, hS1.set v'⟩
  · exact ((KeepsOthers.alloc W _).trans (KeepsOthers.of_grownBy hgrow (fun j o ej hj => by cases ej; rw [hcur] at hj; cases hj; rfl))).trans (KeepsOthers.setCell _ _ _)
  · exact (((Below.refl B W).alloc hBW _).grown hgrow (by simp; omega) (fun j ej => by cases ej; exact Nat.le_refl _)).setCell (p := ⟨B + 1, 0, none⟩) (by simp) v'
  · refine Held.kept ⟨_, hw1, by simpa using hcs, ?_⟩ (grownBy_setCell' w1 (B + 1) v') (by simp)
    rw [List.length_append, List.length_singleton, take_set (by omega) hct]
    simp

theorem put_of_svs (n : Nat) : strOfNums ((svs n).map encB) = V.put n := by
  rw [svs_puts]
  unfold strOfNums V.put V.bytesOf
  rw [List.map_map]
  rfl

theorem infoByte : (Try.prog.info? 5).map (fun i => (i.zero, i.size, i.bytes)) = some (some (.int .u8 0), 1, 1) := by kernel_rfl

set_option maxRecDepth 100000 in
set_option maxHeartbeats 2000000 in
theorem put_in (F : Fence) (k : Nat) (h1f : F.fn 79) (h2f : F.fn 80) (h3f : F.fn 81) (hro : F.round = none) (hk : 3 ≤ k) (n : Nat) (hn : n < 18446744073709551616) (w : World) (hlen : (svs n).length ≤ 10) :
    CallsIn F k Try.prog 79 #[.int .u64 n] w fun e W' => e = .returned (.string (V.put n)) ∧ Below w.heap.size w W' := by
  have h1 : 1 ≤ k := by omega
  refine callsIn_of_wp_marks Try.func79 rfl h1f ?_ hro
  simp only [Try.ntmps79, List.size_toArray, List.length_cons, List.length_nil, Nat.reduceAdd, Nat.reduceSub, Array.replicate_succ, Array.replicate_zero, List.push_toArray, List.append_toArray, List.nil_append, List.cons_append]
  gi_wp2_with (gi_at_call 80; refine (sevens_in F (k - 1) h2f hro _ _).mono ?_; rintro e w' ⟨rfl, rfl⟩)
  obtain ⟨i0, hi, hz0, hz1, hz2⟩ := info_parts infoByte
  have hA0 : Held (((w.alloc (.cells #[.int .u8 0, .int .u8 0, .int .u8 0, .int .u8 0, .int .u8 0, .int .u8 0, .int .u8 0, .int .u8 0, .int .u8 0, .int .u8 0] 122)).alloc (.cells #[.slice (some ⟨w.heap.size, 0, none⟩) 0 10] 119)).alloc (.cells #[.int .u64 n] 118)) w.heap.size [] :=
    Held.kept (Held.kept (row := none) ⟨_, World.alloc_heap_new w _, rfl, rfl⟩ (World.grownBy_alloc _ _ none) (by simp)) (World.grownBy_alloc _ _ none) (by simp)
  have bS := Boxed.new (w.alloc (.cells #[.int .u8 0, .int .u8 0, .int .u8 0, .int .u8 0, .int .u8 0, .int .u8 0, .int .u8 0, .int .u8 0, .int .u8 0, .int .u8 0] 122)) 119 (.slice (some ⟨w.heap.size, 0, none⟩) 0 10)
  have bN := Boxed.new ((w.alloc (.cells #[.int .u8 0, .int .u8 0, .int .u8 0, .int .u8 0, .int .u8 0, .int .u8 0, .int .u8 0, .int .u8 0, .int .u8 0, .int .u8 0] 122)).alloc (.cells #[.slice (some ⟨w.heap.size, 0, none⟩) 0 10] 119)) 118 (.int .u64 n)
  simp only [World.size_alloc] at bS bN
  have hB0 : Below w.heap.size w (((w.alloc (.cells #[.int .u8 0, .int .u8 0, .int .u8 0, .int .u8 0, .int .u8 0, .int .u8 0, .int .u8 0, .int .u8 0, .int .u8 0, .int .u8 0] 122)).alloc (.cells #[.slice (some ⟨w.heap.size, 0, none⟩) 0 10] 119)).alloc (.cells #[.int .u64 n] 118)) :=
    (((Below.refl _ w).alloc (Nat.le_refl _) _).alloc (by simp) _).alloc (by simp; omega) _
  refine wpIn_rangeFunc_ownF hro h1 (gf := 81) (lb := #[.pointer (some ⟨w.heap.size + 1 + 1, 0, none⟩)]) rfl h3f (enters_of Try.func81 (by kernel_rfl) rfl)
    (sevens_stops F (k - 1) h3f hro (by omega) (w.heap.size + 1 + 1) w.heap.size n hn _ (by simp) bN.cell) belowK_t (belowK_b (by simp; omega)) (Below.refl _ _) (fun _ => rfl)
    (fun pre W => (Held W w.heap.size (pre.map encB) ∧ Boxed W (w.heap.size + 1) 119 (.slice (some ⟨w.heap.size, 0, none⟩) pre.length 10)) ∧ Below w.heap.size w W)
    (fun _ _ _ => False)
    (OwnFrom.and (OwnFrom.and (Own.from (held_own _ _) _) (Own.from (boxed_own _ _ _) _)) (ownFrom_below (Nat.le_refl _) (by simp; omega)))
    (fun _ _ _ _ _ hs _ _ => hs)
    ⟨⟨hA0, bS.alloc _⟩, hB0⟩
    (fun x => { tmps := #[.int .u64 n, undef, .string ⟨#[]⟩, .pointer (some ⟨w.heap.size, 0, none⟩), .pointer (some ⟨w.heap.size + 1, 0, none⟩), .int .u8 x.1, .bool x.2, .slice (some ⟨w.heap.size, 0, none⟩) 0 10, .int .u64 n, .func (.func 81) #[] #[.pointer (some ⟨w.heap.size + 1 + 1, 0, none⟩)], .int .u8 x.1, .bool x.2, undef, undef, undef, undef, undef, undef, undef, undef, undef, undef], defers := [] }) ?assign ?body ?done ?stop
  case assign =>
    intro l x W K hK
    gi_wp2
    exact hK
  case body =>
    rintro l pre ⟨x, last⟩ W ⟨⟨hH, hS⟩, hB⟩ hlt
    have hlt' : pre.length < 10 := by omega
    have hc := hS.cell
    obtain ⟨cur, hcur, hcs, hct⟩ := hH
    have hcur1 : ∀ o, (W.alloc o).heap[w.heap.size]? = some (.cells cur 122 (0, 0)) := fun o => (Below.heap_alloc W _ _ (Array.getElem?_eq_some_iff.1 hcur).1).trans hcur
    have HCT := Lib.hid hct
    have HCS := Lib.hid hcs
    have HCUR := Lib.hid hcur
    have HCUR1 := Lib.hid hcur1
    clear hlt hct hcs hcur hcur1
    cases last
    · gi_wp2_with (gi_at_builtin; refine append_tag _ rfl _ _ 119 rfl 5 i0 Try.underlying119 hi hz1 w.heap.size pre.length 10 cur 122 (HCUR1.out _) rfl _ ⟨W.heap.size, 0, none⟩ 1 rfl (cell_one_new _ _ _) (by simp [Value.oneCell']) (by omega) (by rw [HCS.out]; omega) ?_; intro w1 hw1 hgrow; have hS1 := (hS.alloc _).kept hgrow (by simp); have hc1 := hS1.cell; have hf1 := hS1.frozen)
      obtain ⟨q1, q2, q3, q4⟩ := appended (v' := .slice (some ⟨w.heap.size, 0, none⟩) (pre.length + 1) 10) hB.size HCUR1.out HCS.out HCT.out (by simpa using hlt') (by simpa using hw1) hgrow hS1
      exact ⟨q1, q2, ⟨by simpa [encB] using q3, by simpa using q4⟩, hB.trans q2⟩
    · gi_wp2_with (gi_at_builtin; refine append_tag _ rfl _ _ 119 rfl 5 i0 Try.underlying119 hi hz1 w.heap.size pre.length 10 cur 122 (HCUR1.out _) rfl _ ⟨W.heap.size, 0, none⟩ 1 rfl (cell_one_new _ _ _) (by simp [Value.oneCell']) (by omega) (by rw [HCS.out]; omega) ?_; intro w1 hw1 hgrow; have hS1 := (hS.alloc _).kept hgrow (by simp); have hc1 := hS1.cell; have hf1 := hS1.frozen)
      obtain ⟨q1, q2, q3, q4⟩ := appended (v' := .slice (some ⟨w.heap.size, 0, none⟩) (pre.length + 1) 10) hB.size HCUR1.out HCS.out HCT.out (by simpa using hlt') (by simpa using hw1) hgrow hS1
      exact ⟨q1, q2, ⟨by simpa [encB] using q3, by simpa using q4⟩, hB.trans q2⟩
  case done =>
    rintro D ys W hD rfl ⟨⟨hH, hS⟩, hB⟩ hK
    have hc := hS.cell
    have g := run_convert_bytes_arg (P := Try.prog) W 119 5 Try.underlying119 Try.underlying5 w.heap.size 0 (svs n).length 10 ((svs n).map encB) (by simp) (fun i hi => hH.cell i (by simpa using hi)) 9 Try.underlying9
    rw [put_of_svs] at g
    gi_wp2
    refine ⟨by simp, .inl ⟨_, _, rfl, run_takeDeferred hK, ?_⟩⟩
    exact ⟨_, results_tmp rfl _ _ _, rfl, hB.trans (belowK_b (w := w) (Nat.le_refl _) W D _ _ (by simp at hD; omega) hK rfl rfl)⟩
  case stop =>
    rintro D c pre W _ _ h _
    exact h.elim
end Go.Proofs.Ytflcggpeflagiaa
/-
  The contract of the program's own reader of numbers.
-/
namespace Go.Proofs.Ytflcggpeflagiaa
open Go.RowKit

theorem ret_got {x y z : Int} {a : Int} {r : Nat × Nat × Nat} (h1 : x = r.1) (h2 : y = V.behind a r) (h3 : z = r.2.2) :
    Ending.returned (.tuple #[.int .u64 x, .int .i64 y, .int .i64 z]) = .returned (.tuple #[.int .u64 r.1, .int .i64 (V.behind a r), .int .i64 r.2.2]) := by rw [h1, h2, h3]

theorem ret3 {x y z x' y' z' : Int} (h1 : x = x') (h2 : y = y') (h3 : z = z') :
    Ending.returned (.tuple #[.int .u64 x, .int .i64 y, .int .i64 z]) = .returned (.tuple #[.int .u64 x', .int .i64 y', .int .i64 z']) := by rw [h1, h2, h3]

end Go.Proofs.Ytflcggpeflagiaa
/-
  The contract of the document's own reader of numbers.
-/
namespace Go.Proofs.Ytflcggpeflagiaa
open Go.RowKit

theorem acc_zero {acc b k : Nat} (h1 : k ≤ 0) (h2 : b ≤ 0) (h : acc < 128 ^ k) : IntKind.u64.wrap (acc : Int) = ((acc + b * 128 ^ k : Nat) : Int) := by
  obtain rfl : k = 0 := by omega
  obtain rfl : b = 0 := by omega
  simp at h
  subst h
  rfl

end Go.Proofs.Ytflcggpeflagiaa
/-
  The library's contract of a text's clone, laid at this dump in plain words (the text that the kit's tools lay-shelf, lay-plain print).
-/
namespace Go.Proofs
open Go.Shelf
def Try.laysM316_ren : Go.Shelf.Ren := ⟨fun | 316 => 74 | n => n, fun | 9 => 9 | 3 => 3 | 4 => 4 | 37 => 119 | 0 => 0 | 127 => 120 | 5 => 5 | n => n, fun | n => n⟩
theorem Try.laysM316 : Go.Proofs.LaysM.n316 Try.prog Try.laysM316_ren := {
  mixed := by kernel_rfl
  f316 := Try.func74.trans (congrArg some (by kernel_rfl))
  t0 := Try.underlying0
  a0 := Try.isAgg0
  z0 := Try.sizeOf0
  v0 := Try.zeroValue0
  t3 := Try.underlying3
  a3 := Try.isAgg3
  z3 := Try.sizeOf3
  v3 := Try.zeroValue3
  t4 := Try.underlying4
  a4 := Try.isAgg4
  z4 := Try.sizeOf4
  v4 := Try.zeroValue4
  t9 := Try.underlying9
  a9 := Try.isAgg9
  z9 := Try.sizeOf9
  v9 := Try.zeroValue9
  t37 := Try.underlying119
  a37 := Try.isAgg119
  z37 := Try.sizeOf119
  v37 := Try.zeroValue119
  t127 := Try.underlying120
  a127 := Try.isAgg120
  z127 := Try.sizeOf120
  v127 := Try.zeroValue120
  t5 := Try.underlying5
  a5 := Try.isAgg5
  z5 := Try.sizeOf5
  v5 := Try.zeroValue5
  i0 := by kernel_rfl
  i3 := by kernel_rfl
  i4 := by kernel_rfl
  i5 := by kernel_rfl
  i9 := by kernel_rfl
  i37 := by kernel_rfl
  i127 := by kernel_rfl }
open Go.RowKit in
/-- the same bytes -/
theorem Try.stringslite_Clone (s : ByteArray) (w : World) (hlim : s.size ≤ 281474976710656) :
    Calls Try.prog 74 #[.string s] w fun e w' => e = .returned (.string s) ∧ Below w.heap.size w w' := Any.stringslite_Clone Try.laysM316 s w hlim
end Go.Proofs
