/-
  The contract of a number's sevens: what the loop over them is handed, and how many they are.
-/
import Derived.RangeFuncNested
import Derived.RangeFuncBound
import Derived.RangeFuncCalls
import Derived.RangeFuncLeaves
import Derived.RangeFuncBox
import Derived.RangeFuncMany
import Derived.Shelf.Abstract
import Derived.Shelf.RegionOpen
import Derived.WalkKit
import Derived.OwnWalkIn
import Derived.TacticsInMore
import Derived.LoopNIn
import Derived.LoopIn
import Derived.Maps.AppendAt
import Derived.Outline
import Derived.Lib.Hide
import Derived.Test.YthongbobopampaaProg
import Derived.Test.YthongbobopampaaMMath
import Derived.ArgAppend
import Derived.Laws.BytesArg
import Derived.Test.YthongbobopampaaMSmall
import Derived.LoopTactic
import Derived.Shelf.LaysM
import Derived.Shelf.Strconv.Clone
namespace Go.Proofs.Ythongbobopampaa
open Go.RowKit Go.Shelf

attribute [local go_sem] Oper.semAt_some

/-- the sevens of a number, the lowest first, each with whether it is the last one -/
def svs (n : Nat) : List (Int × Bool) := if n < 128 then [((n : Int), true)] else (((n % 128 : Nat) : Int), false) :: svs (n / 128)
termination_by n
decreasing_by omega
theorem svs_small {n : Nat} (h : n < 128) : svs n = [((n : Int), true)] := by rw [svs, if_pos h]
theorem svs_big {n : Nat} (h : ¬ n < 128) : svs n = (((n % 128 : Nat) : Int), false) :: svs (n / 128) := by rw [svs, if_neg h]

abbrev encs (x : Int × Bool) : Array Value := #[.int .u8 x.1, .bool x.2]

end Go.Proofs.Ythongbobopampaa
/-
  The contract of the program's own number: its bytes, out of its sevens.
-/
namespace Go.Proofs.Ythongbobopampaa
open Go.RowKit Go.Shelf

attribute [local go_sem] Oper.semAt_some

/-- append of one value to a slice over a row that has room, whatever type the row was laid with -/
theorem append_tag {F : Fence} {n : Nat} {P : Program} (w : World) {ops : Array Oper} {rest : List Oper} {o : Oper} {a : Act} {Q : Exit → Act → World → Prop}
    (hg : o.guard = none) (s x : Operand) (t : TypeId) (hop : o.op = Op.call { callee := Callee.builtin Builtin.append, args := #[s, x], argTypes := #[t, t] })
    (e : TypeId) (i : TypeInfo) (h1 : P.underlying t = some (.slice e)) (h2 : P.info? e = some i) (h4 : i.size = 1)
    (B k cap : Nat) (cur : Array Value) (T : TypeId) (hB : w.heap[B]? = some (.cells cur T (0, 0))) (hs : a.eval s = .slice (some ⟨B, 0, none⟩) k cap)
    (v : Value) (ad : Addr) (c : Nat) (hx : a.eval x = .slice (some ad) 1 c) (hc : ∀ j u, [v][j]? = some u → w.cell? (ad.add j) = some u) (h1c : v.oneCell' = true) (b1 : k + 1 ≤ cap) (b2 : k < cur.size)
    (hK : ∀ w', w'.heap[B]? = some (.cells (cur.setIfInBounds k v) T (0, 0)) → w.grownBy w' (some B) → wpListIn F n P ops Q rest (a.put o.dst (.slice (some ⟨B, 0, none⟩) (k + 1) cap)) w') :
    wpListIn F n P ops Q (o :: rest) a w := by
  refine wpListIn_plain hg fun K hK' => ?_
  have hcell : w.cell? ⟨B, k, none⟩ = cur[k]? := by simp [World.cell?, hB]
  have hfz : w.frozen? ⟨B, k, none⟩ = false := by simp [World.frozen?, hB]
  have hrun := run_append_room_cells (P := P) w t o.type e i h1 h2 B 0 k cap ad 1 c [v] (by simp [h4]) hc (by simpa using h1c) b1
    (by intro j hj; simp at hj; subst hj; simp only [h4, Nat.zero_add, Nat.mul_one, Nat.add_zero]; rw [hcell]; simp [b2])
    (by intro j hj; simp at hj; subst hj; simp only [h4, Nat.zero_add, Nat.mul_one, Nat.add_zero]; exact hfz)
  have hw : w.setCells B (0 + k * i.size) [v] = w.setRow B (cur.setIfInBounds k v) := by
    simp only [World.setCells, h4, Nat.mul_one, Nat.zero_add]
    exact setCell_eq_setRow w B k cur T (0, 0) v hB
  rw [hw] at hrun
  have r1 := setRow_heap w B cur (cur.setIfInBounds k v) T (0, 0) hB
  have r2 : w.grownBy (w.setRow B (cur.setIfInBounds k v)) (some B) := ⟨rfl, rfl, rfl, by simp, fun j _ hj => setRow_other w B j _ (fun e => hj (by rw [e]))⟩
  unfold Oper.wpIn
  refine ⟨?_, ?_⟩
  · simp [Oper.about, hop, resolve, Target.leads, Sem.run_pure]
  · rw [Oper.semAt_plain F _ _ (by rw [hop]; intro c hc'; cases hc')]
    simp [execOp, hop, resolve, invoke, builtin, hs, hx, hrun, Result.andThen]
    exact hK' _ _ (hK _ r1 r2)

/-- a byte as it is laid -/
def encB (x : Int × Bool) : Int := if x.2 then x.1 else bits .or .u8 x.1 128

theorem svs_puts (n : Nat) : (svs n).map encB = (V.puts n).map (fun b : Nat => (b : Int)) := by
  induction n using Nat.strongRecOn with
  | _ n ih =>
    by_cases h : n < 128
    · rw [svs_small h, V.puts_small h]; simp [encB]
    · rw [svs_big h, V.puts_big h]
      simp only [List.map_cons, ih _ (by omega : n / 128 < n)]
      congr 1
      simp only [encB]
      rw [if_neg (by simp), V.u8_more _ (by omega) (by omega)]
      omega

theorem svs_len (n : Nat) : (svs n).length = (V.puts n).length := by
  have := congrArg List.length (svs_puts n)
  simpa using this

theorem take_set {cur : Array Value} {k : Nat} {v : Value} {xs : List Value} (hk : k < cur.size) (h : cur.toList.take k = xs) : (cur.setIfInBounds k v).toList.take (k + 1) = xs ++ [v] := by
  rw [Array.toList_setIfInBounds, List.take_add_one, List.take_set_of_le (Nat.le_refl _), h, List.getElem?_set_self (by simpa using hk)]
  rfl

theorem put_of_svs (n : Nat) : strOfNums ((svs n).map encB) = V.put n := by
  rw [svs_puts]
  unfold strOfNums V.put V.bytesOf
  rw [List.map_map]
  rfl

theorem infoByte : (Try.prog.info? 5).map (fun i => (i.zero, i.size, i.bytes)) = some (some (.int .u8 0), 1, 1) := by kernel_rfl

end Go.Proofs.Ythongbobopampaa
/-
  The contract of the program's own reader of numbers.
-/
namespace Go.Proofs.Ythongbobopampaa
open Go.RowKit

theorem ret_got {x y z : Int} {a : Int} {r : Nat × Nat × Nat} (h1 : x = r.1) (h2 : y = V.behind a r) (h3 : z = r.2.2) :
    Ending.returned (.tuple #[.int .u64 x, .int .i64 y, .int .i64 z]) = .returned (.tuple #[.int .u64 r.1, .int .i64 (V.behind a r), .int .i64 r.2.2]) := by rw [h1, h2, h3]

theorem ret3 {x y z x' y' z' : Int} (h1 : x = x') (h2 : y = y') (h3 : z = z') :
    Ending.returned (.tuple #[.int .u64 x, .int .i64 y, .int .i64 z]) = .returned (.tuple #[.int .u64 x', .int .i64 y', .int .i64 z']) := by rw [h1, h2, h3]

end Go.Proofs.Ythongbobopampaa
/-
  The contract of the document's own reader of numbers.
-/
namespace Go.Proofs.Ythongbobopampaa
open Go.RowKit

theorem acc_zero {acc b k : Nat} (h1 : k ≤ 0) (h2 : b ≤ 0) (h : acc < 128 ^ k) : IntKind.u64.wrap (acc : Int) = ((acc + b * 128 ^ k : Nat) : Int) := by
  obtain rfl : k = 0 := by omega
  obtain rfl : b = 0 := by omega
  simp at h
  subst h
  rfl

end Go.Proofs.Ythongbobopampaa
/-
  The library's contract of a text's clone, laid at this dump in plain words (the text that the kit's tools lay-shelf, lay-plain print).
-/
namespace Go.Proofs
open Go.Shelf
def Try.laysM316_ren : Go.Shelf.Ren := ⟨fun | 316 => 36 | n => n, fun | 9 => 9 | 3 => 3 | 4 => 4 | 37 => 77 | 0 => 0 | 127 => 78 | 5 => 5 | n => n, fun | n => n⟩
theorem Try.laysM316 : Go.Proofs.LaysM.n316 Try.prog Try.laysM316_ren := {
  mixed := by kernel_rfl
  f316 := Try.func36.trans (congrArg some (by kernel_rfl))
  t0 := Try.underlying0
  a0 := Try.isAgg0
  z0 := Try.sizeOf0
  v0 := Try.zeroValue0
  t3 := Try.underlying3
  a3 := Try.isAgg3
  z3 := Try.sizeOf3
  v3 := Try.zeroValue3
  t4 := Try.underlying4
  a4 := Try.isAgg4
  z4 := Try.sizeOf4
  v4 := Try.zeroValue4
  t9 := Try.underlying9
  a9 := Try.isAgg9
  z9 := Try.sizeOf9
  v9 := Try.zeroValue9
  t37 := Try.underlying77
  a37 := Try.isAgg77
  z37 := Try.sizeOf77
  v37 := Try.zeroValue77
  t127 := Try.underlying78
  a127 := Try.isAgg78
  z127 := Try.sizeOf78
  v127 := Try.zeroValue78
  t5 := Try.underlying5
  a5 := Try.isAgg5
  z5 := Try.sizeOf5
  v5 := Try.zeroValue5
  i0 := by kernel_rfl
  i3 := by kernel_rfl
  i4 := by kernel_rfl
  i5 := by kernel_rfl
  i9 := by kernel_rfl
  i37 := by kernel_rfl
  i127 := by kernel_rfl }
open Go.RowKit in
/-- the same bytes -/
theorem Try.stringslite_Clone (s : ByteArray) (w : World) (hlim : s.size ≤ 281474976710656) :
    Calls Try.prog 36 #[.string s] w fun e w' => e = .returned (.string s) ∧ Below w.heap.size w w' := Any.stringslite_Clone Try.laysM316 s w hlim
end Go.Proofs
