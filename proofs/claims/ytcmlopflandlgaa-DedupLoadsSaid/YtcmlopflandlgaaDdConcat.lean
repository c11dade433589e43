/-
  Contracts: batches of several rows, one behind the other, in a row of the call's own.
-/
import Derived.Test.YtcmlopflandlgaaDdAsk
import Derived.Test.YtcmlopflandlgaaDdShelf
import Derived.Laws.AppendOwnNone
namespace Go.Proofs.Ytcmlopflandlgaa.L8
open Go.RowKit
open Go.Maps
open L3 L4

/-- a part -/
structure Pt where
  A : Option Addr
  c : Nat
  l : List Did
def cat (ps : List Pt) : List Did := ps.flatMap (·.l)
theorem cat_next {ps : List Pt} {k : Nat} {p : Pt} (h : ps[k]? = some p) : cat (ps.take (k + 1)) = cat (ps.take k) ++ p.l := by
  unfold cat; rw [List.take_add_one, h, List.flatMap_append]; simp
theorem cat_le {ps : List Pt} {k : Nat} : (cat (ps.take k)).length ≤ (cat ps).length := by
  have e : cat ps = cat (ps.take k) ++ cat (ps.drop k) := by unfold cat; rw [← List.flatMap_append, List.take_append_drop]
  rw [e, List.length_append]; omega
/-- append of any row, perhaps nil -/
theorem wpList_append_src {P : Program} {w : World} {ops : Array Oper} {rest : List Oper} {o : Oper} {a : Act} {Q : Exit → Act → World → Prop} (hgd : o.guard = none) (s x : Operand) (t : TypeId)
    (ho : o.op = .call { callee := .builtin .append, args := #[s, x], argTypes := #[t, t] })
    (base : Nat) (e : TypeId) (i : TypeInfo) (z : Value) (size bytes : Nat) (ht : P.underlying t = some (.slice e)) (hi : P.info? e = some i) (hz : i.zero = some z)
    (hsize : i.size = size) (hby : i.bytes = bytes) (hzs : z.cells.size = size) (hsz : 0 < size)
    (v : Value) (n : Nat) (xs : List Value) (hs : a.eval s = v) (hown : w.ownsRow base e size v n xs)
    (A : Option Addr) (m c : Nat) (news : List Value) (hx : a.eval x = .slice A m c) (hl : news.length = m * size) (hsrc : Src w A news) (hnil : A = none → m = 0 ∧ c = 0) (h1 : ∀ u ∈ news, u.oneCell' = true)
    (h63 : n + m ≤ maxLen) (hbytes : (n + m) * bytes ≤ 140737488355328) (hbase : base ≤ w.heap.size)
    (h : ∀ v' w', w'.ownsRow base e size v' (n + m) (xs ++ news) → w.grownBy w' v.ownBlock → wpList P ops Q rest (a.put o.dst v') w') : wpList P ops Q (o :: rest) a w := by
  cases A with
  | none =>
    obtain ⟨rfl, rfl⟩ := hnil rfl
    have hnews := hsrc.1 rfl
    subst hnews
    exact wpList_append_own_none hgd s x t ho base e i size ht hi v n xs hs hown hx (h v w (by simpa using hown) (World.grownBy.refl w _))
  | some ad => exact wpList_append_own w hgd s x t ho base e i z size bytes ht hi hz hsize hby hzs hsz v n xs hs hown ad m c news hx hl (fun j u hu => hsrc.2 ad rfl j u hu) h1 h63 hbytes hbase (fun v' w' q1 q2 _ => h v' w' q1 q2)
set_option maxRecDepth 100000 in
theorem grow_is (n : Nat) (w : World) (h0 : 0 < n) (h1 : n ≤ 100000) :
    Calls Try.prog 46 #[.slice none 0 0, .int .i64 n] w (CopyR w 50 3 0 []) := by
  obtain ⟨i0, hi0, hz0, hz1, hz2⟩ := info_parts didInfo
  have hc := Any8.slices_Grow_grow Try.growD i0 _ hi0 hz0 (by rw [hz1]; omega) none 0 0 n [] w (Nat.le_refl _) (by omega) (by rw [hz2]; omega) (by omega) (by simp) (fun _ => rfl) (fun a e => by cases e)
  refine hc.mono ?_
  rintro e w' ⟨rfl, rfl⟩
  have g1 := grownCap_ge w (0 + n) 0 50
  have g2 := grownCap_le_maxLen w (0 + n) 0 50 (by unfold maxLen; omega)
  refine ⟨_, _, rfl, ⟨rfl, .inr ⟨w.heap.size, _, _, rfl, Nat.le_refl _, heap_alloc_new _ _, Nat.zero_le _, g2, ?_, by simp⟩⟩, ((Below.refl _ _).drew).alloc (Nat.le_refl _) _⟩
  rw [Nat.zero_add] at g1
  simp [size_zeroCells, Value.cells]
  show n * 3 + (grownCap w n 0 50 - n) * 3 = grownCap w n 0 50 * 3
  omega

set_option maxRecDepth 100000 in
set_option maxHeartbeats 4000000 in
theorem concat_is (q : Nat) (ps : List Pt) (L cap n : Nat) (w : World) (hL : Hid (ps.length = L)) (hL1 : L ≤ 100) (HC : Hid (∀ k p, ps[k]? = some p → w.cell? ⟨q, k, none⟩ = some (.slice p.A p.l.length p.c))) (HS : Hid (∀ p ∈ ps, Src w p.A (rowD p.l) ∧ (p.A = none → p.c = 0))) (hn : Hid ((cat ps).length = n)) (h0 : 0 < n) (h1 : n ≤ 100000) :
    Calls Try.prog 33 #[.slice (some ⟨q, 0, none⟩) L cap] w (CopyR w 50 3 n (rowD (cat ps))) := by
  go_enter Try.func33, Try.ntmps33
  go_wp2_with fail
  go_loopw [3, 11] (fun s i wr => ∃ (k z : Nat), k ≤ L ∧ z ≤ n ∧ i = .int .i64 k ∧ s = .int .i64 z ∧ Hid ((cat (ps.take k)).length = z) ∧ w = wr) (fun _ i _ => L - (intOf i).toNat)
  case atStart => exact ⟨0, 0, by omega, by omega, rfl, rfl, Lib.hid rfl, rfl⟩
  case round =>
    obtain ⟨k, z, hk, hz, rfl, rfl, HZ, rfl⟩ := hrel
    by_cases hlt : k < L
    · obtain ⟨p, hp⟩ : ∃ p, ps[k]? = some p := ⟨_, List.getElem?_eq_getElem (by rw [hL.out]; omega)⟩
      have c0 := HC.out k p hp
      have hnx := congrArg List.length (cat_next hp)
      rw [List.length_append, HZ.out] at hnx
      obtain ⟨A, c, l⟩ := p
      dsimp only at c0 hnx
      obtain ⟨m, hm⟩ : ∃ m, l.length = m := ⟨_, rfl⟩
      rw [hm] at c0 hnx
      have hle : z + m ≤ n := by rw [← hnx, ← hn.out]; exact cat_le
      have HNX := Lib.hid hnx
      have k0 : (0 : Int) ≤ (k : Int) := by omega
      have k1 : (k : Int) < (L : Int) := by omega
      have e1 : wrap64 ((z : Int) + (m : Int)) = ((z + m : Nat) : Int) := by simp only [wrap64]; omega
      have e2 : ¬ ((z + m : Nat) : Int) < 0 := by omega
      clear hnx hp hm
      go_wp2_with fail
      go_roundw
      case rel => exact ⟨k + 1, z + m, by omega, hle, by go_num, by go_num, Lib.hid HNX.out, by trivial⟩
      case measure => simp [intOf]; omega
    · obtain rfl : k = L := by omega
      obtain rfl : z = n := by rw [← HZ.out, ← hn.out, List.take_of_length_le (by rw [hL.out]; exact Nat.le_refl _)]
      go_wp2_with (go_at_call 46; refine (grow_is z _ h0 h1).mono ?_; rintro e w1 ⟨A1, c1, rfl, hown1, hb1⟩)
      obtain ⟨i0, hi0, hz0, hz1, hz2⟩ := info_parts didInfo
      have HO1 := Lib.hid hown1
      have HB1 := Lib.hid hb1
      clear hown1 hb1 hlt
      go_loopw [6, 27] (fun s i wr => ∃ (j y : Nat) (A2 : Option Addr) (c2 : Nat), j ≤ k ∧ y ≤ z ∧ i = .int .i64 j ∧ s = .slice A2 y c2 ∧ Hid ((cat (ps.take j)).length = y) ∧ Hid (wr.ownsRow w.heap.size 50 3 (.slice A2 y c2) y (rowD (cat (ps.take j)))) ∧ Hid (Below w.heap.size w wr)) (fun _ i _ => k - (intOf i).toNat)
      case atStart => exact ⟨0, 0, A1, c1, by omega, by omega, rfl, rfl, Lib.hid rfl, HO1, HB1⟩
      case round =>
        obtain ⟨j, y, A2, c2, hj, hy, rfl, rfl, HY, HO, HB⟩ := hrel
        by_cases hlt : j < k
        · obtain ⟨p, hp⟩ : ∃ p, ps[j]? = some p := ⟨_, List.getElem?_eq_getElem (by rw [hL.out]; omega)⟩
          have c0 := HC.out j p hp
          have hnx := cat_next hp
          obtain ⟨hsr, hnl⟩ := HS.out p (List.mem_of_getElem? hp)
          obtain ⟨A, c, l⟩ := p
          dsimp only at c0 hnx hsr hnl
          obtain ⟨m, hm⟩ : ∃ m, l.length = m := ⟨_, rfl⟩
          rw [hm] at c0
          have hle : y + m ≤ z := by
            have e := congrArg List.length hnx
            rw [List.length_append, HY.out, hm] at e
            rw [← e, ← hn.out]; exact cat_le
          have c0' := cell_at HB.out c0
          have k0 : (0 : Int) ≤ (j : Int) := by omega
          have k1 : (j : Int) < (k : Int) := by omega
          have HNX := Lib.hid hnx
          have HSR := Lib.hid (hsr.below HB.out)
          have HM := Lib.hid hm
          have HNL : Hid (A = none → m = 0 ∧ c = 0) := Lib.hid (fun e => ⟨by have e1 := hsr.1 e; have e2 := rowD_len l; rw [e1, hm] at e2; simp at e2; omega, hnl e⟩)
          clear hnx hp hm c0 hsr hnl
          go_wp2_with (at_builtin; refine wpList_append_src rfl _ _ 46 (by rfl) w.heap.size 50 i0 _ 3 24 Try.underlying46 hi0 hz0 hz1 hz2 rfl (by omega) (.slice A2 y c2) y (rowD (cat (ps.take j))) (by rfl) HO.out A m c (rowD l) (by rfl) (by rw [rowD_len, HM.out]) HSR.out HNL.out (rowD_one l) (by unfold maxLen; omega) (by omega) HB.out.size ?_; intro v' w2 hown2 hgrow2; obtain ⟨A3, c3, rfl⟩ := own_len hown2)
          go_roundw
          case rel => exact ⟨j + 1, y + m, A3, c3, by omega, hle, by go_num, rfl, Lib.hid (by rw [HNX.out, List.length_append, HY.out, HM.out]), Lib.hid (by rw [HNX.out, rowD_app]; exact hown2), Lib.hid (HB.out.grown hgrow2 HB.out.size (fun q e => by
            rw [blk_own] at e
            obtain ⟨_, h2, _⟩ := own_bk HO.out q (mem_bk.2 e)
            exact h2))⟩
          case measure => simp [intOf]; omega
        · obtain rfl : j = k := by omega
          have hall : cat (ps.take j) = cat ps := by rw [List.take_of_length_le (by rw [hL.out]; exact Nat.le_refl _)]
          have HA := Lib.hid hall
          have hyz : y = z := by rw [← HY.out, ← hn.out, hall]
          clear hall
          subst hyz
          go_wp2_with fail
          go_ret
          exact ⟨A2, c2, rfl, by rw [← HA.out]; exact HO.out, HB.out⟩
end Go.Proofs.Ytcmlopflandlgaa.L8
