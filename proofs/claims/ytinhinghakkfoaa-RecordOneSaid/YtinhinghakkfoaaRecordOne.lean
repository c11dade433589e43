/-
  Proved: records one behind the other are got one by one; a batch without one of its records, if some are left, may be (of batches of at most 20 records of 80 and 600 bytes); and the fixed calls answer as they must. No condition.
-/
import Derived.Test.YtinhinghakkfoaaRows
import Derived.WalkKit
import Derived.ProofKit
import Derived.OpenShut
import Derived.ShutString
import Derived.ChangeOld
import Derived.Below
import Derived.Test.YtinhinghakkfoaaRecFixed
import Derived.Test.YtinhinghakkfoaaRecOpen
import Derived.Test.YtinhinghakkfoaaRecBound
import Derived.Test.YtinhinghakkfoaaRecLaw
import Derived.Deep.QuietTactic
import Derived.BigQuiet
import Derived.Laws.AppendOwn
import Derived.Outline
namespace Go.Proofs.Ytinhinghakkfoaa.recordOne
open Go.ChangeShapes Go.WideShapes Go.ChangeAt Go.RowKit
open Go.ChangeMaps (open_string shut_string)
open L3

theorem own : ownKnob Try.prog.godebug = none := by kernel_rfl
theorem laidOut : laidOutB Try.prog = true := by kernel_rfl

theorem box_set {w1 : World} {H : Nat} {a b c d v0 v1 v2 v3 : Value} {T : TypeId} (h : w1.heap[H]? = some (.cells #[a, b, c, d] T (0, 0))) :
    ((((w1.setCell ⟨H, 0, none⟩ v0).setCell ⟨H, 1, none⟩ v1).setCell ⟨H, 2, none⟩ v2).setCell ⟨H, 3, none⟩ v3).heap[H]? = some (.cells #[v0, v1, v2, v3] T (0, 0)) :=
  heap_setCell_same _ H 3 _ _ v3 (heap_setCell_same _ H 2 _ _ v2 (heap_setCell_same _ H 1 _ _ v1 (heap_setCell_same _ H 0 _ _ v0 h)))
theorem own_set {w : World} {base k G : Nat} {T : TypeId} {m : Nat} {V : Value} {xs : List Value} (h : w.ownsRow base T m V k xs) (hG : G < base) (v0 v1 v2 v3 : Value) :
    ((((w.setCell ⟨G, 0, none⟩ v0).setCell ⟨G, 1, none⟩ v1).setCell ⟨G, 2, none⟩ v2).setCell ⟨G, 3, none⟩ v3).ownsRow base T m V k xs :=
  ownsRow_setCell_below (ownsRow_setCell_below (ownsRow_setCell_below (ownsRow_setCell_below h (a := ⟨G, 0, none⟩) hG v0) (a := ⟨G, 1, none⟩) hG v1) (a := ⟨G, 2, none⟩) hG v2) (a := ⟨G, 3, none⟩) hG v3
theorem below_set {w w1 : World} (h : Below w.heap.size w w1) (v0 v1 v2 v3 : Value) :
    Below w.heap.size w ((((w1.setCell ⟨w.heap.size, 0, none⟩ v0).setCell ⟨w.heap.size, 1, none⟩ v1).setCell ⟨w.heap.size, 2, none⟩ v2).setCell ⟨w.heap.size, 3, none⟩ v3) :=
  (((h.setCell (p := ⟨w.heap.size, 0, none⟩) (Nat.le_refl _) v0).setCell (p := ⟨w.heap.size, 1, none⟩) (Nat.le_refl _) v1).setCell (p := ⟨w.heap.size, 2, none⟩) (Nat.le_refl _) v2).setCell (p := ⟨w.heap.size, 3, none⟩) (Nat.le_refl _) v3

theorem drewN_below' {B : Nat} {w w1 : World} (h : Below B w w1) (n : Nat) : Below B w (w1.drewN n) := ⟨h.os, h.tape, h.output, h.size, h.block⟩
theorem own_cap {w : World} {base g n cap : Nat} {T : TypeId} {m : Nat} {xs : List Value} (h : w.ownsRow base T m (.slice (some ⟨g, 0, none⟩) n cap) n xs) : n ≤ cap ∧ cap ≤ maxLen := by
  rcases h.2 with ⟨e, _⟩ | ⟨g', cap', cur, e, _, _, h1, h2, _⟩
  · injection e with e1; cases e1
  · injection e with e1 e2 e3
    subst e3
    exact ⟨h1, h2⟩
theorem rowOf_take (l : List R) (n : Nat) (h : n ≤ l.length) : rowOf (l.take n) = (rowOf l).take (n * 4) := by
  have e := rowOf_app (l.take n) (l.drop n)
  rw [List.take_append_drop] at e
  rw [e]
  have hl : (rowOf (l.take n)).length = n * 4 := by rw [rowOf_len, List.length_take]; omega
  rw [← hl, List.take_left]
theorem rowOf_drop (l : List R) (n : Nat) (h : n ≤ l.length) : rowOf (l.drop n) = (rowOf l).drop (n * 4) := by
  have e := rowOf_app (l.take n) (l.drop n)
  rw [List.take_append_drop] at e
  rw [e]
  have hl : (rowOf (l.take n)).length = n * 4 := by rw [rowOf_len, List.length_take]; omega
  rw [← hl, List.drop_left]
/-- the records ahead of a place, as cells to be appended -/
theorem news_take {w : World} {base g n cap : Nat} {T : TypeId} {l : List R} (h : w.ownsRow base T 4 (.slice (some ⟨g, 0, none⟩) l.length cap) l.length (rowOf l)) (hn : n ≤ l.length) :
    ∀ j u, (rowOf (l.take n))[j]? = some u → w.cell? ((⟨g, 0, none⟩ : Addr).add j) = some u := fun j u hu => by
  refine h.cells rfl j u ?_
  rw [rowOf_take l n hn] at hu
  have hj : j < n * 4 := by
    have := (List.getElem?_eq_some_iff.1 hu).1
    rw [List.length_take] at this
    omega
  rw [List.getElem?_take_of_lt hj] at hu
  exact hu
/-- the records behind a place -/
theorem news_drop {w : World} {base g n cap : Nat} {T : TypeId} {l : List R} (h : w.ownsRow base T 4 (.slice (some ⟨g, 0, none⟩) l.length cap) l.length (rowOf l)) (hn : n ≤ l.length) :
    ∀ j u, (rowOf (l.drop n))[j]? = some u → w.cell? ((⟨g, n * 4, none⟩ : Addr).add j) = some u := fun j u hu => by
  rw [rowOf_drop l n hn, List.getElem?_drop] at hu
  have e := h.cells rfl _ u hu
  have a1 : (⟨g, 0, none⟩ : Addr).add (n * 4 + j) = ⟨g, n * 4 + j, none⟩ := by unfold Addr.add; split <;> simp_all
  have a2 : (⟨g, n * 4, none⟩ : Addr).add j = ⟨g, n * 4 + j, none⟩ := by unfold Addr.add; split <;> simp_all
  rw [a1] at e
  rw [a2]
  exact e
theorem below_a {W w6 : World} {o : Obj} {n cap : Nat} (hg : (W.alloc o).grownBy w6 (Value.slice (some ⟨W.heap.size, 0, none⟩) n cap).ownBlock) : Below W.heap.size W w6 :=
  (one_box o).grown hg (by simp) (fun j e => by simp [Value.ownBlock] at e; omega)
theorem below_b {W w6 w7 : World} {T : TypeId} {m k : Nat} {v : Value} {xs : List Value} (h : Below W.heap.size W w6) (ho : w6.ownsRow W.heap.size T m v k xs) (hg : w6.grownBy w7 v.ownBlock) : Below W.heap.size W w7 :=
  h.grown hg h.size (fun j e => (ho.lt j e).1)
theorem own_keep {w w' : World} {base g n cap : Nat} {T : TypeId} {m : Nat} {xs : List Value} (h : w.ownsRow base T m (.slice (some ⟨g, 0, none⟩) n cap) n xs) (hb : Below w.heap.size w w') (_ : g < w.heap.size) : w'.ownsRow base T m (.slice (some ⟨g, 0, none⟩) n cap) n xs := own_below h hb
theorem less_own {w : World} {base n : Nat} {v : Value} {l m : List R} (hm : l.take n ++ l.drop (n + 1) = m) (hn : n + 1 ≤ l.length) (h : w.ownsRow base 23 4 v (0 + n + (l.length - (n + 1))) ([] ++ rowOf (l.take n) ++ rowOf (l.drop (n + 1)))) : w.ownsRow base 23 4 v m.length (rowOf m) := by
  have e1 : 0 + n + (l.length - (n + 1)) = m.length := by rw [← hm, List.length_append, List.length_take, List.length_drop]; omega
  have e2 : [] ++ rowOf (l.take n) ++ rowOf (l.drop (n + 1)) = rowOf m := by rw [← hm, rowOf_app, List.nil_append]
  rw [e1, e2] at h
  exact h
theorem news_none {w : World} {l : List R} {n : Nat} {a : Addr} (h : l.length = n + 1) : ∀ j u, (rowOf (l.drop (n + 1)))[j]? = some u → w.cell? (a.add j) = some u := fun j u hu => by
  rw [← h, List.drop_length] at hu
  simp [rowOf] at hu
theorem acc_alloc {W w : World} (h : Below W.heap.size W w) (o : Obj) : Below W.heap.size W (w.alloc o) := h.alloc h.size _
theorem i64_mask (x : Int) : 0 ≤ bits .and .i64 x 65535 ∧ bits .and .i64 x 65535 ≤ 65535 := by
  have e : (BitVec.ofInt 64 x &&& BitVec.ofInt 64 65535).toNat ≤ 65535 := by
    rw [BitVec.toNat_and]
    exact Nat.le_trans Nat.and_le_right (by decide)
  show 0 ≤ IntKind.i64.wrap ((BitVec.ofInt 64 x &&& BitVec.ofInt 64 65535).toNat : Int) ∧ IntKind.i64.wrap ((BitVec.ofInt 64 x &&& BitVec.ofInt 64 65535).toNat : Int) ≤ 65535
  rw [IntKind.wrap_i64]
  omega
/-- records one behind the other -/
def catT : List R → ByteArray
  | [] => ⟨#[]⟩
  | r :: t => r.put ++ catT t
theorem nats_cat : ∀ l : List R, V.nats (catT l) = l.flatMap fun r => V.nats r.put
  | [] => rfl
  | r :: t => by show V.nats (r.put ++ catT t) = _; rw [V.nats_append, nats_cat t]; rfl
theorem cat_size (l : List R) : (catT l).size = sumL l := by rw [← V.nats_len, nats_cat, sumL_flat]
theorem cat_next {l : List R} {k : Nat} {r : R} (h : l[k]? = some r) : catT (l.take (k + 1)) = catT (l.take k) ++ r.put := by
  apply V.nats_inj
  rw [V.nats_append, nats_cat, nats_cat, List.take_add_one, h, List.flatMap_append]
  simp
theorem cat_get {l : List R} (hall : ∀ r ∈ l, r.chk = 0) {k : Nat} {r : R} (h : l[k]? = some r) : getR (catT l) ((sumL (l.take k) : Nat) : Int) = (r, ((sumL (l.take (k + 1)) : Nat) : Int), 0) := by
  have hlt := (List.getElem?_eq_some_iff.1 h).1
  have hl : l = l.take k ++ (r :: l.drop (k + 1)) := by
    have e : l[k] = r := (List.getElem?_eq_some_iff.1 h).2
    rw [← e, ← List.drop_eq_getElem_cons hlt, List.take_append_drop]
  have hs : V.nats (catT l) = ((l.take k).flatMap fun r => V.nats r.put) ++ (V.nats r.put ++ ((l.drop (k + 1)).flatMap fun r => V.nats r.put)) := by
    rw [nats_cat]
    have := congrArg (List.flatMap fun r : R => V.nats r.put) hl
    rw [List.flatMap_append, List.flatMap_cons] at this
    exact this
  have g := getR_put (hall r (List.mem_of_getElem? h)) hs
  rw [sumL_flat] at g
  rw [g, sumL_next h, V.nats_len]
  exact Prod.ext rfl (Prod.ext (Int.natCast_add _ _).symm rfl)
theorem chkL_mk : ∀ (l : List R), (∀ r ∈ l, r.chk = 0) → chkL l = 0
  | [], _ => rfl
  | r :: t, h => by
    show (if r.chk ≠ 0 then r.chk else chkL t) = 0
    rw [h r (by simp)]
    exact chkL_mk t fun q hq => h q (by simp [hq])
/-- a batch without one of its records -/
theorem less_all {p e q : Int} {l m : List R} (h : allN p e q l = 0) (hm : ∀ r ∈ m, r ∈ l) (hl : m.length + 1 = l.length) : allN p e q m = if m.length = 0 then 30 else 0 := by
  obtain ⟨⟨p0, p1⟩, ⟨e0, e1⟩, ⟨q0, q1⟩, l0, l1, hall⟩ := allN_ok h
  have hb : (numB p && numB e && numB q) = true := by
    simp only [numB, Bool.and_eq_true, decide_eq_true_eq]
    omega
  unfold allN
  rw [hb, if_neg (by decide)]
  by_cases hz : m.length = 0
  · rw [if_pos hz, if_pos hz]
  · rw [if_neg hz, if_neg hz, if_neg (by omega)]
    exact chkL_mk m fun r hr => hall r (hm r hr)
theorem less_mem {l : List R} {n : Nat} : ∀ r ∈ l.take n ++ l.drop (n + 1), r ∈ l := fun r hr => by
  rcases List.mem_append.1 hr with h | h
  · exact List.mem_of_mem_take h
  · exact List.mem_of_mem_drop h
theorem less_len {l : List R} {n : Nat} (h : n < l.length) : (l.take n ++ l.drop (n + 1)).length + 1 = l.length := by
  rw [List.length_append, List.length_take, List.length_drop]
  omega

set_option maxRecDepth 100000 in
set_option maxHeartbeats 8000000 in
theorem walk (x0 y0 z0 : Int) (A0 : Option Addr) (l0 : List R) (c0 : Nat) (w : World) (R0 : IsRecs w A0 l0) (a1 : Int) (w1' : (Lit.int .i64 a1).wf = true) :
    Calls Try.prog 7 #[.agg #[.int .i64 x0, .int .i64 y0, .int .i64 z0, .slice A0 l0.length c0], .int .i64 a1] w fun e w' => e = .returned (.bool true) ∧ Below w.heap.size w w' := by
  obtain ⟨L, hL⟩ : ∃ L, (l0.take 20).map R.cut = L := ⟨_, rfl⟩
  have L20 : L.length ≤ 20 := by rw [← hL]; exact cutR_len l0
  have HM : Hid (∀ r ∈ L, r.key.size ≤ maxLen ∧ r.val.size ≤ maxLen) := Lib.hid (by rw [← hL]; exact cutR_max l0)
  have HL := Lib.hid hL
  obtain ⟨X, hX⟩ : ∃ X, allN x0 y0 z0 L = X := ⟨_, rfl⟩
  have HX := Lib.hid hX
  clear hL hX w1'
  by_cases h : X = 0
  · subst h
    obtain ⟨_, _, _, n0, n1, hall⟩ := allN_ok HX.out
    have HALL := Lib.hid hall
    clear hall
    obtain ⟨i0, hi0, hiz, hi1, hi2⟩ := info_parts recInfo
    go_enter Try.func7, Try.ntmps7
    go_wp2_with (first
      | (go_at_call 10; refine (bound_is _ _ _ _ _ _ _ _ _ (Lib.hid (R0.1.out.below (one_box _))) (by simp) R0.2.2 R0.2.1 HL).mono ?_; rintro e w1 ⟨A', cap', rfl, hown1, hb1⟩; have hz1 : w.heap.size < w1.heap.size := (by have := hb1.size; simp at this; omega); have hB1 : Below w.heap.size w w1 := (one_box _).trans (hb1.mono (by simp)); have hrow1 : w1.heap[w.heap.size]? = some (.cells #[.int .i64 x0, .int .i64 y0, .int .i64 z0, .slice A0 l0.length c0] 26 (0, 0)) := (hb1.block _ (by simp)).trans (heap_alloc_new _ _); have hc1 := cell_of_row w1 w.heap.size 0 _ _ _ hrow1; have hc2 := cell_of_row w1 w.heap.size 1 _ _ _ hrow1; have hc3 := cell_of_row w1 w.heap.size 2 _ _ _ hrow1; have hc4 := cell_of_row w1 w.heap.size 3 _ _ _ hrow1; have hf1 := frozen_of_row w1 w.heap.size 0 _ _ hrow1; have hf2 := frozen_of_row w1 w.heap.size 1 _ _ hrow1; have hf3 := frozen_of_row w1 w.heap.size 2 _ _ hrow1; have hf4 := frozen_of_row w1 w.heap.size 3 _ _ hrow1; have HW1 := Lib.hid (box_set (v0 := .int .i64 x0) (v1 := .int .i64 y0) (v2 := .int .i64 z0) (v3 := .slice A' L.length cap') hrow1); have HO1 := Lib.hid (own_set hown1 (by simp : w.heap.size < _) (.int .i64 x0) (.int .i64 y0) (.int .i64 z0) (.slice A' L.length cap')); have HBW := Lib.hid (below_set hB1 (.int .i64 x0) (.int .i64 y0) (.int .i64 z0) (.slice A' L.length cap')); clear hrow1 hown1)
      | (go_at_call 17; refine (all_is _ _ _ _ _ _ _ _ _ (Lib.hid (Reads.own HO1.out)) (Nat.le_refl _) L20 HM HX).mono ?_; rintro e w2 ⟨rfl, hb2⟩; have hr2 := (hb2.block w.heap.size (by simp; omega)).trans HW1.out; have e0 := (cell_of_row w2 w.heap.size 0 _ _ _ hr2).trans rfl; have e1 := (cell_of_row w2 w.heap.size 1 _ _ _ hr2).trans rfl; have e2 := (cell_of_row w2 w.heap.size 2 _ _ _ hr2).trans rfl; have e3 := (cell_of_row w2 w.heap.size 3 _ _ _ hr2).trans rfl; have HR2 := Lib.hid hr2; have HB2 := Lib.hid (acc HBW.out hb2); have HO2 := Lib.hid (own_below HO1.out hb2); have RD2 := Lib.hid (((Reads.own HO1.out).below hb2).mono hb2.size); have hzw : w.heap.size < w2.heap.size := (by have := hb2.size; simp at this; omega); clear hr2))
    obtain ⟨g, rfl, hg, hcells⟩ := RD2.out n0
    have HC := Lib.hid hcells
    clear hcells
    go_loopw [5, 6] (fun n i wr => ∃ k : Nat, k ≤ L.length ∧ i = .int .i64 k ∧ n = .string (catT (L.take k)) ∧ Below w2.heap.size w2 wr) (fun _ i _ => L.length - (intOf i).toNat)
    case atStart => exact ⟨0, by omega, rfl, rfl, Below.refl _ _⟩
    case round =>
      obtain ⟨k, hk, rfl, rfl, hbel⟩ := hrel
      have ew := (hbel.cell (p := ⟨w.heap.size, 3, none⟩) hzw).trans e3
      clear e0 e1 e2
      by_cases hlt : k < L.length
      · obtain ⟨⟨rk, key, tb, val⟩, hr⟩ : ∃ r, L[k]? = some r := ⟨L[k], List.getElem?_eq_getElem hlt⟩
        obtain ⟨z1, z2⟩ := HM.out _ (List.mem_of_getElem? hr)
        have Z1 := Lib.hid z1
        have Z2 := Lib.hid z2
        have HCK : Hid (chk rk key tb val = 0) := Lib.hid (HALL.out _ (List.mem_of_getElem? hr))
        obtain ⟨t, ht⟩ : ∃ t, putT rk key tb val = t := ⟨_, rfl⟩
        obtain ⟨al, hal⟩ : ∃ al, catT (L.take k) = al := ⟨_, rfl⟩
        have al1 : al.size ≤ 12000 := by rw [← hal, cat_size]; have := sumL_le L k; omega
        have t1 : t.size ≤ 600 := by rw [← ht]; exact putT_size _ _ _ _
        have hsn : catT (L.take (k + 1)) = al ++ t := by rw [cat_next hr, hal, ← ht]; rfl
        obtain ⟨b0, b1, b2, b3⟩ := HC.out k _ hr
        have d0 := (hbel.cell (p := ⟨g, k * 4, none⟩) hg).trans b0
        have d1 := (hbel.cell (p := ⟨g, k * 4 + 1, none⟩) hg).trans b1
        have d2 := (hbel.cell (p := ⟨g, k * 4 + 2, none⟩) hg).trans b2
        have d3 := (hbel.cell (p := ⟨g, k * 4 + 3, none⟩) hg).trans b3
        have HT' := Lib.hid ht
        have HSN := Lib.hid hsn
        have kl : (k : Int) < (L.length : Int) := by omega
        rw [hal]
        clear b0 b1 b2 b3 hr z1 z2 ht hsn hal
        dsimp only at d0 d1 d2 d3 Z1 Z2
        go_wp2_with (go_at_call 11; refine (put_is _ _ _ _ _ _ _ Z1.out Z2.out HCK HT').mono ?_; rintro e w3 ⟨rfl, hb3⟩)
        go_roundw
        case rel => exact ⟨k + 1, by omega, by go_num, by rw [HSN.out], hbel.trans (hb3.mono hbel.size)⟩
        case measure => simp [intOf]; omega
      · obtain rfl : k = L.length := by omega
        rw [List.take_length]
        obtain ⟨T, hT⟩ : ∃ T, catT L = T := ⟨_, rfl⟩
        have T1 : T.size ≤ 12000 := by rw [← hT, cat_size]; have := sumL_le L L.length; rw [List.take_length] at this; omega
        rw [hT]
        have HT := Lib.hid hT
        obtain ⟨W3, rfl⟩ : ∃ W3 : World, W3 = wr := ⟨_, rfl⟩
        have hz3 : w.heap.size < W3.heap.size := Nat.lt_of_lt_of_le hzw hbel.size
        have hg3 : g < W3.heap.size := Nat.lt_of_lt_of_le hg hbel.size
        have HR3 := Lib.hid ((hbel.block w.heap.size hzw).trans HR2.out)
        have HO3 := Lib.hid (own_below HO2.out hbel)
        have HC3 : Hid (∀ i r, L[i]? = some r → W3.cell? ⟨g, i * 4, none⟩ = some (.bool r.hk) ∧ W3.cell? ⟨g, i * 4 + 1, none⟩ = some (.string r.key) ∧ W3.cell? ⟨g, i * 4 + 2, none⟩ = some (.bool r.tb) ∧ W3.cell? ⟨g, i * 4 + 3, none⟩ = some (.string r.val)) := Lib.hid (fun i r hr => by
          obtain ⟨b0, b1, b2, b3⟩ := HC.out i _ hr
          exact ⟨(hbel.cell (p := ⟨g, i * 4, none⟩) hg).trans b0, (hbel.cell (p := ⟨g, i * 4 + 1, none⟩) hg).trans b1, (hbel.cell (p := ⟨g, i * 4 + 2, none⟩) hg).trans b2, (hbel.cell (p := ⟨g, i * 4 + 3, none⟩) hg).trans b3⟩)
        have HB3 := Lib.hid (acc HB2.out hbel)
        clear hT hbel e3
        go_wp2_with fail
        go_loopw [9, 10] (fun n i wr => ∃ k : Nat, k ≤ L.length ∧ i = .int .i64 k ∧ n = .int .i64 (sumL (L.take k) : Nat) ∧ Below W3.heap.size W3 wr) (fun _ i _ => L.length - (intOf i).toNat)
        case atStart => exact ⟨0, by omega, rfl, rfl, Below.refl _ _⟩
        case round =>
          obtain ⟨k, hk, rfl, rfl, hbel⟩ := hrel
          have ew := (hbel.cell (p := ⟨w.heap.size, 3, none⟩) hz3).trans ((cell_of_row _ _ _ _ _ _ HR3.out).trans rfl)
          by_cases hlt : k < L.length
          · obtain ⟨⟨rk, key, tb, val⟩, hr⟩ : ∃ r, L[k]? = some r := ⟨L[k], List.getElem?_eq_getElem hlt⟩
            have HG : Hid (getR T ((sumL (L.take k) : Nat) : Int) = ((⟨rk, key, tb, val⟩ : R), ((sumL (L.take (k + 1)) : Nat) : Int), 0)) := Lib.hid (by rw [← HT.out]; exact cat_get HALL.out hr)
            have hup : sumL (L.take k) + 2 ≤ sumL (L.take (k + 1)) := by rw [sumL_next hr]; have := (put_bounds (HALL.out _ (List.mem_of_getElem? hr))).1; omega
            obtain ⟨at0, h0⟩ : ∃ at0, sumL (L.take k) = at0 := ⟨_, rfl⟩
            obtain ⟨at1, h1⟩ : ∃ at1, sumL (L.take (k + 1)) = at1 := ⟨_, rfl⟩
            have H1 := Lib.hid h1
            rw [h0, h1] at hup HG
            rw [h0]
            obtain ⟨b0, b1, b2, b3⟩ := HC3.out k _ hr
            have d0 := (hbel.cell (p := ⟨g, k * 4, none⟩) hg3).trans b0
            have d1 := (hbel.cell (p := ⟨g, k * 4 + 1, none⟩) hg3).trans b1
            have d2 := (hbel.cell (p := ⟨g, k * 4 + 2, none⟩) hg3).trans b2
            have d3 := (hbel.cell (p := ⟨g, k * 4 + 3, none⟩) hg3).trans b3
            have kl : (k : Int) < (L.length : Int) := by omega
            have lup : (at0 : Int) < (at1 : Int) := by omega
            have hq : decide ((at1 : Int) ≤ (at0 : Int)) = false := by simpa using (by omega : at0 < at1)
            clear b0 b1 b2 b3 hr h0 h1 hup
            have ST1 : T.size ≤ 140737488355328 := by omega
            dsimp only at d0 d1 d2 d3
            go_wp2_with (go_at_call 22; refine (getrec_is _ _ _ _ _ _ ST1 HG).mono ?_; rintro e w3 ⟨rfl, hb3⟩; have ew3 := (hb3.cell (p := ⟨w.heap.size, 3, none⟩) (Nat.lt_of_lt_of_le hz3 hbel.size)).trans ew; have v0 := (hb3.cell (p := ⟨g, k * 4, none⟩) (Nat.lt_of_lt_of_le hg3 hbel.size)).trans d0; have v1 := (hb3.cell (p := ⟨g, k * 4 + 1, none⟩) (Nat.lt_of_lt_of_le hg3 hbel.size)).trans d1; have v2 := (hb3.cell (p := ⟨g, k * 4 + 2, none⟩) (Nat.lt_of_lt_of_le hg3 hbel.size)).trans d2; have v3 := (hb3.cell (p := ⟨g, k * 4 + 3, none⟩) (Nat.lt_of_lt_of_le hg3 hbel.size)).trans d3; have yy0 : w.heap.size < w3.heap.size := (by have := hbel.size; have := hb3.size; omega); have yy1 : g < w3.heap.size := (by have := hbel.size; have := hb3.size; omega))
            have HB3' := Lib.hid (hbel.trans (hb3.mono hbel.size))
            have hne : w.heap.size ≠ w3.heap.size := by omega
            have hne' : g ≠ w3.heap.size := by omega
            go_quiet (fail)
            go_wp2_with fail
            trace "A"
            go_roundw
            case rel => exact ⟨k + 1, by omega, by go_num, by rw [H1.out], drewN_below' (HB3'.out.alloc (by have := HB3'.out.size; omega) _) _⟩
            case measure => simp [intOf]; omega
          · obtain rfl : k = L.length := by omega
            rw [List.take_length]
            trace "B"
            clear ew
            have HR4 := Lib.hid ((hbel.block w.heap.size hz3).trans HR3.out)
            have f0 := (cell_of_row _ _ 0 _ _ _ HR4.out).trans rfl
            have f1 := (cell_of_row _ _ 1 _ _ _ HR4.out).trans rfl
            have f2 := (cell_of_row _ _ 2 _ _ _ HR4.out).trans rfl
            have f3 := (cell_of_row _ _ 3 _ _ _ HR4.out).trans rfl
            obtain ⟨W5, rfl⟩ : ∃ W5 : World, W5 = wr := ⟨_, rfl⟩
            have hz5 : w.heap.size < W5.heap.size := Nat.lt_of_lt_of_le hz3 hbel.size
            have hg5 : g < W5.heap.size := Nat.lt_of_lt_of_le hg3 hbel.size
            have HO5 := Lib.hid (own_below HO3.out hbel)
            have HB5 := Lib.hid (acc HB3.out hbel)
            have hsz : sumL L = T.size := by rw [← HT.out, cat_size]
            rw [hsz]
            have m0 := (i64_mask a1).1
            have k0 : 0 ≤ bits .and .i64 a1 65535 % (L.length : Int) := Int.emod_nonneg _ (by omega)
            have k1 : bits .and .i64 a1 65535 % (L.length : Int) < (L.length : Int) := Int.emod_lt_of_pos _ (by omega)
            obtain ⟨n, hn⟩ : ∃ n : Nat, bits .and .i64 a1 65535 % (L.length : Int) = n := ⟨_, (Int.toNat_of_nonneg k0).symm⟩
            rw [hn] at k0 k1
            have hl0 : (0 : Int) < (L.length : Int) := by omega
            obtain ⟨c0', c1'⟩ := own_cap HO5.out
            unfold maxLen at c1'
            have q0 : n ≤ cap' := by omega
            have q1 : ¬ cap' = 0 := by omega
            have q2 : n + 1 ≤ L.length := by omega
            have q3 : L.length ≤ cap' := c0'
            clear hbel hsz
            have LT : (rowOf (L.take n)).length = n * 4 := by rw [rowOf_len, List.length_take]; omega
            have LD : (rowOf (L.drop (n + 1))).length = (L.length - (n + 1)) * 4 := by rw [rowOf_len, List.length_drop]
            have HLT := Lib.hid LT
            have HLD := Lib.hid LD
            have N1 := Lib.hid (news_take (HO5.out.alloc (.cells #[] 23)) (Nat.le_of_succ_le q2))
            have H1 := Lib.hid (rowOf_one (L.take n))
            have H2 := Lib.hid (rowOf_one (L.drop (n + 1)))
            clear LT LD
            obtain ⟨M, hM⟩ : ∃ M, Hid (L.take n ++ L.drop (n + 1) = M) := ⟨_, Lib.hid rfl⟩
            have ML : M.length + 1 = L.length := by rw [← hM.out]; exact less_len q2
            have M20 : M.length ≤ 20 := by omega
            have HS7 : Hid (∀ r ∈ M, r.key.size ≤ maxLen ∧ r.val.size ≤ maxLen) := Lib.hid (fun r hr => HM.out r (by rw [← hM.out] at hr; exact less_mem r hr))
            have HX7 := Lib.hid (less_all HX.out (m := M) (fun r hr => by rw [← hM.out] at hr; exact less_mem r hr) ML)
            have HML := Lib.hid ML
            clear ML
            by_cases hz : M.length = 0
            · rw [if_pos hz] at HX7
              obtain rfl : M = [] := List.length_eq_zero_iff.1 hz
              clear hz
              by_cases hcap : cap' = n + 1
              · have HEL : Hid (L.length = n + 1) := Lib.hid (by omega)
                clear q0 q1 q3 c0' c1'
                subst hcap
                go_wp2_with (first
                  | (at_builtin; refine wpList_append_own _ rfl (.tmp 82) (.tmp 86) 24 (by rfl) W5.heap.size 23 i0 _ 4 48 Try.underlying24 hi0 hiz hi1 hi2 rfl (by omega) _ 0 [] (by rfl) (World.ownsRow_made W5 #[] 0 (Nat.le_refl _) (by unfold maxLen; omega) rfl) ⟨g, 0, none⟩ n _ (rowOf (L.take n)) (by rfl) HLT.out N1.out H1.out (by unfold maxLen; omega) (by omega) (by simp) ?_; intro v1 w6 hown6 hgrow6 _; have HB6 := Lib.hid (below_a hgrow6); have HO6 := Lib.hid hown6; have HR6 := Lib.hid ((HB6.out.block w.heap.size hz5).trans HR4.out); have z3 := (cell_of_row _ _ 3 _ _ _ HR6.out).trans rfl; have ow := HB6.out.size; clear hown6 hgrow6)
                  | (at_builtin; refine wpList_append_own _ rfl (.tmp 88) (.tmp 93) 24 (by rfl) W5.heap.size 23 i0 _ 4 48 Try.underlying24 hi0 hiz hi1 hi2 rfl (by omega) v1 (0 + n) ([] ++ rowOf (L.take n)) (by rfl) HO6.out ⟨g, 0, none⟩ (L.length - (n + 1)) _ (rowOf (L.drop (n + 1))) (by rfl) HLD.out (news_none HEL.out) H2.out (by unfold maxLen; omega) (by omega) ow ?_; intro v2 w7 hown7 hgrow7 _; have HB7 := Lib.hid (below_b HB6.out HO6.out hgrow7); have HO7 := Lib.hid (less_own hM.out q2 hown7); obtain ⟨A7, c7, rfl⟩ := own_form HO7.out; have HR7 := Lib.hid ((HB7.out.block w.heap.size hz5).trans HR4.out); have u0 := (cell_of_row _ _ 0 _ _ _ HR7.out).trans rfl; have u1 := (cell_of_row _ _ 1 _ _ _ HR7.out).trans rfl; have u2 := (cell_of_row _ _ 2 _ _ _ HR7.out).trans rfl; have u3 := (cell_of_row _ _ 3 _ _ _ HR7.out).trans rfl; have HB8 := Lib.hid (acc HB5.out HB7.out); have RD7 := Lib.hid (Reads.own HO7.out); clear hown7 hgrow7)
                  | (go_at_call 17; have _q := HB8; refine (all_is _ _ _ _ _ _ w7.heap.size _ _ (Lib.hid (RD7.out.below (one_box _))) (by simp) M20 HS7 HX7).mono ?_; rintro e w8 ⟨rfl, hb8⟩; have HB9 := Lib.hid (acc (acc_alloc HB8.out _) hb8))
                  | (go_at_call 21; refine (fixed3_any _).mono ?_; rintro e wf ⟨rfl, hbf⟩; have HBF := Lib.hid (acc HB9.out hbf)))
                go_ret
                exact ⟨rfl, HBF.out⟩
              · have q4 : ¬ cap' ≤ n + 1 := by omega
                go_wp2_with (first
                  | (at_builtin; refine wpList_append_own _ rfl (.tmp 82) (.tmp 86) 24 (by rfl) W5.heap.size 23 i0 _ 4 48 Try.underlying24 hi0 hiz hi1 hi2 rfl (by omega) _ 0 [] (by rfl) (World.ownsRow_made W5 #[] 0 (Nat.le_refl _) (by unfold maxLen; omega) rfl) ⟨g, 0, none⟩ n _ (rowOf (L.take n)) (by rfl) HLT.out N1.out H1.out (by unfold maxLen; omega) (by omega) (by simp) ?_; intro v1 w6 hown6 hgrow6 _; have HB6 := Lib.hid (below_a hgrow6); have HO6 := Lib.hid hown6; have HR6 := Lib.hid ((HB6.out.block w.heap.size hz5).trans HR4.out); have z3 := (cell_of_row _ _ 3 _ _ _ HR6.out).trans rfl; have ow := HB6.out.size; clear hown6 hgrow6)
                  | (at_builtin; refine wpList_append_own _ rfl (.tmp 88) (.tmp 93) 24 (by rfl) W5.heap.size 23 i0 _ 4 48 Try.underlying24 hi0 hiz hi1 hi2 rfl (by omega) v1 (0 + n) ([] ++ rowOf (L.take n)) (by rfl) HO6.out ⟨g, (n + 1) * 4, none⟩ (L.length - (n + 1)) _ (rowOf (L.drop (n + 1))) (by rfl) HLD.out (news_drop (own_keep HO5.out HB6.out hg5) q2) H2.out (by unfold maxLen; omega) (by omega) ow ?_; intro v2 w7 hown7 hgrow7 _; have HB7 := Lib.hid (below_b HB6.out HO6.out hgrow7); have HO7 := Lib.hid (less_own hM.out q2 hown7); obtain ⟨A7, c7, rfl⟩ := own_form HO7.out; have HR7 := Lib.hid ((HB7.out.block w.heap.size hz5).trans HR4.out); have u0 := (cell_of_row _ _ 0 _ _ _ HR7.out).trans rfl; have u1 := (cell_of_row _ _ 1 _ _ _ HR7.out).trans rfl; have u2 := (cell_of_row _ _ 2 _ _ _ HR7.out).trans rfl; have u3 := (cell_of_row _ _ 3 _ _ _ HR7.out).trans rfl; have HB8 := Lib.hid (acc HB5.out HB7.out); have RD7 := Lib.hid (Reads.own HO7.out); clear hown7 hgrow7)
                  | (go_at_call 17; have _q := HB8; refine (all_is _ _ _ _ _ _ w7.heap.size _ _ (Lib.hid (RD7.out.below (one_box _))) (by simp) M20 HS7 HX7).mono ?_; rintro e w8 ⟨rfl, hb8⟩; have HB9 := Lib.hid (acc (acc_alloc HB8.out _) hb8))
                  | (go_at_call 21; refine (fixed3_any _).mono ?_; rintro e wf ⟨rfl, hbf⟩; have HBF := Lib.hid (acc HB9.out hbf)))
                go_ret
                exact ⟨rfl, HBF.out⟩
            · rw [if_neg hz] at HX7
              by_cases hcap : cap' = n + 1
              · have HEL : Hid (L.length = n + 1) := Lib.hid (by omega)
                clear q0 q1 q3 c0' c1'
                subst hcap
                go_wp2_with (first
                  | (at_builtin; refine wpList_append_own _ rfl (.tmp 82) (.tmp 86) 24 (by rfl) W5.heap.size 23 i0 _ 4 48 Try.underlying24 hi0 hiz hi1 hi2 rfl (by omega) _ 0 [] (by rfl) (World.ownsRow_made W5 #[] 0 (Nat.le_refl _) (by unfold maxLen; omega) rfl) ⟨g, 0, none⟩ n _ (rowOf (L.take n)) (by rfl) HLT.out N1.out H1.out (by unfold maxLen; omega) (by omega) (by simp) ?_; intro v1 w6 hown6 hgrow6 _; have HB6 := Lib.hid (below_a hgrow6); have HO6 := Lib.hid hown6; have HR6 := Lib.hid ((HB6.out.block w.heap.size hz5).trans HR4.out); have z3 := (cell_of_row _ _ 3 _ _ _ HR6.out).trans rfl; have ow := HB6.out.size; clear hown6 hgrow6)
                  | (at_builtin; refine wpList_append_own _ rfl (.tmp 88) (.tmp 93) 24 (by rfl) W5.heap.size 23 i0 _ 4 48 Try.underlying24 hi0 hiz hi1 hi2 rfl (by omega) v1 (0 + n) ([] ++ rowOf (L.take n)) (by rfl) HO6.out ⟨g, 0, none⟩ (L.length - (n + 1)) _ (rowOf (L.drop (n + 1))) (by rfl) HLD.out (news_none HEL.out) H2.out (by unfold maxLen; omega) (by omega) ow ?_; intro v2 w7 hown7 hgrow7 _; have HB7 := Lib.hid (below_b HB6.out HO6.out hgrow7); have HO7 := Lib.hid (less_own hM.out q2 hown7); obtain ⟨A7, c7, rfl⟩ := own_form HO7.out; have HR7 := Lib.hid ((HB7.out.block w.heap.size hz5).trans HR4.out); have u0 := (cell_of_row _ _ 0 _ _ _ HR7.out).trans rfl; have u1 := (cell_of_row _ _ 1 _ _ _ HR7.out).trans rfl; have u2 := (cell_of_row _ _ 2 _ _ _ HR7.out).trans rfl; have u3 := (cell_of_row _ _ 3 _ _ _ HR7.out).trans rfl; have HB8 := Lib.hid (acc HB5.out HB7.out); have RD7 := Lib.hid (Reads.own HO7.out); clear hown7 hgrow7)
                  | (go_at_call 17; have _q := HB8; refine (all_is _ _ _ _ _ _ w7.heap.size _ _ (Lib.hid (RD7.out.below (one_box _))) (by simp) M20 HS7 HX7).mono ?_; rintro e w8 ⟨rfl, hb8⟩; have HB9 := Lib.hid (acc (acc_alloc HB8.out _) hb8))
                  | (go_at_call 21; refine (fixed3_any _).mono ?_; rintro e wf ⟨rfl, hbf⟩; have HBF := Lib.hid (acc HB9.out hbf)))
                go_ret
                exact ⟨rfl, HBF.out⟩
              · have q4 : ¬ cap' ≤ n + 1 := by omega
                go_wp2_with (first
                  | (at_builtin; refine wpList_append_own _ rfl (.tmp 82) (.tmp 86) 24 (by rfl) W5.heap.size 23 i0 _ 4 48 Try.underlying24 hi0 hiz hi1 hi2 rfl (by omega) _ 0 [] (by rfl) (World.ownsRow_made W5 #[] 0 (Nat.le_refl _) (by unfold maxLen; omega) rfl) ⟨g, 0, none⟩ n _ (rowOf (L.take n)) (by rfl) HLT.out N1.out H1.out (by unfold maxLen; omega) (by omega) (by simp) ?_; intro v1 w6 hown6 hgrow6 _; have HB6 := Lib.hid (below_a hgrow6); have HO6 := Lib.hid hown6; have HR6 := Lib.hid ((HB6.out.block w.heap.size hz5).trans HR4.out); have z3 := (cell_of_row _ _ 3 _ _ _ HR6.out).trans rfl; have ow := HB6.out.size; clear hown6 hgrow6)
                  | (at_builtin; refine wpList_append_own _ rfl (.tmp 88) (.tmp 93) 24 (by rfl) W5.heap.size 23 i0 _ 4 48 Try.underlying24 hi0 hiz hi1 hi2 rfl (by omega) v1 (0 + n) ([] ++ rowOf (L.take n)) (by rfl) HO6.out ⟨g, (n + 1) * 4, none⟩ (L.length - (n + 1)) _ (rowOf (L.drop (n + 1))) (by rfl) HLD.out (news_drop (own_keep HO5.out HB6.out hg5) q2) H2.out (by unfold maxLen; omega) (by omega) ow ?_; intro v2 w7 hown7 hgrow7 _; have HB7 := Lib.hid (below_b HB6.out HO6.out hgrow7); have HO7 := Lib.hid (less_own hM.out q2 hown7); obtain ⟨A7, c7, rfl⟩ := own_form HO7.out; have HR7 := Lib.hid ((HB7.out.block w.heap.size hz5).trans HR4.out); have u0 := (cell_of_row _ _ 0 _ _ _ HR7.out).trans rfl; have u1 := (cell_of_row _ _ 1 _ _ _ HR7.out).trans rfl; have u2 := (cell_of_row _ _ 2 _ _ _ HR7.out).trans rfl; have u3 := (cell_of_row _ _ 3 _ _ _ HR7.out).trans rfl; have HB8 := Lib.hid (acc HB5.out HB7.out); have RD7 := Lib.hid (Reads.own HO7.out); clear hown7 hgrow7)
                  | (go_at_call 17; have _q := HB8; refine (all_is _ _ _ _ _ _ w7.heap.size _ _ (Lib.hid (RD7.out.below (one_box _))) (by simp) M20 HS7 HX7).mono ?_; rintro e w8 ⟨rfl, hb8⟩; have HB9 := Lib.hid (acc (acc_alloc HB8.out _) hb8))
                  | (go_at_call 21; refine (fixed3_any _).mono ?_; rintro e wf ⟨rfl, hbf⟩; have HBF := Lib.hid (acc HB9.out hbf)))
                go_ret
                exact ⟨rfl, HBF.out⟩
  · have hx1 : (X != 0) = true := by simpa using h
    clear h
    go_enter Try.func7, Try.ntmps7
    go_wp2_with (first
      | (go_at_call 10; refine (bound_is _ _ _ _ _ _ _ _ _ (Lib.hid (R0.1.out.below (one_box _))) (by simp) R0.2.2 R0.2.1 HL).mono ?_; rintro e w1 ⟨A', cap', rfl, hown1, hb1⟩; have hz1 : w.heap.size < w1.heap.size := (by have := hb1.size; simp at this; omega); have hB1 : Below w.heap.size w w1 := (one_box _).trans (hb1.mono (by simp)); have hrow1 : w1.heap[w.heap.size]? = some (.cells #[.int .i64 x0, .int .i64 y0, .int .i64 z0, .slice A0 l0.length c0] 26 (0, 0)) := (hb1.block _ (by simp)).trans (heap_alloc_new _ _); have hc1 := cell_of_row w1 w.heap.size 0 _ _ _ hrow1; have hc2 := cell_of_row w1 w.heap.size 1 _ _ _ hrow1; have hc3 := cell_of_row w1 w.heap.size 2 _ _ _ hrow1; have hc4 := cell_of_row w1 w.heap.size 3 _ _ _ hrow1; have hf1 := frozen_of_row w1 w.heap.size 0 _ _ hrow1; have hf2 := frozen_of_row w1 w.heap.size 1 _ _ hrow1; have hf3 := frozen_of_row w1 w.heap.size 2 _ _ hrow1; have hf4 := frozen_of_row w1 w.heap.size 3 _ _ hrow1; have HW1 := Lib.hid (box_set (v0 := .int .i64 x0) (v1 := .int .i64 y0) (v2 := .int .i64 z0) (v3 := .slice A' L.length cap') hrow1); have HO1 := Lib.hid (own_set hown1 (by simp : w.heap.size < _) (.int .i64 x0) (.int .i64 y0) (.int .i64 z0) (.slice A' L.length cap')); have HBW := Lib.hid (below_set hB1 (.int .i64 x0) (.int .i64 y0) (.int .i64 z0) (.slice A' L.length cap')); clear hrow1 hown1)
      | (go_at_call 17; refine (all_is _ _ _ _ _ _ _ _ _ (Lib.hid (Reads.own HO1.out)) (Nat.le_refl _) L20 HM HX).mono ?_; rintro e w2 ⟨rfl, hb2⟩; have hr2 := (hb2.block w.heap.size (by simp; omega)).trans HW1.out; have e0 := (cell_of_row w2 w.heap.size 0 _ _ _ hr2).trans rfl; have e1 := (cell_of_row w2 w.heap.size 1 _ _ _ hr2).trans rfl; have e2 := (cell_of_row w2 w.heap.size 2 _ _ _ hr2).trans rfl; have e3 := (cell_of_row w2 w.heap.size 3 _ _ _ hr2).trans rfl; have HR2 := Lib.hid hr2; have HB2 := Lib.hid (acc HBW.out hb2); have HO2 := Lib.hid (own_below HO1.out hb2); have RD2 := Lib.hid (((Reads.own HO1.out).below hb2).mono hb2.size); have hzw : w.heap.size < w2.heap.size := (by have := hb2.size; simp at this; omega); clear hr2)
      | (go_at_call 21; refine (fixed3_any _).mono ?_; rintro e wf ⟨rfl, hbf⟩))
    go_ret
    exact ⟨rfl, acc HB2.out hbf⟩

set_option maxRecDepth 100000 in
theorem lifted (os : Os) (started : os.Started) (H : Type) (enc : TypeId × Value → H) :
    ReturnsInHanded {} Try.checked os 7 .any (Rows.recordOneSpec.pre6 enc Try.prog Try.f7 Rows.recordOneRow.domain false) (Rows.recordOneSpec.post enc Try.prog Try.f7 false true false false) := by
  refine returnsInHanded_of_change (C := Try.checked) own started (by kernel_rfl) Try.func7
    (ChangeSpec.witness6 (enc := enc) (C := Try.checked) false ⟨#[], #[.agg #[.int .i64 0, .int .i64 0, .int .i64 0, .slice none 0 0], .int .i64 0], []⟩ 8 (by kernel_rfl) (by kernel_rfl) (by kernel_rfl) (by kernel_rfl)) ?_
  intro W base args ds gs before hval0 hW _ _
  have hval : ∀ (j : Nat) t v, Try.f7.params[j]? = some t → args[j]? = some v → Value.okWide Try.prog W .any base t v := hval0
  have hW' := hW
  obtain ⟨p, q, hA0, hV, rfl, hfz, hnd⟩ := hW
  have hA : DataW.TrodAll enc Try.prog W 0 (fun _ => true) true Try.f7.params.toList args.toList ds p := hA0
  rw [Try.params7] at hA hval
  obtain ⟨v0, vs0, d0, ds0, p0, q0, hargs, rfl, rfl, h0, r0⟩ := trodAll_cons hA
  obtain ⟨v1, vs1, d1, ds1, p1, q1, rfl, rfl, rfl, h1, r1⟩ := trodAll_cons r0
  obtain ⟨rfl, rfl, rfl⟩ := trodAll_nil r1
  obtain rfl : args = #[v0, v1] := by cases args; simp_all
  obtain ⟨rfl, rfl⟩ := trodVars_none hV
  have k0 := h0
  have lt0 : ∀ x ∈ p0, x.block < W.heap.size := by obtain ⟨m, hm⟩ := k0; exact DataW.trod_lt m _ _ _ hm
  have k1 := h1
  have lt1 : ∀ x ∈ p1, x.block < W.heap.size := by obtain ⟨m, hm⟩ := k1; exact DataW.trod_lt m _ _ _ hm
  obtain ⟨x0, y0, z0, A0, l0, c0, e0, R0⟩ := L3.open_batch (hval 0 26 v0 rfl rfl) h0
  subst e0
  obtain ⟨a1, e1, _, _, w1⟩ := open_int Try.underlying3 (hval 1 3 v1 rfl rfl) h1
  subst e1
  clear hA0 hval0
  refine (walk x0 y0 z0 A0 l0 c0 W R0 a1 w1).mono fun e W' ⟨he, bel⟩ => ?_
  subst he
  exact ⟨_, rfl, _, _, _, [], _, [], hW', trodAll_mk1 (shut_bool Try.underlying4 _), (trodAll_cons_mk (Below.trod laidOut (by kernel_rfl) (of_decide_eq_true (by kernel_rfl)) k0 bel lt0) (trodAll_cons_mk (Below.trod laidOut (by kernel_rfl) (of_decide_eq_true (by kernel_rfl)) k1 bel lt1) trodAll_mk0)), rfl, bel.frame _, fun h => by cases h⟩

theorem over : Rows.recordOneRow.holds Try.pinned (OpenSpec.ofChange Rows.recordOneSpec) :=
  OpenClaim.holds_of_wide 7 Try.f7 rfl rfl rfl rfl rfl rfl rfl ⟨rfl, rfl, rfl, rfl, rfl⟩ rfl rfl rfl rfl rfl (by kernel_rfl) Try.func7 (by kernel_rfl)
    (of_decide_eq_true (by kernel_rfl)) (by unfold Func.isWrapper; first | (rw [if_pos (by decide +kernel)]; kernel_rfl) | (rw [if_neg (by decide +kernel)]; exact ⟨rfl, rfl⟩))
    (fun os started H enc _ => lifted os started H enc)

/-- the statement -/
theorem proved : Rows.RecordOneSaid :=
  over
#print axioms proved
end Go.Proofs.Ytinhinghakkfoaa.recordOne
