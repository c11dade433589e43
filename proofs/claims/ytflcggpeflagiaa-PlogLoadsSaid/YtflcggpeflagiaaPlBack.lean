/-
  Contracts: the library's iterators over a slice, from its end on.
-/
import Derived.Test.YtflcggpeflagiaaPlSegs
import Derived.RangeFuncNested
import Derived.RangeFuncBound
import Derived.RangeFuncCalls
import Derived.RangeFuncLeaves
import Derived.RangeFuncBox
import Derived.RangeFuncMany
import Derived.RangeFuncWrites
import Derived.Shelf.Abstract
import Derived.Shelf.RegionOpen
import Derived.WalkKit
import Derived.OwnWalkIn
import Derived.TacticsInMore
import Derived.LoopNIn
import Derived.LoopIn
namespace Go.Proofs.Ytflcggpeflagiaa.L6
open Go.RowKit Go.Shelf
open L3 L4 L5

attribute [local go_sem] Oper.semAt_some

/-- some blocks stay -/
def Keeps (Ks : List Nat) (W W' : World) : Prop := ∀ k ∈ Ks, W'.heap[k]? = W.heap[k]?
theorem Keeps.trans {Ks : List Nat} {A B C : World} (h : Keeps Ks A B) (k : Keeps Ks B C) : Keeps Ks A C := fun x hx => (k x hx).trans (h x hx)
theorem Keeps.cell {Ks : List Nat} {W W' : World} (h : Keeps Ks W W') {p : Addr} (hp : p.block ∈ Ks) : W'.cell? p = W.cell? p := World.cell?_of_block (w := W) (h p.block hp)
theorem keeps_b {Ks : List Nat} {w : World} (hn : ∀ k ∈ Ks, k < w.heap.size) (W : World) (l : Nat) (o o' : Obj) (hl : w.heap.size ≤ l) (h : W.heap[l]? = some o) (_ : o.isCells = false) (_ : o.isWalk = false) : Keeps Ks W (W.putObj l o') := fun k hk => by
  have := hn k hk
  exact (grownBy_putObj' W l o').block k (by have := (Array.getElem?_eq_some_iff.1 h).1; omega) (fun e => by injection e with e; omega)
/-- places from the last one on -/
def downF {α : Type} (L : List α) : List (Fin L.length) := (List.finRange L.length).reverse
theorem downF_len {α : Type} (L : List α) : (downF L).length = L.length := by simp [downF]
theorem downF_next {α : Type} {L : List α} {t q : Nat} (h : q + 1 + t = L.length) : (downF L).take t ++ [⟨q, by omega⟩] = (downF L).take (t + 1) := by
  rw [List.take_add_one]
  congr 1
  have : (downF L)[t]? = some ⟨q, by omega⟩ := by
    unfold downF
    rw [List.getElem?_reverse (by simp; omega)]
    simp only [List.length_finRange]
    rw [List.getElem?_eq_getElem (by simp; omega), List.getElem_finRange]
    congr 1
    apply Fin.ext
    simp
    omega
  rw [this]; rfl
theorem downF_map {α β : Type} (L : List α) (f : α → β) : (downF L).map (fun x => f L[x]) = (L.map f).reverse := by
  unfold downF
  rw [List.map_reverse]
  congr 1
  apply List.ext_getElem?
  intro i
  simp [List.getElem?_map]
  by_cases h : i < L.length
  · rw [List.getElem?_eq_getElem (by simp; exact h), List.getElem_finRange]; simp [h]
  · rw [List.getElem?_eq_none (by simp; omega)]; simp [h]

/-! ### records with offsets -/
abbrev encF (L : List L4.Fd) (x : Fin L.length) : Array Value := #[.int .i64 (x.1 : Int), .agg #[.int .i64 L[x].o, .bool L[x].r.hk, .string L[x].r.key, .bool L[x].r.tb, .string L[x].r.val]]
theorem readsF_keeps {W W' : World} {B : Nat} {A : Option Addr} {L : List L4.Fd} {Ks : List Nat} (h : ReadsF W B A L) (k : Keeps Ks W W') (hA : ∀ b, blk A = some b → b ∈ Ks) : ReadsF W' B A L := fun h0 => by
  obtain ⟨b, e, hb, hc⟩ := h h0
  have hb' := hA b (by rw [e]; rfl)
  refine ⟨b, e, hb, fun i r hr => ?_⟩
  obtain ⟨c0, c1, c2, c3, c4⟩ := hc i r hr
  exact ⟨(k.cell (p := ⟨b, i * 5, none⟩) hb').trans c0, (k.cell (p := ⟨b, i * 5 + 1, none⟩) hb').trans c1, (k.cell (p := ⟨b, i * 5 + 2, none⟩) hb').trans c2, (k.cell (p := ⟨b, i * 5 + 3, none⟩) hb').trans c3, (k.cell (p := ⟨b, i * 5 + 4, none⟩) hb').trans c4⟩
/-! ### pointers -/
def ReadsG (w : World) (B : Nat) (A : Option Addr) (l : List Nat) : Prop :=
  0 < l.length → ∃ b, A = some ⟨b, 0, none⟩ ∧ b < B ∧ ∀ i g, l[i]? = some g → w.cell? ⟨b, i, none⟩ = some (.pointer (some ⟨g, 0, none⟩))
abbrev encG (L : List Nat) (x : Fin L.length) : Array Value := #[.int .i64 (x.1 : Int), .pointer (some ⟨L[x], 0, none⟩)]
theorem readsG_keeps {W W' : World} {B : Nat} {A : Option Addr} {L : List Nat} {Ks : List Nat} (h : ReadsG W B A L) (k : Keeps Ks W W') (hA : ∀ b, blk A = some b → b ∈ Ks) : ReadsG W' B A L := fun h0 => by
  obtain ⟨b, e, hb, hc⟩ := h h0
  have hb' := hA b (by rw [e]; rfl)
  exact ⟨b, e, hb, fun i r hr => (k.cell (p := ⟨b, i, none⟩) hb').trans (hc i r hr)⟩
theorem readsG_below {W W' : World} {B : Nat} {A : Option Addr} {L : List Nat} (h : ReadsG W B A L) (k : Below B W W') : ReadsG W' B A L := fun h0 => by
  obtain ⟨b, e, hb, hc⟩ := h h0
  exact ⟨b, e, hb, fun i r hr => (k.cell (p := ⟨b, i, none⟩) hb).trans (hc i r hr)⟩

set_option maxRecDepth 100000 in
set_option maxHeartbeats 2000000 in
theorem backF1_in (F : Fence) (k : Nat) (hf : F.fn 70) (hro : F.round = none) (hk : 1 ≤ k) (l Bs B m cap : Nat) (A : Option Addr) (L : List L4.Fd) (hm : L.length = m) (hl : m ≤ 1000) (J Jx : List (Fin L.length) → World → Prop)
    (hY : ∀ pre x W, J pre W → pre.length < m → YieldAt F (k - 1) Try.prog l (encF L x) W fun e W' =>
      (e = .returned (.bool true) ∧ J (pre ++ [x]) W' ∧ Keeps (Bs :: (blk A).toList) W W') ∨ (e = .returned (.bool false) ∧ Jx (pre ++ [x]) W'))
    (W : World) (hBs : W.cell? ⟨Bs, 0, none⟩ = some (.slice A m cap)) (hR : ReadsF W B A L) (h0 : J [] W) :
    CallsIn F k Try.prog 70 #[.func (.yield l) #[] #[], .pointer (some ⟨Bs, 0, none⟩)] W fun e W' => (∃ v, e = .returned v) ∧
      ((∃ ys, ys = downF L ∧ J ys W') ∨ (∃ pre, pre <+: downF L ∧ Jx pre W')) := by
  have HM := Lib.hid hm
  have HBS := Lib.hid hBs
  have e1 : wrap64 ((m : Int) - 1) = (m : Int) - 1 := by simp only [wrap64]; omega
  clear hm
  refine callsIn_of_wp Try.func70 rfl hf ?_ hro
  simp only [Try.ntmps70, List.size_toArray, List.length_cons, List.length_nil, Nat.reduceAdd, Nat.reduceSub, Array.replicate_succ, Array.replicate_zero, List.push_toArray, List.append_toArray, List.nil_append, List.cons_append]
  gi_wp2
  clear e1 hBs
  gi_loopw [3] (fun p wr => ∃ (t : Nat) (i : Int), t ≤ m ∧ p = .int .i64 i ∧ -1 ≤ i ∧ i < 1000 ∧ Hid (i = (m : Int) - 1 - t) ∧ Hid (J ((downF L).take t) wr) ∧ Hid (wr.cell? ⟨Bs, 0, none⟩ = some (.slice A m cap)) ∧ Hid (ReadsF wr B A L)) (fun p _ => (intOf p + 1).toNat)
  case atStart => exact ⟨0, (m : Int) - 1, by omega, rfl, by omega, by omega, Lib.hid (by omega), Lib.hid h0, HBS, Lib.hid hR⟩
  case round =>
    obtain ⟨t, i, ht, rfl, hi1, hi2, HI, HJ, HC, HRD⟩ := hrel
    by_cases hi : 0 ≤ i
    · obtain ⟨q, rfl⟩ : ∃ q : Nat, i = (q : Int) := ⟨i.toNat, by omega⟩
      have hqt : q + 1 + t = m := by have := HI.out; omega
      have hqm : q < m := by omega
      obtain ⟨b, rfl, hb, hcells⟩ := HRD.out (by rw [HM.out]; omega)
      have hc := HC.out
      obtain ⟨⟨o, ⟨rk, key, tb, val⟩⟩, hr⟩ : ∃ s, L[q]? = some s := ⟨_, List.getElem?_eq_getElem (by rw [HM.out]; exact hqm)⟩
      obtain ⟨d0, d1, d2, d3, d4⟩ := hcells q _ hr
      have hel0 := (List.getElem?_eq_some_iff.1 hr).2
      obtain ⟨x, hx⟩ : ∃ x : Fin L.length, x = ⟨q, by rw [HM.out]; exact hqm⟩ := ⟨_, rfl⟩
      have hxv : x.1 = q := by rw [hx]
      have hel : L[x] = ⟨o, ⟨rk, key, tb, val⟩⟩ := by subst hx; exact hel0
      dsimp only at d0 d1 d2 d3 d4
      have q0 : (0 : Int) ≤ (q : Int) := by omega
      have q1 : (q : Int) < (m : Int) := by omega
      obtain ⟨fn, tmps, assign, body, hy, hR'⟩ := hY ((downF L).take t) x wr HJ.out (by rw [List.length_take, downF_len, HM.out]; omega)
      simp only [encF, hel, hxv] at hy
      clear hr hel hel0 hxv
      have HNX : Hid ((downF L).take t ++ [x] = (downF L).take (t + 1)) := Lib.hid (by subst hx; exact downF_next (by rw [HM.out]; omega))
      have HQT := Lib.hid hqt
      clear hcells hqt hqm hx
      gi_wp2
      refine hR'.mono ?_
      rintro e W3 (⟨rfl, hJ3, hk3⟩ | ⟨rfl, hJx3⟩)
      · have e2 : wrap64 ((q : Int) - 1) = (q : Int) - 1 := by simp only [wrap64]; omega
        have HK := Lib.hid hk3
        have HJ3 := Lib.hid hJ3
        clear hk3 hJ3
        gi_wp2
        go_roundw
        case rel => exact ⟨t + 1, (q : Int) - 1, by have := HQT.out; omega, rfl, by omega, by omega, Lib.hid (by have := HQT.out; omega), Lib.hid (by have := HJ3.out; rwa [HNX.out] at this), Lib.hid ((HK.out.cell (by simp)).trans HC.out), Lib.hid (readsF_keeps HRD.out HK.out (fun k e => by simp [e]))⟩
        case measure => simp [intOf]; try omega
      · gi_wp2
        refine bodyPost_ret (results_none rfl _ _ _) rfl ?_
        exact ⟨⟨_, rfl⟩, .inr ⟨_, by rw [HNX.out]; exact List.take_prefix _ _, hJx3⟩⟩
    · have hti : t = m := by have := HI.out; omega
      gi_wp2
      go_end0
      exact ⟨⟨_, rfl⟩, .inl (by have := HJ.out; rwa [List.take_of_length_le (by rw [downF_len, HM.out]; omega)] at this)⟩
theorem backF_stops (F : Fence) (k : Nat) (hf : F.fn 70) (hro : F.round = none) (hk : 1 ≤ k) (Bs B m cap : Nat) (A : Option Addr) (L : List L4.Fd) (hm : L.length = m) (hl : m ≤ 1000) (w : World) (hBw : Bs < w.heap.size) (hc : w.cell? ⟨Bs, 0, none⟩ = some (.slice A m cap)) (hB : B ≤ w.heap.size) (hR : ReadsF w B A L) :
    SeqStopsK F k Try.prog 70 #[.pointer (some ⟨Bs, 0, none⟩)] (encF L) (Keeps (Bs :: (blk A).toList)) (fun ys => ys = downF L) (fun pre => pre <+: downF L) m w := fun l J Jx W hW _ _ hY h0 =>
  backF1_in F k hf hro hk l Bs B m cap A L hm hl J Jx hY W ((hW.cell (p := ⟨Bs, 0, none⟩) hBw).trans hc) (readsF_below hR (hW.mono hB)) h0
set_option maxHeartbeats 1000000 in
theorem backF_any (A : Option Addr) (m cap : Nat) (w : World) :
    Calls Try.prog 59 #[.slice A m cap] w fun e w' => e = .returned (.func (.func 70) #[] #[.pointer (some ⟨w.heap.size, 0, none⟩)]) ∧ w' = w.alloc (.cells #[.slice A m cap] 36) := by
  go_enter Try.func59, Try.ntmps59
  go_wp2_with fail
  go_ret
  exact ⟨rfl, rfl⟩

set_option maxRecDepth 100000 in
set_option maxHeartbeats 2000000 in
theorem backG1_in (F : Fence) (k : Nat) (hf : F.fn 58) (hro : F.round = none) (hk : 1 ≤ k) (l Bs B m cap : Nat) (A : Option Addr) (L : List Nat) (hm : L.length = m) (hl : m ≤ 1000) (J Jx : List (Fin L.length) → World → Prop)
    (hY : ∀ pre x W, J pre W → pre.length < m → YieldAt F (k - 1) Try.prog l (encG L x) W fun e W' =>
      (e = .returned (.bool true) ∧ J (pre ++ [x]) W' ∧ Keeps (Bs :: (blk A).toList) W W') ∨ (e = .returned (.bool false) ∧ Jx (pre ++ [x]) W'))
    (W : World) (hBs : W.cell? ⟨Bs, 0, none⟩ = some (.slice A m cap)) (hR : ReadsG W B A L) (h0 : J [] W) :
    CallsIn F k Try.prog 58 #[.func (.yield l) #[] #[], .pointer (some ⟨Bs, 0, none⟩)] W fun e W' => (∃ v, e = .returned v) ∧
      ((∃ ys, ys = downF L ∧ J ys W') ∨ (∃ pre, pre <+: downF L ∧ Jx pre W')) := by
  have HM := Lib.hid hm
  have HBS := Lib.hid hBs
  have e1 : wrap64 ((m : Int) - 1) = (m : Int) - 1 := by simp only [wrap64]; omega
  clear hm
  refine callsIn_of_wp Try.func58 rfl hf ?_ hro
  simp only [Try.ntmps58, List.size_toArray, List.length_cons, List.length_nil, Nat.reduceAdd, Nat.reduceSub, Array.replicate_succ, Array.replicate_zero, List.push_toArray, List.append_toArray, List.nil_append, List.cons_append]
  gi_wp2
  clear e1 hBs
  gi_loopw [3] (fun p wr => ∃ (t : Nat) (i : Int), t ≤ m ∧ p = .int .i64 i ∧ -1 ≤ i ∧ i < 1000 ∧ Hid (i = (m : Int) - 1 - t) ∧ Hid (J ((downF L).take t) wr) ∧ Hid (wr.cell? ⟨Bs, 0, none⟩ = some (.slice A m cap)) ∧ Hid (ReadsG wr B A L)) (fun p _ => (intOf p + 1).toNat)
  case atStart => exact ⟨0, (m : Int) - 1, by omega, rfl, by omega, by omega, Lib.hid (by omega), Lib.hid h0, HBS, Lib.hid hR⟩
  case round =>
    obtain ⟨t, i, ht, rfl, hi1, hi2, HI, HJ, HC, HRD⟩ := hrel
    by_cases hi : 0 ≤ i
    · obtain ⟨q, rfl⟩ : ∃ q : Nat, i = (q : Int) := ⟨i.toNat, by omega⟩
      have hqt : q + 1 + t = m := by have := HI.out; omega
      have hqm : q < m := by omega
      obtain ⟨b, rfl, hb, hcells⟩ := HRD.out (by rw [HM.out]; omega)
      have hc := HC.out
      obtain ⟨pg, hr⟩ : ∃ s, L[q]? = some s := ⟨_, List.getElem?_eq_getElem (by rw [HM.out]; exact hqm)⟩
      have d0 := hcells q _ hr
      have hel0 := (List.getElem?_eq_some_iff.1 hr).2
      obtain ⟨x, hx⟩ : ∃ x : Fin L.length, x = ⟨q, by rw [HM.out]; exact hqm⟩ := ⟨_, rfl⟩
      have hxv : x.1 = q := by rw [hx]
      have hel : L[x] = pg := by subst hx; exact hel0
      have q0 : (0 : Int) ≤ (q : Int) := by omega
      have q1 : (q : Int) < (m : Int) := by omega
      obtain ⟨fn, tmps, assign, body, hy, hR'⟩ := hY ((downF L).take t) x wr HJ.out (by rw [List.length_take, downF_len, HM.out]; omega)
      simp only [encG, hel, hxv] at hy
      clear hr hel hel0 hxv
      have HNX : Hid ((downF L).take t ++ [x] = (downF L).take (t + 1)) := Lib.hid (by subst hx; exact downF_next (by rw [HM.out]; omega))
      have HQT := Lib.hid hqt
      clear hcells hqt hqm hx
      gi_wp2
      refine hR'.mono ?_
      rintro e W3 (⟨rfl, hJ3, hk3⟩ | ⟨rfl, hJx3⟩)
      · have e2 : wrap64 ((q : Int) - 1) = (q : Int) - 1 := by simp only [wrap64]; omega
        have HK := Lib.hid hk3
        have HJ3 := Lib.hid hJ3
        clear hk3 hJ3
        gi_wp2
        go_roundw
        case rel => exact ⟨t + 1, (q : Int) - 1, by have := HQT.out; omega, rfl, by omega, by omega, Lib.hid (by have := HQT.out; omega), Lib.hid (by have := HJ3.out; rwa [HNX.out] at this), Lib.hid ((HK.out.cell (by simp)).trans HC.out), Lib.hid (readsG_keeps HRD.out HK.out (fun k e => by simp [e]))⟩
        case measure => simp [intOf]; try omega
      · gi_wp2
        refine bodyPost_ret (results_none rfl _ _ _) rfl ?_
        exact ⟨⟨_, rfl⟩, .inr ⟨_, by rw [HNX.out]; exact List.take_prefix _ _, hJx3⟩⟩
    · have hti : t = m := by have := HI.out; omega
      gi_wp2
      go_end0
      exact ⟨⟨_, rfl⟩, .inl (by have := HJ.out; rwa [List.take_of_length_le (by rw [downF_len, HM.out]; omega)] at this)⟩
theorem backG_stops (F : Fence) (k : Nat) (hf : F.fn 58) (hro : F.round = none) (hk : 1 ≤ k) (Bs B m cap : Nat) (A : Option Addr) (L : List Nat) (hm : L.length = m) (hl : m ≤ 1000) (w : World) (hBw : Bs < w.heap.size) (hc : w.cell? ⟨Bs, 0, none⟩ = some (.slice A m cap)) (hB : B ≤ w.heap.size) (hR : ReadsG w B A L) :
    SeqStopsK F k Try.prog 58 #[.pointer (some ⟨Bs, 0, none⟩)] (encG L) (Keeps (Bs :: (blk A).toList)) (fun ys => ys = downF L) (fun pre => pre <+: downF L) m w := fun l J Jx W hW _ _ hY h0 =>
  backG1_in F k hf hro hk l Bs B m cap A L hm hl J Jx hY W ((hW.cell (p := ⟨Bs, 0, none⟩) hBw).trans hc) (readsG_below hR (hW.mono hB)) h0
set_option maxHeartbeats 1000000 in
theorem backG_any (A : Option Addr) (m cap : Nat) (w : World) :
    Calls Try.prog 39 #[.slice A m cap] w fun e w' => e = .returned (.func (.func 58) #[] #[.pointer (some ⟨w.heap.size, 0, none⟩)]) ∧ w' = w.alloc (.cells #[.slice A m cap] 63) := by
  go_enter Try.func39, Try.ntmps39
  go_wp2_with fail
  go_ret
  exact ⟨rfl, rfl⟩
end Go.Proofs.Ytflcggpeflagiaa.L6
