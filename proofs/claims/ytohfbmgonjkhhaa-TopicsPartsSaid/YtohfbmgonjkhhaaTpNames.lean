/-
  Contracts: the loop over the topics' names, by rising names.
-/
import Derived.Test.YtohfbmgonjkhhaaTpMake
import Derived.RangeFuncNested
import Derived.RangeFuncBound
import Derived.RangeFuncCalls
import Derived.RangeFuncLeaves
import Derived.RangeFuncBox
import Derived.RangeFuncMany
import Derived.RangeFuncWrites
import Derived.Shelf.Abstract
import Derived.Shelf.RegionOpen
import Derived.WalkKit
import Derived.OwnWalkIn
import Derived.TacticsInMore
import Derived.LoopNIn
import Derived.LoopIn
namespace Go.Proofs.Ytohfbmgonjkhhaa.L9
open Go.RowKit Go.Shelf
open Go.Maps
open L3 L4

attribute [local go_sem] Oper.semAt_some

/-- rows of texts stay -/
def KpS (W W' : World) : Prop := ∀ (k : Nat) (cs : Array Value) (fr : Nat × Nat), W.heap[k]? = some (.cells cs 9 fr) → W'.heap[k]? = W.heap[k]?
theorem KpS.trans {A B C : World} (h : KpS A B) (k : KpS B C) : KpS A C := fun x cs fr hx => by
  have h1 := h x cs fr hx
  exact (k x cs fr (h1.trans hx)).trans h1
theorem kpS_b {w : World} (W : World) (l : Nat) (o o' : Obj) (_ : w.heap.size ≤ l) (h : W.heap[l]? = some o) (hc : o.isCells = false) (_ : o.isWalk = false) : KpS W (W.putObj l o') := fun k cs fr hk => by
  refine (grownBy_putObj' W l o').block k (Array.getElem?_eq_some_iff.1 hk).1 (fun e => ?_)
  injection e with e; subst e
  rw [h] at hk; injection hk with hk; rw [hk] at hc; cases hc
theorem KpS.below {W W' : World} (b : Below W.heap.size W W') : KpS W W' := fun k _ _ hk => b.block k (Array.getElem?_eq_some_iff.1 hk).1
/-- a slice of texts in a row of its own -/
def RowS (w : World) (A : Option Addr) (l : List ByteArray) : Prop := 0 < l.length → ∃ g cs fr, A = some ⟨g, 0, none⟩ ∧ w.heap[g]? = some (.cells cs 9 fr) ∧ ∀ i s, l[i]? = some s → w.cell? ⟨g, i, none⟩ = some (.string s)
theorem RowS.kept {W W' : World} {A : Option Addr} {l : List ByteArray} (h : RowS W A l) (k : KpS W W') : RowS W' A l := fun h0 => by
  obtain ⟨g, cs, fr, e, hg, hc⟩ := h h0
  have hb := k g cs fr hg
  exact ⟨g, cs, fr, e, hb.trans hg, fun i s hs => (World.cell?_of_block (w := W) hb).trans (hc i s hs)⟩
theorem enc_kb (x : ByteArray) : Go.Proofs.encStr (kb x) = .string x := by
  cases x; simp [Go.Proofs.encStr, kb]
theorem rowS_own {w : World} {base n c m : Nat} {A : Option Addr} {l : List ByteArray} (h : w.ownsRow base 9 1 (.slice A n c) m (l.map (fun x => Go.Proofs.encStr (kb x)))) (hm : l.length = m) : RowS w A l := fun h0 => by
  rcases h.2 with ⟨_, e⟩ | ⟨g, cap, cur, e, h1, hh, _⟩
  · omega
  · injection e with e1; subst e1
    refine ⟨g, cur, (0, 0), rfl, hh, fun i s hs => ?_⟩
    have q := h.cells (g := g) rfl i (.string s) (by rw [List.getElem?_map, hs, ← enc_kb]; rfl)
    rwa [Addr.add_lit, Nat.zero_add] at q
theorem abides_below {β : Type} {B : Nat} {J : β → World → Prop} (h : AbidesFrom B J) {s : β} {W W' : World} (hs : J s W) (b : Below W.heap.size W W') : J s W' :=
  h s W W' none hs ⟨b.os, b.tape, b.output, b.size, fun k hk _ => b.block k hk⟩ (fun r e => by cases e)
abbrev encN (Q : List Pt) (x : Fin Q.length) : Array Value := #[.string Q[x].t]
/-- the topics at some places -/
def atN (Q : List Pt) (l : List (Fin Q.length)) : List Pt := l.map (fun x => Q[x])
theorem atN_len (Q : List Pt) (l : List (Fin Q.length)) : (atN Q l).length = l.length := by simp [atN]
theorem atN_snoc (Q : List Pt) (l : List (Fin Q.length)) (x : Fin Q.length) : atN Q (l ++ [x]) = atN Q l ++ [Q[x]] := by simp [atN]
theorem atN_all (Q : List Pt) : atN Q (List.finRange Q.length) = Q := by
  unfold atN
  apply List.ext_getElem
  · simp
  · intro i h1 h2
    simp
theorem fin_next {Q : List Pt} {t : Nat} (h : t < Q.length) : (List.finRange Q.length).take t ++ [⟨t, h⟩] = (List.finRange Q.length).take (t + 1) := by
  rw [List.take_add_one]
  congr 1
  rw [List.getElem?_eq_getElem (by simpa using h), List.getElem_finRange]
  rfl

set_option maxRecDepth 100000 in
set_option maxHeartbeats 2000000 in
theorem names1_in (k : Nat) (hk : 1 ≤ k) (l Bn g b N m : Nat) (Q : List Pt) (hm : Q.length = m) (hl : m ≤ 8) (hQ : Hid (Rise Q)) (J Jx : List (Fin Q.length) → World → Prop)
    (hY : ∀ pre x W, J pre W → pre.length < m → YieldAt Fence.wide (k - 1) Try.prog l (encN Q x) W fun e W' =>
      (e = .returned (.bool true) ∧ J (pre ++ [x]) W' ∧ KpS W W') ∨ (e = .returned (.bool false) ∧ Jx (pre ++ [x]) W'))
    (W : World) (hJ : AbidesFrom W.heap.size J) (hBn : W.cell? ⟨Bn, 0, none⟩ = some (.pointer (some ⟨g, 0, none⟩))) (hC : Hid (Cat W g b N Q)) (h0 : J [] W) :
    CallsIn Fence.wide k Try.prog 42 #[.func (.yield l) #[] #[], .pointer (some ⟨Bn, 0, none⟩)] W fun e W' => (∃ v, e = .returned v) ∧
      ((∃ ys, ys = List.finRange Q.length ∧ J ys W') ∨ (∃ pre, pre <+: List.finRange Q.length ∧ Jx pre W')) := by
  have HM := Lib.hid hm
  have c0 := hC.out.c0
  obtain ⟨D, ho, hd⟩ := hC.out.map
  have HP := Lib.hid (hd.perm hQ.out ho)
  have hsz : Maps.size D = m := (hd.size hQ.out ho).trans hm
  have HO := Lib.hid ho
  have HJA := Lib.hid hJ
  have HJ0 := Lib.hid h0
  have s1 : Maps.size D ≤ maxLen := by rw [hsz]; unfold maxLen; omega
  have s2 : Maps.size D * 16 ≤ 140737488355328 := by rw [hsz]; omega
  have S1 := Lib.hid s1
  have S2 := Lib.hid s2
  clear hm ho hd hJ h0 hsz s1 s2
  have hfK : Fence.wide.fn 44 := trivial
  have hfS : Fence.wide.fn 43 := trivial
  refine callsIn_of_wp Try.func42 rfl trivial ?_ rfl
  simp only [Try.ntmps42, List.size_toArray, List.length_cons, List.length_nil, Nat.reduceAdd, Nat.reduceSub, Array.replicate_succ, Array.replicate_zero, List.push_toArray, List.append_toArray, List.nil_append, List.cons_append]
  gi_wp2_with (first
    | (gi_at_call 44; refine (callsIn_wide.2 (callsIn_wide.1 (Try.maps_KeysT _ _))).mono ?_; rintro e w' ⟨rfl, rfl⟩)
    | (gi_at_call 43; refine (callsIn_wide.2 (callsIn_wide.1 (Try.slices_SortedT b N D _ W HO.out S1.out S2.out))).mono ?_; rintro e w2 ⟨v, ss, rfl, hS, hrow, hnil, hb⟩; obtain ⟨A, c, rfl⟩ := own_len hrow; have hss := (hS.trans HP.out.symm).length_eq; rw [List.length_map] at hss; rw [rise_sort hQ.out (hS.trans HP.out.symm)] at hrow; rw [hss, HM.out] at hrow ⊢; have HB2 : Hid (Below W.heap.size W w2) := Lib.hid (((Below.refl _ W).alloc (Nat.le_refl _) _).trans (hb.mono (by simp))); have HRS : Hid (RowS w2 A (Q.map Pt.t)) := Lib.hid (rowS_own (m := m) (by rw [List.map_map] at hrow ⊢; exact hrow) (by rw [List.length_map]; exact HM.out)); have HJ2 : Hid (J [] w2) := Lib.hid (abides_below HJA.out HJ0.out HB2.out); clear hS hrow hnil hb hss))
  clear hBn c0 hfK hfS
  gi_loopw [12] (fun p wr => ∃ t : Nat, t ≤ m ∧ p = .int .i64 t ∧ Hid (J ((List.finRange Q.length).take t) wr) ∧ Hid (RowS wr A (Q.map Pt.t))) (fun p _ => m - (intOf p).toNat)
  case atStart => exact ⟨0, Nat.zero_le _, rfl, Lib.hid (by simpa using HJ2.out), HRS⟩
  case round =>
    obtain ⟨t, ht, rfl, HJ, HRD⟩ := hrel
    by_cases hlt : t < m
    · obtain ⟨gs, cs, fr, rfl, hg, hcells⟩ := HRD.out (by rw [List.length_map, HM.out]; omega)
      obtain ⟨x, hx⟩ : ∃ x, (Q.map Pt.t)[t]? = some x := ⟨_, List.getElem?_eq_getElem (by rw [List.length_map, HM.out]; exact hlt)⟩
      have d0 := hcells t x hx
      have q0 : (0 : Int) ≤ (t : Int) := by omega
      have q1 : (t : Int) < (m : Int) := by omega
      obtain ⟨y, hy0⟩ : ∃ y : Fin Q.length, y = ⟨t, by rw [HM.out]; exact hlt⟩ := ⟨_, rfl⟩
      have HNX : Hid ((List.finRange Q.length).take t ++ [y] = (List.finRange Q.length).take (t + 1)) := Lib.hid (by subst hy0; exact fin_next _)
      have hel : Q[y].t = x := by
        subst hy0
        rw [List.getElem?_map] at hx
        have := List.getElem?_eq_getElem (l := Q) (i := t) (by rw [HM.out]; exact hlt)
        rw [this] at hx
        simpa using hx
      obtain ⟨fn, tmps, assign, body, hy, hR'⟩ := hY ((List.finRange Q.length).take t) y wr HJ.out (by rw [List.length_take, List.length_finRange, HM.out]; omega)
      simp only [encN, hel] at hy
      clear hy0 hel
      clear hx hg hcells
      gi_wp2
      refine hR'.mono ?_
      rintro e W3 (⟨rfl, hJ3, hk3⟩ | ⟨rfl, hJx3⟩)
      · have HK := Lib.hid hk3
        have HJ3 := Lib.hid hJ3
        clear hk3 hJ3
        gi_wp2
        go_roundw
        case rel => exact ⟨t + 1, by omega, by go_num, Lib.hid (by have := HJ3.out; rwa [HNX.out] at this), Lib.hid (HRD.out.kept HK.out)⟩
        case measure => simp [intOf]; try omega
      · gi_wp2
        refine bodyPost_ret (results_none rfl _ _ _) rfl ?_
        exact ⟨⟨_, rfl⟩, .inr ⟨_, by rw [HNX.out]; exact List.take_prefix _ _, hJx3⟩⟩
    · have hti : t = m := by omega
      gi_wp2
      go_end0
      exact ⟨⟨_, rfl⟩, .inl ⟨_, rfl, by have := HJ.out; rwa [List.take_of_length_le (by rw [List.length_finRange, HM.out]; omega)] at this⟩⟩
/-- the loop's contract -/
theorem names_stops (k : Nat) (hk : 1 ≤ k) (Bn g b N m : Nat) (Q : List Pt) (hm : Q.length = m) (hl : m ≤ 8) (hQ : Rise Q) (w : World) (hBw : Bn < w.heap.size) (hc : w.cell? ⟨Bn, 0, none⟩ = some (.pointer (some ⟨g, 0, none⟩))) (hC : Cat w g b N Q) :
    SeqStopsK Fence.wide k Try.prog 42 #[.pointer (some ⟨Bn, 0, none⟩)] (encN Q) KpS (fun ys => ys = List.finRange Q.length) (fun pre => pre <+: List.finRange Q.length) m w := fun l J Jx W hW hJ _ hY h0 =>
  names1_in k hk l Bn g b N m Q hm hl (Lib.hid hQ) J Jx hY W hJ ((hW.cell (p := ⟨Bn, 0, none⟩) hBw).trans hc) (Lib.hid (hC.below hW)) h0
set_option maxHeartbeats 1000000 in
theorem names_is (g : Nat) (w : World) :
    Calls Try.prog 36 #[.pointer (some ⟨g, 0, none⟩)] w fun e w' => e = .returned (.func (.func 42) #[] #[.pointer (some ⟨w.heap.size, 0, none⟩)]) ∧ w' = w.alloc (.cells #[.pointer (some ⟨g, 0, none⟩)] 24) := by
  go_enter Try.func36, Try.ntmps36
  go_wp2_with fail
  go_ret
  exact ⟨rfl, rfl⟩
end Go.Proofs.Ytohfbmgonjkhhaa.L9
