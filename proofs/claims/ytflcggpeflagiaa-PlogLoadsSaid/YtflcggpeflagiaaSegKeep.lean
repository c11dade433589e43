/-
  Contracts: a segment keeps the records of some offsets.
-/
import Derived.Test.YtflcggpeflagiaaSegDel
namespace Go.Proofs.Ytflcggpeflagiaa.L5
open Go.RowKit
open Go.Maps
open L3 L4

set_option maxRecDepth 100000 in
set_option maxHeartbeats 2000000 in
theorem sieve_none {w : World} {bS bm n : Nat} {s : List Int} {A : Option Addr} {L : List L4.Fd} (k cap : Nat) (hn : L.length = k) (hl : k ≤ 64) (hown : Hid (w.ownsRow 0 43 5 (.slice A L.length cap) L.length (rowF L))) (hS : w.cell? ⟨bS, 0, none⟩ = some (.map (some bm))) (hm : Hid (IsSet w bm n s)) (ho : Hid (∀ f ∈ L, 0 ≤ f.o ∧ f.o ≤ 1099511627776)) (HX : Hid (goneAt s L 0 = -1)) (ha : Hid (∀ f ∈ L, f.o ∈ s)) :
    Calls Try.prog 60 #[.slice A k cap, .func (.func 61) #[] #[.pointer (some ⟨bS, 0, none⟩)]] w (SieveP w A cap L s) := by
  have hfind := find_is k cap (-1) hn hl hown hS hm ho HX
  have HFIND := Lib.hid hfind
  have HN := Lib.hid hn
  clear hfind hn hS
  go_enter Try.func60, Try.ntmps60
  go_wp2_with (go_at_call 71; refine HFIND.out.mono ?_; rintro e w1 ⟨rfl, hb1⟩)
  go_ret
  have e := keep_all ha.out
  refine ⟨?_, ?_, grown_of _ hb1⟩
  · rw [e, HN.out]; rfl
  · rw [e]; exact own_below hown.out hb1

theorem sieve_is {w : World} {bS bm n : Nat} {s : List Int} {A : Option Addr} {L : List L4.Fd} (k cap : Nat) (hn : L.length = k) (hl : k ≤ 64) (hown : Hid (w.ownsRow 0 43 5 (.slice A L.length cap) L.length (rowF L))) (hS : w.cell? ⟨bS, 0, none⟩ = some (.map (some bm))) (hm : Hid (IsSet w bm n s)) (ho : Hid (∀ f ∈ L, 0 ≤ f.o ∧ f.o ≤ 1099511627776)) (hbS : blk A ≠ some bS) (hbm : blk A ≠ some bm) :
    Calls Try.prog 60 #[.slice A k cap, .func (.func 61) #[] #[.pointer (some ⟨bS, 0, none⟩)]] w (SieveP w A cap L s) := by
  rcases gone_spec (s := s) (l := L) (i := 0) rfl with ⟨e, ha⟩ | ⟨q, f, e, hf, hfn, ha⟩
  · exact sieve_none k cap hn hl hown hS hm ho (Lib.hid e) (Lib.hid ha)
  · have hlt := (List.getElem?_eq_some_iff.1 hf).1
    rcases hown.out.2 with ⟨_, e0⟩ | ⟨g, cc, cur, ev, _, hh, hnc, hcm, hcs, htk⟩
    · omega
    · injection ev with e1 e2 e3
      subst e1
      subst e3
      exact sieve_run k cap q f hn hl (Lib.hid hh) (by omega) hcm (Lib.hid hcs) (Lib.hid (by rw [← hn]; exact htk)) hS hm (fun e => hbS (by rw [e]; rfl)) (fun e => hbm (by rw [e]; rfl)) ho (Lib.hid (by rw [e]; simp)) (Lib.hid hf) hfn (Lib.hid ha)

/-- a slice that reads as numbers -/
def ReadsI (w : World) (B : Nat) (A : Option Addr) (l : List Int) : Prop :=
  0 < l.length → ∃ g o, A = some ⟨g, o, none⟩ ∧ g < B ∧ ∀ i x, l[i]? = some x → w.cell? ⟨g, o + i, none⟩ = some (.int .i64 x)
theorem ReadsI.below {w w' : World} {B : Nat} {A : Option Addr} {l : List Int} (h : ReadsI w B A l) (hb : Below B w w') : ReadsI w' B A l := fun h0 => by
  obtain ⟨g, o, e, hg, hc⟩ := h h0
  exact ⟨g, o, e, hg, fun i x hx => (hb.cell (p := ⟨g, o + i, none⟩) hg).trans (hc i x hx)⟩
theorem ReadsI.mono {w : World} {B B' : Nat} {A : Option Addr} {l : List Int} (h : ReadsI w B A l) (hB : B ≤ B') : ReadsI w B' A l := fun h0 => by
  obtain ⟨g, o, e, hg, hc⟩ := h h0
  exact ⟨g, o, e, Nat.lt_of_lt_of_le hg hB, hc⟩

/-- what Keep tells, and leaves -/
def KeepP (T : TypeId) (w : World) (g : Nat) (A : Option Addr) (base next : Int) (L : List L4.Fd) (s : List Int) (e : Ending) (w' : World) : Prop :=
  e = .returned (.int .i64 ((L.length - (keepL L s).length : Nat) : Int)) ∧ Step T w g A base next (keepL L s) w'

set_option maxRecDepth 100000 in
set_option maxHeartbeats 4000000 in
theorem keep_is {T : TypeId} {w : World} {g : Nat} {A : Option Addr} {cap : Nat} {base next : Int} {L : List L4.Fd} (X : Option Addr) (s : List Int) (xc B n : Nat) (h : Hid (Seg T w g A cap base next L)) (hn : L.length = n) (hl : n ≤ 64) (ho : Hid (∀ f ∈ L, 0 ≤ f.o ∧ f.o ≤ 1099511627776))
    (hR : Hid (ReadsI w B X s)) (hB : B ≤ w.heap.size) (hs : s.length ≤ 1000000) (hwf : Hid (∀ x ∈ s, (Lit.int .i64 x).wf = true)) :
    Calls Try.prog 42 #[.pointer (some ⟨g, 0, none⟩), .slice X s.length xc] w (KeepP T w g A base next L s) := by
  have hmm := @run_makeMap Try.prog
  have hg := h.out.lt
  have hbw := h.out.blkLt
  have HN := Lib.hid hn
  clear hn
  go_enter Try.func42, Try.ntmps42
  go_wp2_with fail
  go_loopw [12] (fun i wr => ∃ k : Nat, k ≤ s.length ∧ i = .int .i64 k ∧ Hid (IsSet wr w.heap.size k (s.take k)) ∧ wr.cell? ⟨w.heap.size + 1, 0, none⟩ = some (.map (some w.heap.size)) ∧ Below w.heap.size w wr) (fun i _ => s.length - (intOf i).toNat)
  case atStart =>
    exact ⟨0, by omega, rfl, Lib.hid ((World.ownsMap_made w Try.prog 3 (unitElem (H := Unit))).alloc _), by simp [go_sem], two_box _ _⟩
  case round =>
    obtain ⟨k, hk, rfl, hm, hS, hbel⟩ := hrel
    by_cases hlt : k < s.length
    · obtain ⟨b, bo, rfl, hb, hcells⟩ := hR.out (by omega)
      obtain ⟨x, hx⟩ : ∃ x, s[k]? = some x := ⟨_, List.getElem?_eq_getElem hlt⟩
      have d0 := (hbel.cell (p := ⟨b, bo + k, none⟩) (by show b < _; omega)).trans (hcells k x hx)
      have k0 : (0 : Int) ≤ (k : Int) := by omega
      have k1 : (k : Int) < (s.length : Int) := by omega
      have hkey : keyOf Try.prog 3 (.int .i64 x) = some (.int .i64 x) := keyOf_int_mk Try.underlying3 (hwf.out x (List.mem_of_getElem? hx))
      have HXX := Lib.hid hx
      clear hcells hx
      go_wp2_with (at_mapUpdate; refine wpList_mapUpdate_own _ rfl _ _ _ 104 rfl 3 102 lawInt Try.underlying104 (unitElem (H := Unit)) w.heap.size k (SetD (s.take k)) rfl hm.out (by unfold maxLen; omega) _ _ _ rfl rfl hkey _ [] unitElem_mk ?_; intro w1 hown1 hgrow1)
      go_roundw
      case rel =>
        refine ⟨k + 1, by omega, by go_num, Lib.hid ?_, hgrow1.cell hS (by intro e; injection e with e; simp at e), hbel.grown hgrow1 hbel.size (fun j e => by cases e; exact Nat.le_refl _)⟩
        rw [List.take_add_one, HXX.out]
        show World.ownsMap _ _ _ _ _ _ _
        rw [show (some x).toList = [x] from rfl, set_snoc]
        exact hown1
      case measure => simp [intOf]; omega
    · obtain rfl : k = s.length := by omega
      have hseg := h.out.below hbel
      have c2 := hseg.c2
      rw [HN.out] at c2
      have f2 := hseg.froz 2
      have hm' : Hid (IsSet wr w.heap.size s.length s) := Lib.hid (by have := hm.out; rwa [List.take_length] at this)
      have hsv := sieve_is n cap HN.out hl (Lib.hid hseg.own) hS hm' ho (fun e => by have := hbw _ e; omega) (fun e => by have := hbw _ e; omega)
      have HSV := Lib.hid hsv
      have HSEG := Lib.hid hseg
      obtain ⟨m, hm0⟩ : ∃ m, (keepL L s).length = m := ⟨_, rfl⟩
      have HM := Lib.hid hm0
      have hmn : m ≤ n := by rw [← hm0, ← HN.out]; exact keep_le s L
      clear hsv hseg hm0 hm
      have e1 : wrap64 ((n : Int) - (m : Int)) = ((n - m : Nat) : Int) := by simp only [wrap64]; omega
      go_wp2_with (go_at_call 60; refine HSV.out.mono ?_; rintro e w2 ⟨rfl, hown2, hgr2⟩; rw [HM.out]; have hrow2 := (hgr2.block g HSEG.out.lt (fun e => HSEG.out.ne e.symm)).trans HSEG.out.row; have x2 := (cell_of_row _ _ 2 _ _ _ hrow2).trans rfl; have y2 := frozen_of_row _ _ 2 _ _ hrow2; rw [HN.out] at x2; have HROW := Lib.hid hrow2; clear hrow2)
      go_ret
      have hst := HSEG.out.setL (w1 := w2) (HROW.out.trans HSEG.out.row.symm) hown2 HSEG.out.ne
      rw [HM.out] at hst
      refine ⟨?_, A, cap, ?_, ?_, fun j e => .inl e⟩
      · rw [HN.out, HM.out]; exact congrArg (fun m => Ending.returned (.int .i64 m)) (by omega)
      · exact hst
      · exact But.setCell (p := ⟨g, 2, none⟩) ((But.ofBelow hbel).trans (.ofGrown hgr2) (fun j e => .inl e)) (.inl rfl) _
end Go.Proofs.Ytflcggpeflagiaa.L5
