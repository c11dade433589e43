/-
  Contracts: which member; a member's partitions.
-/
import Derived.Test.YtidgifnnkaheeaaGpSeats
import Derived.Test.YtidgifnnkaheeaaAsProg
import Derived.Test.YtidgifnnkaheeaaAsFacts
namespace Go.Proofs.Ytidgifnnkaheeaa.L11
open Go.RowKit
open Go.Maps
open L3 L4 L9 L10

set_option maxRecDepth 100000 in
set_option maxHeartbeats 1000000 in
/-- the first place of a text that is there -/
theorem index_is (g n c i : Nat) (l : List ByteArray) (x : ByteArray) (w : World) (hn : Hid (l.length = n)) (hc : Hid (∀ j s, l[j]? = some s → w.cell? ⟨g, j, none⟩ = some (.string s))) (hi : i < n) (hx : Hid (l[i]? = some x)) (hne : Hid (∀ j < i, ∀ s, l[j]? = some s → s ≠ x)) (hl : n ≤ 1000000) :
    Calls Try.prog 52 #[.slice (some ⟨g, 0, none⟩) n c, .string x] w fun e w' => e = .returned (.int .i64 (i : Int)) ∧ w' = w := by
  go_enter Try.func52, Try.ntmps52
  go_wp2_with fail
  go_loopw [8] (fun p wr => ∃ j : Nat, j ≤ i ∧ p = .int .i64 j ∧ wr = w) (fun p _ => n - (intOf p).toNat)
  case atStart => exact ⟨0, Nat.zero_le _, rfl, rfl⟩
  case round =>
    obtain ⟨j, hj, rfl, rfl⟩ := hrel
    obtain ⟨y, hy⟩ : ∃ y, l[j]? = some y := ⟨_, List.getElem?_eq_getElem (by rw [hn.out]; omega)⟩
    have d0 := hc.out j y hy
    have k0 : (0 : Int) ≤ (j : Int) := by omega
    have k1 : (j : Int) < (n : Int) := by omega
    by_cases he : j = i
    · subst he
      have e := hx.out
      rw [hy] at e
      obtain rfl : y = x := by injection e
      have q : (y.toList == y.toList) = true := by simp
      clear hy e
      go_wp2_with fail
      go_ret
      exact ⟨rfl, by trivial⟩
    · have hlt : j < i := by omega
      have q : (x.toList == y.toList) = false := bytes_off (fun e => hne.out j hlt y hy e.symm)
      clear he hy
      go_wp2_with fail
      go_roundw
      case rel => exact ⟨j + 1, by omega, by go_num, by trivial⟩
      case measure => simp [intOf]; omega
theorem fieldM (nm : ByteArray) (At : Option Addr) (tn ct : Nat) (tm sn : Int) (w : World) : (Instr.field 47 (.agg #[.string nm, .slice At tn ct, .int .i64 tm, .int .i64 sn]) 0).run Try.prog w = .ok (.agg #[.string nm, .slice At tn ct]) w := by kernel_rfl
theorem memInfo : (Try.prog.info? 40).map (fun i => (i.zero, i.size, i.bytes)) = some (some (.agg #[.string ⟨#[]⟩, .slice none 0 0]), 2, 40) := by kernel_rfl
/-- a member where it lies -/
structure Mv where
  m : Mb
  A : Option Addr
  c : Nat
def mvC (v : Mv) : List Value := [.string v.m.name, .slice v.A v.m.ts.length v.c]
def rowMv (l : List Mv) : List Value := l.flatMap mvC
theorem rowMv_app (a b : List Mv) : rowMv (a ++ b) = rowMv a ++ rowMv b := by simp [rowMv]
theorem rowMv_at : ∀ {l : List Mv} {i : Nat} {d : Mv}, l[i]? = some d → ∀ j : Nat, ∀ u, (mvC d)[j]? = some u → (rowMv l)[i * 2 + j]? = some u
  | [], i, d, h => by simp at h
  | a :: t, 0, d, h => fun j u hu => by
    simp at h; subst h
    rw [rowMv, List.flatMap_cons, Nat.zero_mul, Nat.zero_add, List.getElem?_append_left (List.getElem?_eq_some_iff.1 hu).1]; exact hu
  | a :: t, i + 1, d, h => fun j u hu => by
    have ih := rowMv_at (l := t) (i := i) (d := d) (by simpa using h) j u hu
    rw [rowMv, List.flatMap_cons, List.getElem?_append_right (by simp [mvC]; omega), ← rowMv]
    rw [show (i + 1) * 2 + j - (mvC a).length = i * 2 + j by simp [mvC]; omega]; exact ih
/-- members gathered out of a group -/
structure Gat (w1 : World) (Q : List Se) (A : Option Addr) (k c : Nat) (vs : List Mv) (wr : World) : Prop where
  own : wr.ownsRow w1.heap.size 40 2 (.slice A k c) k (rowMv vs)
  ms : vs.map (·.m) = (Q.take k).map (·.m)
  len : vs.length = k
  rows : ∀ v ∈ vs, RowT w1 v.A v.c v.m.ts
  bel : Below w1.heap.size w1 wr
theorem Gat.isM {w1 wr : World} {Q : List Se} {A : Option Addr} {k c : Nat} {vs : List Mv} {G : Int} (h : Gat w1 Q A k c vs wr) (hk : Q.length = k) (g : GoodG G Q) : IsM wr wr.heap.size A k c (Q.map (·.m)) := by
  have e : vs.map (·.m) = Q.map (·.m) := by rw [h.ms, List.take_of_length_le (by omega)]
  have h8 := g.len
  refine ⟨fun h0 => ?_, by rw [List.length_map]; exact hk, fun mb hmb => ?_, by omega, ?_⟩
  · rw [← e] at h0 ⊢
    rw [List.length_map] at h0
    have hl := h.len
    rcases h.own.2 with ⟨_, e0⟩ | ⟨g, cap, cur, e0, h1, hh, _⟩
    · omega
    · injection e0 with e1; subst e1
      refine ⟨g, rfl, (Array.getElem?_eq_some_iff.1 hh).1, fun i m hm => ?_⟩
      rw [List.getElem?_map] at hm
      obtain ⟨v, hv, rfl⟩ := Option.map_eq_some_iff.1 hm
      have q := fun j u hu => h.own.cells (g := g) rfl (i * 2 + j) u (rowMv_at hv j u hu)
      have q0 := q 0 _ rfl; have q1 := q 1 _ rfl
      rw [Addr.add_lit, Nat.zero_add] at q0 q1
      exact ⟨q0, v.A, v.c, q1, ((h.rows v (List.mem_of_getElem? hv)).below h.bel).row.reads⟩
  · obtain ⟨s, hs, rfl⟩ := List.mem_map.1 hmb
    obtain ⟨a1, a2, a3⟩ := mayS_fit (g.may s hs)
    exact ⟨by omega, by omega, fun x hx => by have := a3 x hx; omega⟩
  · rcases h.own.2 with ⟨_, e0⟩ | ⟨g, cap, cur, e0, _, _, hc, _⟩
    · omega
    · injection e0 with _ _ e3; omega
theorem Gat.push {w1 wr w5 : World} {Q : List Se} {A : Option Addr} {k c ct tn : Nat} {At : Option Addr} {vs : List Mv} {s : Se} {nm : ByteArray} {v' : Value} (h : Gat w1 Q A k c vs wr) (hs : Q[k]? = some s) (hnm : s.m.name = nm) (htn : s.m.ts.length = tn) (hR : RowT w1 At ct s.m.ts)
    (hown : w5.ownsRow w1.heap.size 40 2 v' (k + 1) (rowMv vs ++ [.string nm, .slice At tn ct])) (o : Obj) (hg : (wr.alloc o).grownBy w5 (Value.slice A k c).ownBlock) : ∃ A' c' vs', v' = .slice A' (k + 1) c' ∧ Gat w1 Q A' (k + 1) c' vs' w5 := by
  obtain ⟨A', c', hv⟩ : ∃ A' c', v' = .slice A' (k + 1) c' := by
    rcases hown.2 with ⟨_, e⟩ | ⟨g, cap, cur, e, _⟩
    · omega
    · exact ⟨_, _, e⟩
  subst hv
  subst hnm; subst htn
  refine ⟨A', c', vs ++ [⟨s.m, At, ct⟩], rfl, ?_, ?_, by rw [List.length_append, h.len]; rfl, fun v hv => ?_, ?_⟩
  · rw [rowMv_app]
    have : rowMv [⟨s.m, At, ct⟩] = [.string s.m.name, .slice At s.m.ts.length ct] := by simp [rowMv, mvC]
    rw [this]; exact hown
  · rw [List.map_append, h.ms, List.take_add_one, hs, Option.toList_some, List.map_append]; rfl
  · rcases List.mem_append.1 hv with hv | hv
    · exact h.rows v hv
    · rw [List.mem_singleton.1 hv]; exact hR
  · exact (h.bel.alloc h.bel.size _).grown hg (by have := h.bel.size; simp; omega) (fun j e => (h.own.lt j e).1)
def shareL (r : Bool) (l : List Pt) (ms : List Mb) : List (List Pt) := if r = true then robinL l ms else rangeL l ms
theorem shareL_len (r : Bool) (l : List Pt) (ms : List Mb) : (shareL r l ms).length = ms.length := by
  unfold shareL robinL rangeL; split <;> exact listsL_len _ _
/-- what is told of a member: an error, or not -/
def asgE (G : Int) (Q : List Se) (a : ByteArray) (gn : Int) (l : List Pt) (x : Int) : Prop := ∃ y, chkE l (Q.map (·.m)) y ∧ ((y ≠ 0 ∧ x = y) ∨ (y = 0 ∧ x = fenceE G Q a gn))
theorem asg_is (G : Int) (Q : List Se) (a : ByteArray) (gn : Int) (l : List Pt) : ∃ x, asgE G Q a gn l x := by
  obtain ⟨y, hy⟩ := chk_is1 l (Q.map (·.m))
  by_cases h : y = 0
  · exact ⟨_, y, hy, .inr ⟨h, rfl⟩⟩
  · exact ⟨y, y, hy, .inl ⟨h, rfl⟩⟩
theorem asg_one {G : Int} {Q : List Se} {a : ByteArray} {gn : Int} {l : List Pt} {x x' : Int} (h : asgE G Q a gn l x) (h' : asgE G Q a gn l x') : x = x' := by
  obtain ⟨y, hy, h⟩ := h
  obtain ⟨y', hy', h'⟩ := h'
  obtain rfl := chk_one hy hy'
  rcases h with ⟨h1, h2⟩ | ⟨h1, h2⟩ <;> rcases h' with ⟨h3, h4⟩ | ⟨h3, h4⟩
  · rw [h2, h4]
  · exact absurd h3 h1
  · exact absurd h1 h3
  · rw [h2, h4]
theorem has_place {Q : List Se} (hR : RiseS Q) {a : ByteArray} (h : hasS Q a = true) : ∃ (i : Nat) (s : Se), Q[i]? = some s ∧ s.m.name = a ∧ ∀ j < i, ∀ y, (Q.map (·.m.name))[j]? = some y → y ≠ a := by
  obtain ⟨s, hs, e⟩ := hasS_mem.1 h
  obtain ⟨i, hi, rfl⟩ := List.mem_iff_getElem.1 hs
  refine ⟨i, Q[i], List.getElem?_eq_getElem hi, e, fun j hj y hy => ?_⟩
  rw [List.getElem?_map, List.getElem?_eq_getElem (by omega)] at hy
  have := List.pairwise_iff_getElem.1 hR.ne j i (by omega) hi hj
  intro q
  injection hy with hy
  exact this (hy.trans (q.trans e.symm))
def AsgP (w : World) (r : Bool) (Q : List Se) (a : ByteArray) (l : List Pt) (x : Int) (e : Ending) (w' : World) : Prop :=
  Below w.heap.size w w' ∧ ((x ≠ 0 ∧ e = .returned (.tuple #[.slice none 0 0, .int .i64 x])) ∨ (x = 0 ∧ ∃ (i : Nat) (s : Se) (L : List Pt) (A : Option Addr) (c : Nat), Q[i]? = some s ∧ s.m.name = a ∧ (shareL r l (Q.map (·.m)))[i]? = some L ∧ e = .returned (.tuple #[.slice A L.length c, .int .i64 0]) ∧ ReadsP w' w'.heap.size A L ∧ ∀ k ∈ bk A, w.heap.size ≤ k))
set_option maxRecDepth 100000 in
set_option maxHeartbeats 8000000 in
theorem assigned_is {w : World} {g b N n c : Nat} {G : Int} {r : Bool} {Q : List Se} {A : Option Addr} {l : List Pt} (a : ByteArray) (gn x : Int) (h : Hid (Gp w g b N G r Q)) (GG : Hid (GoodG G Q)) (hz : Hid (a.size ≤ maxLen)) (hL : Hid (IsL w w.heap.size A n c l)) (HX : Hid (asgE G Q a gn l x)) :
    Calls Try.prog 27 #[.pointer (some ⟨g, 0, none⟩), .string a, .int .i64 gn, .slice A n c] w (AsgP w r Q a l x) := by
  obtain ⟨m, hm0⟩ : ∃ m, Q.length = m := ⟨_, rfl⟩
  have hm := Lib.hid hm0
  have hm8 : m ≤ 8 := by have := GG.out.len; omega
  clear hm0
  obtain ⟨i0, hi0, hz0, hz1, hz2⟩ := info_parts memInfo
  have HR := Lib.hid GG.out.rise
  go_enter Try.func27, Try.ntmps27
  go_wp2_with (go_at_call 50; refine (names_is h HR hm hm8).mono ?_; rintro e w1 ⟨An, cn, rfl, hown, hb1⟩; have HROW := Lib.hid hown; have HB1 := Lib.hid hb1; clear hown hb1)
  have HG1 := Lib.hid (h.out.below HB1.out)
  go_loopw [11, 22] (fun v i wr => ∃ (k : Nat) (A0 : Option Addr) (c0 : Nat) (vs : List Mv), k ≤ m ∧ i = .int .i64 k ∧ v = .slice A0 k c0 ∧ Hid (Gat w1 Q A0 k c0 vs wr)) (fun _ i _ => m - (intOf i).toNat)
  case atStart => exact ⟨0, none, 0, [], Nat.zero_le _, rfl, rfl, Lib.hid ⟨World.ownsRow_nil _ _ _ _, rfl, rfl, fun v hv => (by cases hv), Below.refl _ _⟩⟩
  case round =>
    obtain ⟨k, A0, c0, vs, hk, rfl, rfl, HI⟩ := hrel
    have HG := Lib.hid (HG1.out.below HI.out.bel)
    have c2 := HG.out.c2
    by_cases hlt : k < m
    · obtain ⟨s, hs⟩ : ∃ s, Q[k]? = some s := ⟨_, List.getElem?_eq_getElem (by rw [hm.out]; exact hlt)⟩
      have hfit := mayS_fit (GG.out.may s (List.mem_of_getElem? hs))
      obtain ⟨gn', rfl, hgnl, x0⟩ : ∃ gn, An = some ⟨gn, 0, none⟩ ∧ gn < w1.heap.size ∧ w1.cell? ⟨gn, k, none⟩ = some (.string s.m.name) := by
        rcases HROW.out.2 with ⟨_, e⟩ | ⟨gn, cap, cur, e, h1, hh, _⟩
        · omega
        · injection e with e1; subst e1
          have q := HROW.out.cells (g := gn) rfl k (.string s.m.name) (by rw [List.getElem?_map, List.getElem?_map, hs]; rfl)
          rw [Addr.add_lit, Nat.zero_add] at q
          exact ⟨gn, rfl, (Array.getElem?_eq_some_iff.1 hh).1, q⟩
      have x0 := cell_b HI.out.bel x0
      obtain ⟨At, ct, hrt, hlook⟩ := HG1.out.map.look (List.mem_of_getElem? hs) (by have := hfit.1; unfold maxLen; omega)
      have hrun := hlook wr (HI.out.bel.block b HG1.out.map.lt)
      have HRT := Lib.hid hrt
      obtain ⟨tn, htn⟩ : ∃ tn, s.m.ts.length = tn := ⟨_, rfl⟩
      have HTN := Lib.hid htn
      have HST := Lib.hid hs
      rw [htn] at hrun
      obtain ⟨nm, hnm⟩ : ∃ nm, s.m.name = nm := ⟨_, rfl⟩
      obtain ⟨tm, htm⟩ : ∃ nm, s.tm = nm := ⟨_, rfl⟩
      obtain ⟨sn, hsn⟩ : ∃ nm, s.sn = nm := ⟨_, rfl⟩
      rw [hnm, htm, hsn] at hrun
      rw [hnm] at x0
      have HNM := Lib.hid hnm
      have k0 : (0 : Int) ≤ (k : Int) := by omega
      have k1 : (k : Int) < (m : Int) := by omega
      have HOW := Lib.hid HI.out.own
      have hfld := fieldM nm At tn ct tm sn wr
      clear hs hfit hrt hlook htn hnm htm hsn
      go_wp2_with (at_builtin; refine wpList_append_own _ rfl _ _ 23 rfl w1.heap.size 40 i0 _ 2 40 Try.underlying23 hi0 hz0 hz1 hz2 rfl (by decide) _ _ _ rfl (HOW.out.alloc _) ⟨wr.heap.size, 0, none⟩ 1 1 [.string nm, .slice At tn ct] rfl rfl (World.news_of_block (cs := #[.string nm, .slice At tn ct]) (t := 40) (fr := (0, 0)) (heap_alloc_new wr _)) (by simp [Value.oneCell']) (by unfold maxLen; omega) (by omega) (by have := HI.out.bel.size; simp; omega) ?_; intro v' w5 hown' hgrow _)
      obtain ⟨A6, c6, vs6, rfl, hE6⟩ := HI.out.push HST.out HNM.out HTN.out HRT.out hown' _ hgrow
      have HIN := Lib.hid hE6
      clear hown' hgrow hE6
      go_roundw
      case rel => exact ⟨k + 1, A6, c6, vs6, by omega, by go_num, rfl, HIN⟩
      case measure => simp [intOf]; omega
    · obtain rfl : k = m := by omega
      have HM := Lib.hid (HI.out.isM hm.out GG.out)
      have HBW : Hid (Below w.heap.size w wr) := Lib.hid (HB1.out.trans (HI.out.bel.mono HB1.out.size))
      have HLL := Lib.hid (hL.out.up (Nat.le_refl _) HBW.out)
      have c1 := HG.out.c1
      obtain ⟨y, hy, hcase⟩ := HX.out
      have HY := Lib.hid hy
      clear hy
      rcases hcase with ⟨hy0, rfl⟩ | ⟨rfl, hxf⟩
      · have HY0 := Lib.hid hy0
        have e1 : (x == 0) = false := by simpa using hy0
        clear hy0
        cases r <;>
        · go_wp2_with (first
            | (go_at_call 9; refine (range_no wr A A0 n c k c0 l _ x HY0.out HLL HM HY).mono ?_; rintro e w3 ⟨rfl, hb3⟩; have HB3 := Lib.hid hb3; clear hb3)
            | (go_at_call 11; refine (robin_no wr A A0 n c k c0 l _ x HY0.out HLL HM HY).mono ?_; rintro e w3 ⟨rfl, hb3⟩; have HB3 := Lib.hid hb3; clear hb3))
          go_ret2
          exact ⟨HBW.out.trans (HB3.out.mono HBW.out.size), .inl ⟨HY0.out, rfl⟩⟩
      · have HXF := Lib.hid hxf.symm
        clear hxf
        have e0 : (0 : Int) == 0 := rfl
        by_cases hx0 : x = 0
        · subst hx0
          obtain ⟨hh, rfl⟩ := fenceE_ok HXF.out
          obtain ⟨i, s, hqi, hsn, hne⟩ := has_place HR.out hh
          have hik : i < k := by have := (List.getElem?_eq_some_iff.1 hqi).1; have := hm.out; omega
          obtain ⟨gn', rfl, hgnl, hcell⟩ : ∃ gn, An = some ⟨gn, 0, none⟩ ∧ gn < w1.heap.size ∧ ∀ j y, (Q.map (·.m.name))[j]? = some y → w1.cell? ⟨gn, j, none⟩ = some (.string y) := by
            rcases HROW.out.2 with ⟨_, e⟩ | ⟨gn, cap, cur, e, h1, hh, _⟩
            · omega
            · injection e with e1; subst e1
              refine ⟨gn, rfl, (Array.getElem?_eq_some_iff.1 hh).1, fun j y hy => ?_⟩
              have q := HROW.out.cells (g := gn) rfl j (.string y) (by rw [List.getElem?_map, hy]; rfl)
              rwa [Addr.add_lit, Nat.zero_add] at q
          have HCE := Lib.hid hcell
          have HQI := Lib.hid hqi
          have HSN := Lib.hid hsn
          have HNE := Lib.hid hne
          have HNL : Hid ((Q.map (·.m.name)).length = k) := Lib.hid (by rw [List.length_map]; exact hm.out)
          have HNI : Hid ((Q.map (·.m.name))[i]? = some a) := Lib.hid (by rw [List.getElem?_map, hqi]; exact congrArg some hsn)
          have hk1 : k ≤ 1000000 := by omega
          have i0' : (0 : Int) ≤ (i : Int) := by omega
          have i1' : (i : Int) < (k : Int) := by omega
          clear hh hqi hsn hne hcell
          obtain ⟨L0, hL0⟩ : ∃ L0, shareL r l (Q.map (·.m)) = L0 := ⟨_, rfl⟩
          have HL0 := Lib.hid hL0
          have hlen0 : L0.length = k := by rw [← hL0, shareL_len, List.length_map]; exact hm.out
          obtain ⟨L, hLi⟩ : ∃ L, L0[i]? = some L := ⟨_, List.getElem?_eq_getElem (by omega)⟩
          have HLI := Lib.hid hLi
          have HLEN := Lib.hid hlen0
          clear hL0 hLi hlen0
          have FIN : ∀ (w4 : World) (ga : Nat) (Ai : Option Addr) (ci : Nat), Below wr.heap.size wr w4 → ReadsP w4 w4.heap.size Ai L → (∀ k ∈ bk Ai, wr.heap.size ≤ k) → AsgP w r Q a l 0 (.returned (.tuple #[.slice Ai L.length ci, .int .i64 0])) w4 := fun w4 ga Ai ci hb hr hk => ⟨HBW.out.trans (hb.mono HBW.out.size), .inr ⟨rfl, i, s, L, Ai, ci, HQI.out, HSN.out, by rw [HL0.out]; exact HLI.out, rfl, hr, fun j hj => Nat.le_trans HBW.out.size (hk j hj)⟩⟩
          have HFIN := Lib.hid FIN
          clear FIN
          cases r
          · have HRL : Hid (rangeL l (Q.map (·.m)) = L0) := Lib.hid (by have := HL0.out; unfold shareL at this; simpa using this)
            go_wp2_with (first
              | (go_at_call 9; refine (range_ok wr A A0 n c k c0 l _ L0 HLL HM HY HRL).mono ?_; rintro e w3 ⟨A3, c3, rfl, hr3, hb3⟩; have HB3 := Lib.hid hb3; have HR3 := Lib.hid hr3; have HG3 := Lib.hid (HG.out.below hb3); clear hb3 hr3)
              | (go_at_call 44; refine (fence_is a gn 0 HG3 hz HXF).mono ?_; rintro e w4 ⟨rfl, hb4⟩; have HB4 : Hid (Below wr.heap.size wr w4) := Lib.hid (HB3.out.trans (hb4.mono HB3.out.size)); obtain ⟨ga, rfl, hlo, hgB, hcl⟩ := HR3.out (by rw [HLEN.out]; omega); obtain ⟨Ai, ci, c1i, hri, hbi⟩ := hcl i L HLI.out; have c1i := cell_b hb4 c1i; have HRI : Hid (ReadsP w4 w4.heap.size Ai L) := Lib.hid (fun h0 => by
                  obtain ⟨g', e', hg', hc'⟩ := hri h0
                  exact ⟨g', e', Nat.lt_of_lt_of_le hg' hb4.size, fun j s hs => ⟨cell_b hb4 (hc' j s hs).1, cell_b hb4 (hc' j s hs).2⟩⟩); have HBI : Hid (∀ k ∈ bk Ai, wr.heap.size ≤ k) := Lib.hid (fun j hj => (hbi j hj).1); clear hb4 hcl hri hbi)
              | (go_at_call 52; refine (index_is gn' k cn i (Q.map (·.m.name)) a _ HNL (Lib.hid (fun j y hy => cell_b (HI.out.bel.trans (HB4.out.mono HI.out.bel.size)) (HCE.out j y hy))) hik HNI HNE hk1).mono ?_; rintro e w5 ⟨rfl, hw5⟩; obtain rfl := hw5.symm))
            go_ret2
            exact HFIN.out _ ga Ai ci HB4.out HRI.out HBI.out
          · have HRL : Hid (robinL l (Q.map (·.m)) = L0) := Lib.hid (by have := HL0.out; unfold shareL at this; simpa using this)
            go_wp2_with (first
              | (go_at_call 11; refine (robin_ok wr A A0 n c k c0 l _ L0 HLL HM HY HRL).mono ?_; rintro e w3 ⟨A3, c3, rfl, hr3, hb3⟩; have HB3 := Lib.hid hb3; have HR3 := Lib.hid hr3; have HG3 := Lib.hid (HG.out.below hb3); clear hb3 hr3)
              | (go_at_call 44; refine (fence_is a gn 0 HG3 hz HXF).mono ?_; rintro e w4 ⟨rfl, hb4⟩; have HB4 : Hid (Below wr.heap.size wr w4) := Lib.hid (HB3.out.trans (hb4.mono HB3.out.size)); obtain ⟨ga, rfl, hlo, hgB, hcl⟩ := HR3.out (by rw [HLEN.out]; omega); obtain ⟨Ai, ci, c1i, hri, hbi⟩ := hcl i L HLI.out; have c1i := cell_b hb4 c1i; have HRI : Hid (ReadsP w4 w4.heap.size Ai L) := Lib.hid (fun h0 => by
                  obtain ⟨g', e', hg', hc'⟩ := hri h0
                  exact ⟨g', e', Nat.lt_of_lt_of_le hg' hb4.size, fun j s hs => ⟨cell_b hb4 (hc' j s hs).1, cell_b hb4 (hc' j s hs).2⟩⟩); have HBI : Hid (∀ k ∈ bk Ai, wr.heap.size ≤ k) := Lib.hid (fun j hj => (hbi j hj).1); clear hb4 hcl hri hbi)
              | (go_at_call 52; refine (index_is gn' k cn i (Q.map (·.m.name)) a _ HNL (Lib.hid (fun j y hy => cell_b (HI.out.bel.trans (HB4.out.mono HI.out.bel.size)) (HCE.out j y hy))) hik HNI HNE hk1).mono ?_; rintro e w5 ⟨rfl, hw5⟩; obtain rfl := hw5.symm))
            go_ret2
            exact HFIN.out _ ga Ai ci HB4.out HRI.out HBI.out
        · have HX0 := Lib.hid hx0
          have e1 : (x == 0) = false := by simpa using hx0
          clear hx0
          cases r <;>
          · go_wp2_with (first
              | (go_at_call 9; refine (range_ok wr A A0 n c k c0 l _ _ HLL HM HY (Lib.hid rfl)).mono ?_; rintro e w3 ⟨A3, c3, rfl, hr3, hb3⟩; have HB3 := Lib.hid hb3; have HG3 := Lib.hid (HG.out.below hb3); clear hb3 hr3)
              | (go_at_call 11; refine (robin_ok wr A A0 n c k c0 l _ _ HLL HM HY (Lib.hid rfl)).mono ?_; rintro e w3 ⟨A3, c3, rfl, hr3, hb3⟩; have HB3 := Lib.hid hb3; have HG3 := Lib.hid (HG.out.below hb3); clear hb3 hr3)
              | (go_at_call 44; refine (fence_is a gn x HG3 hz HXF).mono ?_; rintro e w4 ⟨rfl, hb4⟩; have HB4 : Hid (Below wr.heap.size wr w4) := Lib.hid (HB3.out.trans (hb4.mono HB3.out.size)); clear hb4))
            go_ret2
            exact ⟨HBW.out.trans (HB4.out.mono HBW.out.size), .inl ⟨HX0.out, rfl⟩⟩
end Go.Proofs.Ytidgifnnkaheeaa.L11
