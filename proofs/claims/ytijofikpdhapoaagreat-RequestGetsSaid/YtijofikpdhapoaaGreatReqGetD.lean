/-
  Contracts: the document's Get.
-/
import Derived.Test.YtijofikpdhapoaaGreatReqInOne
import Derived.Test.YtijofikpdhapoaaGreatReqGetU
import Derived.Test.YtijofikpdhapoaaGreatReqLaw5
namespace Go.Proofs.YtijofikpdhapoaaGreat.L4
open Go.RowKit
open L3

def lets (n : Nat) : List Nat := V.nats (hasS n)
theorem lets_all : ∀ n < 13, hasK n = (lets n).flatMap dkeys ∧ (lets n).length = (hasS n).size ∧ (lets n).length ≤ 8 ∧ ∀ k < (lets n).length, ((lets n).getD k 0 = 116 ∨ (lets n).getD k 0 = 112 ∨ (lets n).getD k 0 = 110 ∨ (lets n).getD k 0 = 111 ∨ (lets n).getD k 0 = 98 ∨ (lets n).getD k 0 = 103 ∨ (lets n).getD k 0 = 109 ∨ (lets n).getD k 0 = 101 ∨ (lets n).getD k 0 = 114 ∨ (lets n).getD k 0 = 108) ∧ (k + 1 < (lets n).length → (lets n).getD k 0 ≠ 108) := by decide
/-- what is known behind k letters -/
structure Iv (s : ByteArray) (n : Nat) (p0 : Option Int) (k : Nat) (o : O) (q : Option Int) (TA : Option Addr) (tc : Nat) : Prop where
  sm : Small o
  kd : o.kind = n
  yes : q.isSome = true → (((lets n).take k).flatMap dkeys).foldl (readK s true) (O.of n, p0) = (o, q)
  no : q = none → ((hasK n).foldl (readK s true) (O.of n, p0)).2 = none
  tp : k < (lets n).length → o.tops = [] ∧ TA = none ∧ tc = 0
theorem Iv.start (s : ByteArray) (n : Nat) (b : Int) : Iv s n (some b) 0 (O.of n) (some b) none 0 :=
  ⟨small_of n, rfl, fun _ => rfl, (fun h => by cases h), fun _ => ⟨rfl, rfl, rfl⟩⟩
theorem Iv.next {s : ByteArray} {n : Nat} {p0 : Option Int} {k : Nat} {o o' : O} {a : Int} {q : Option Int} {TA TA' : Option Addr} {tc tc' : Nat} (hn : n < 13) (h : Iv s n p0 k o (some a) TA tc) (hk : k < (lets n).length) (r : OneR s ((lets n).getD k 0) o a o' q) (ht : (lets n).getD k 0 ≠ 108 → TA' = TA ∧ tc' = tc) : Iv s n p0 (k + 1) o' q TA' tc' := by
  obtain ⟨e1, _, _, e3⟩ := lets_all n hn
  obtain ⟨r1, r2, r3, r4, r5⟩ := r
  have htk : (lets n).take (k + 1) = (lets n).take k ++ [(lets n).getD k 0] := by
    rw [List.take_add_one]
    simp [List.getD, List.getElem?_eq_getElem hk]
  have hz : (((lets n).take (k + 1)).flatMap dkeys).foldl (readK s true) (O.of n, p0) = (dkeys ((lets n).getD k 0)).foldl (readK s true) (o, some a) := by
    rw [htk, List.flatMap_append, List.foldl_append, h.yes rfl]
    simp
  refine ⟨r1, r2.trans h.kd, fun hi => ?_, fun hq => ?_, fun hl => ?_⟩
  · rw [hz]
    exact Prod.ext (r4 hi).symm r3.symm
  · have hw : hasK n = ((lets n).take (k + 1)).flatMap dkeys ++ ((lets n).drop (k + 1)).flatMap dkeys := by
      rw [e1, ← List.flatMap_append, List.take_append_drop]
    rw [hw, List.foldl_append, hz]
    obtain ⟨z1, z2, hzz⟩ : ∃ z1 z2, (dkeys ((lets n).getD k 0)).foldl (readK s true) (o, some a) = (z1, z2) := ⟨_, _, rfl⟩
    rw [hzz] at r3 ⊢
    have : z2 = none := r3.symm.trans hq
    subst this
    exact fold_none s true _ _
  · have hc := (e3 k hk).2 hl
    obtain ⟨t1, t2, t3⟩ := h.tp hk
    obtain ⟨u1, u2⟩ := ht hc
    exact ⟨(r5 hc).trans t1, u1.trans t2, u2.trans t3⟩
/-- what is known behind all letters -/
structure Fv (s : ByteArray) (n : Nat) (p0 : Option Int) (o : O) (q : Option Int) : Prop where
  sm : Small o
  kd : o.kind = n
  yes : q.isSome = true → (hasK n).foldl (readK s true) (O.of n, p0) = (o, q)
  no : q = none → ((hasK n).foldl (readK s true) (O.of n, p0)).2 = none
theorem Iv.fin {s : ByteArray} {n : Nat} {p0 : Option Int} {k : Nat} {o : O} {q : Option Int} {TA : Option Addr} {tc : Nat} (hn : n < 13) (h : Iv s n p0 k o q TA tc) (hk : q.isSome = true → (lets n).length ≤ k) : Fv s n p0 o q :=
  ⟨h.sm, h.kd, fun hi => by
    have := h.yes hi
    rw [List.take_of_length_le (hk hi)] at this
    rw [(lets_all n hn).1]
    exact this, h.no⟩
theorem read_all {s : ByteArray} {n : Nat} {q0 : Option Int} (hn : rNum s 1099511627776 (some 0) = (n, q0)) : readO s true = (hasK n).foldl (readK s true) (O.of n, q0) := by
  show (hasK (rNum s 1099511627776 (some 0)).1).foldl (readK s true) (O.of (rNum s 1099511627776 (some 0)).1, (rNum s 1099511627776 (some 0)).2) = _
  rw [hn]
theorem gd_none {s : ByteArray} {X : O} {E : Int} {n : Nat} {q0 : Option Int} (hX : GetU s X E) (hn : rNum s 1099511627776 (some 0) = (n, q0)) (h : q0 = none ∨ 12 < n) : X = O.zero ∧ E = 40 := by
  rcases hX with ⟨h0, h1, h2, _⟩ | ⟨_, e1, e2⟩
  · exfalso
    have r := GetU.read h0 h1 h2 true
    rw [read_all hn] at r
    rcases h with rfl | h
    · have := fold_none s true (hasK n) (O.of n)
      rw [r] at this
      cases this
    · have := fold_kind s true (hasK n) (O.of n, q0)
      rw [r] at this
      have : X.kind = n := this
      omega
  · exact ⟨e1, e2⟩
theorem gd_end {s S : ByteArray} {X o : O} {E x : Int} {n : Nat} {q0 q : Option Int} (hX : GetU s X E) (hn : rNum s 1099511627776 (some 0) = (n, q0)) (h12 : n ≤ 12) (F : Fv s n q0 o q) (HP : PutU (o.kind : Int) o S x) :
    (q.isNone = false ∧ x = 0 ∧ S = s ∧ X = o ∧ E = 0) ∨ ((q.isNone = true ∨ x ≠ 0 ∨ S ≠ s) ∧ X = O.zero ∧ E = 40) := by
  have hk := F.kd
  have hc : o.chk = x := by
    rcases HP.1 with ⟨_, _, h⟩ | ⟨h, _⟩
    · exact h
    · exfalso; omega
  have hS := HP.2
  by_cases hg : q.isNone = false ∧ x = 0 ∧ S = s
  · obtain ⟨g1, g2, g3⟩ := hg
    rw [if_pos g2] at hS
    refine .inl ⟨g1, g2, g3, ?_⟩
    rcases hX with ⟨h0, h1, h2, h3⟩ | ⟨h, _⟩
    · exact ⟨bytes_inj h0 (by omega) h1 (hc.trans g2) (h2.trans (g3.symm.trans hS)), h3⟩
    · exact absurd (hS.symm.trans g3) (h o (by omega) (hc.trans g2))
  · refine .inr ⟨?_, ?_⟩
    · by_cases h1 : q.isNone = true
      · exact .inl h1
      · by_cases h2 : x = 0
        · exact .inr (.inr fun h3 => hg ⟨by cases hq : q.isNone with
            | true => exact absurd hq h1
            | false => rfl, h2, h3⟩)
        · exact .inr (.inl h2)
    · rcases hX with ⟨h0, h1, h2, _⟩ | ⟨_, e1, e2⟩
      · exfalso
        have r := GetU.read h0 h1 h2 true
        rw [read_all hn] at r
        cases q with
        | none => have := F.no rfl; rw [r] at this; cases this
        | some a =>
          have e := F.yes rfl
          rw [r] at e
          have e1 : X = o := congrArg Prod.fst e
          subst e1
          have hx : x = 0 := hc.symm.trans h1
          rw [if_pos hx, h2] at hS
          exact hg ⟨rfl, hx, hS⟩
      · exact ⟨e1, e2⟩
/-- Get at work: its result's box, the In at P, the command's box at G -/
structure Gd (w : World) (P G : Nat) (s : ByteArray) (q : Option Int) (o : O) (RA TA : Option Addr) (rc tc : Nat) (W : World) : Prop where
  z : W.heap[w.heap.size]? = some (Obj.cells zeroC 29 (0, 0))
  g : W.heap[G]? = some (Obj.cells (opC o RA TA rc tc) 29 (0, 0))
  rd : RdrI P s q W
  rr : W.ownsRow (w.heap.size + 1) 35 4 (.slice RA o.recs.length rc) o.recs.length (rowOf o.recs)
  tt : W.ownsRow (w.heap.size + 1) 9 1 (.slice TA o.tops.length tc) o.tops.length (texts o.tops)
  b : Below w.heap.size w W
  hP : w.heap.size < P
  hG : P < G
section
variable {w W W' : World} {P G rc tc : Nat} {s : ByteArray} {q : Option Int} {o : O} {RA TA : Option Addr}
theorem Gd.below (h : Gd w P G s q o RA TA rc tc W) (hb : Below W.heap.size W W') : Gd w P G s q o RA TA rc tc W' :=
  ⟨(hb.block _ (at_lt h.z)).trans h.z, (hb.block _ (at_lt h.g)).trans h.g, h.rd.below hb, own_below h.rr hb, own_below h.tt hb, h.b.trans (hb.mono h.b.size), h.hP, h.hG⟩
theorem Gd.at (h : Gd w P G s q o RA TA rc tc W) : At o RA TA W := ⟨Reads.own h.rr, texts_own h.tt⟩
theorem Gd.hB (h : Gd w P G s q o RA TA rc tc W) : w.heap.size + 1 ≤ W.heap.size := by have := at_lt h.z; omega
/-- a letter's thing is read, and laid -/
theorem Gd.next {W3 : World} {a : Int} {q' : Option Int} {o' : O} {RA' TA' : Option Addr} {rc' tc' : Nat} (h : Gd w P G s (some a) o RA TA rc tc W) (r : RdrI P s q' W') (hr : W'.ownsRow (w.heap.size + 1) 35 4 (.slice RA' o'.recs.length rc') o'.recs.length (rowOf o'.recs)) (ht : W'.ownsRow (w.heap.size + 1) 9 1 (.slice TA' o'.tops.length tc') o'.tops.length (texts o'.tops)) (hg : W.grownBy W' (some P))
    (ho : Oth G W' W3) (h3 : W3.heap[G]? = some (Obj.cells (opC o' RA' TA' rc' tc') 29 (0, 0))) : Gd w P G s q' o' RA' TA' rc' tc' W3 := by
  have hP := h.hP
  have hG := h.hG
  have zz := hg.block _ (at_lt h.z) (fun e => by have := Option.some.inj e; omega)
  have gg := hg.block _ (at_lt h.g) (fun e => by have := Option.some.inj e; omega)
  obtain ⟨a2, hp, ha⟩ := r
  refine ⟨(ho.1 _ (by omega)).trans (zz.trans h.z), h3, ⟨a2, (ho.1 _ (by omega)).trans hp, ha⟩, ownW hr (fun k cs hk => ho.1 k (fun e => ?_)), ownW ht (fun k cs hk => ho.1 k (fun e => ?_)), ?_, hP, hG⟩
  · rw [e, gg.trans h.g] at hk; injection hk with hk; injection hk with _ hk; exact absurd hk (by decide)
  · rw [e, gg.trans h.g] at hk; injection hk with hk; injection hk with _ hk; exact absurd hk (by decide)
  · refine ⟨ho.2.2.1.trans (hg.os.trans h.b.os), ho.2.2.2.1.trans (hg.tape.trans h.b.tape), ho.2.2.2.2.trans (hg.output.trans h.b.output), ?_, fun k hk => ?_⟩
    · rw [ho.2.1]; exact Nat.le_trans h.b.size hg.size
    · exact (ho.1 k (by omega)).trans ((hg.block k (Nat.lt_of_lt_of_le hk h.b.size) (fun e => by have := Option.some.inj e; omega)).trans (h.b.block k hk))
end
theorem gd_start (w W1 W2 : World) (s : ByteArray) (n : Nat) (q : Option Int) (hW : (w.alloc (Obj.cells zeroC 29)).alloc (Obj.cells #[.string s, .int .i64 0, .bool false] 40) = W1) (r : RdrI (w.heap.size + 1) s q W2) (hg : W1.grownBy W2 (some (w.heap.size + 1))) :
    Gd w (w.heap.size + 1) W2.heap.size s q (O.of n) none none 0 0 (W2.alloc (Obj.cells #[.int .i64 (n : Int), .string ⟨#[]⟩, .int .i64 0, .int .i64 0, .int .i64 0, .int .i64 0, .int .i64 0, .int .i64 0, .slice none 0 0, .string ⟨#[]⟩, .string ⟨#[]⟩, .int .i64 0, .bool false, .slice none 0 0] 29)) := by
  have hb1 : Below w.heap.size w W1 := by rw [← hW]; exact two_box _ _
  have hz : W1.heap[w.heap.size]? = some (Obj.cells zeroC 29 (0, 0)) := by rw [← hW]; exact heap_alloc2_old w _ _
  have hz2 := (hg.block _ (at_lt hz) (fun e => by have := Option.some.inj e; omega)).trans hz
  have hlt := r.lt
  refine ⟨(Below.heap_alloc _ _ _ (at_lt hz2)).trans hz2, heap_alloc_new W2 _, r.below (one_box _), World.ownsRow_nil _ _ _ _, World.ownsRow_nil _ _ _ _, ?_, Nat.lt_succ_self _, hlt⟩
  have h1 := hb1.size
  have h2 := hg.size
  refine ⟨?_, ?_, ?_, by simp; omega, fun k hk => (Below.heap_alloc _ _ _ (by omega)).trans ((hg.block k (by omega) (fun e => by have := Option.some.inj e; omega)).trans (hb1.block k hk))⟩
  · exact hg.os.trans hb1.os
  · exact hg.tape.trans hb1.tape
  · exact hg.output.trans hb1.output
set_option maxRecDepth 100000 in
set_option maxHeartbeats 16000000 in
theorem rget_none (s : ByteArray) (n : Nat) (q0 : Option Int) (w : World) (hs : s.size ≤ 140737488355328) (HN : Hid (rNum s 1099511627776 (some 0) = (n, q0))) (hbad : q0 = none ∨ 12 < n) :
    Calls Tryz.prog 4 #[.string s] w (GotO O.zero 40 w) := by
  have hsm : Hid (s.size ≤ maxLen) := Lib.hid (by unfold maxLen; omega)
  cases q0 with
  | none =>
    clear hbad
    go_enter Tryz.func4, Tryz.ntmps4
    go_wp2_with ((go_at_call 8; refine (in_num (w.heap.size + 1) s (some 0) none n _ hsm.out HN ⟨0, heap_alloc2_new w _ _, fun b h => Option.some.inj h⟩).mono ?_; rintro e w2 ⟨rfl, r2, g2⟩; have HGD := Lib.hid (gd_start w _ w2 s n none rfl r2 g2); have HLT := Lib.hid r2.lt; have hz2 := HGD.out.z; have h2r := HGD.out.rd; clear r2 g2; obtain ⟨pa, hpa, _⟩ := h2r; have pb := row_of (v := .bool true) hpa (j := 2) rfl; have z0 := row_of (v := .int .i64 0) hz2 (j := 0) rfl; have z1 := row_of (v := .string ⟨#[]⟩) hz2 (j := 1) rfl; have z2 := row_of (v := .int .i64 0) hz2 (j := 2) rfl; have z3 := row_of (v := .int .i64 0) hz2 (j := 3) rfl; have z4 := row_of (v := .int .i64 0) hz2 (j := 4) rfl; have z5 := row_of (v := .int .i64 0) hz2 (j := 5) rfl; have z6 := row_of (v := .int .i64 0) hz2 (j := 6) rfl; have z7 := row_of (v := .int .i64 0) hz2 (j := 7) rfl; have z8 := row_of (v := .slice none 0 0) hz2 (j := 8) rfl; have z9 := row_of (v := .string ⟨#[]⟩) hz2 (j := 9) rfl; have z10 := row_of (v := .string ⟨#[]⟩) hz2 (j := 10) rfl; have z11 := row_of (v := .int .i64 0) hz2 (j := 11) rfl; have z12 := row_of (v := .bool false) hz2 (j := 12) rfl; have z13 := row_of (v := .slice none 0 0) hz2 (j := 13) rfl; have f0 := frozen_of_row _ _ 0 _ _ hz2; have f1 := frozen_of_row _ _ 1 _ _ hz2; have f2 := frozen_of_row _ _ 2 _ _ hz2; have f3 := frozen_of_row _ _ 3 _ _ hz2; have f4 := frozen_of_row _ _ 4 _ _ hz2; have f5 := frozen_of_row _ _ 5 _ _ hz2; have f6 := frozen_of_row _ _ 6 _ _ hz2; have f7 := frozen_of_row _ _ 7 _ _ hz2; have f8 := frozen_of_row _ _ 8 _ _ hz2; have f9 := frozen_of_row _ _ 9 _ _ hz2; have f10 := frozen_of_row _ _ 10 _ _ hz2; have f11 := frozen_of_row _ _ 11 _ _ hz2; have f12 := frozen_of_row _ _ 12 _ _ hz2; have f13 := frozen_of_row _ _ 13 _ _ hz2; clear hpa hz2))
    refine bodyPost_ret (v := .tuple #[.agg #[.int .i64 0, .string ⟨#[]⟩, .int .i64 0, .int .i64 0, .int .i64 0, .int .i64 0, .int .i64 0, .int .i64 0, .slice none 0 0, .string ⟨#[]⟩, .string ⟨#[]⟩, .int .i64 0, .bool false, .slice none 0 0], .int .i64 40]) (results_row2 (p := 2) (t1 := 3) (ty := 29) Tryz.results4 _ _ w.heap.size 29 #[.int .i64 0, .string ⟨#[]⟩, .int .i64 0, .int .i64 0, .int .i64 0, .int .i64 0, .int .i64 0, .int .i64 0, .slice none 0 0, .string ⟨#[]⟩, .string ⟨#[]⟩, .int .i64 0, .bool false, .slice none 0 0] (0, 0) _ rfl (set14 HGD.out.z) Tryz.underlying29 rfl (by kernel_rfl)) rfl ?_
    exact ⟨none, none, 0, 0, rfl, World.ownsRow_nil _ _ _ _, World.ownsRow_nil _ _ _ _, set14_below HGD.out.b (Nat.le_refl _) _ _ _ _ _ _ _ _ _ _ _ _ _ _⟩
  | some b =>
    have h12 : 12 < n := by rcases hbad with h | h; · cases h
                            · exact h
    have h12' : (12 : Int) < (n : Int) := by omega
    clear hbad
    go_enter Tryz.func4, Tryz.ntmps4
    go_wp2_with ((go_at_call 8; refine (in_num (w.heap.size + 1) s (some 0) (some b) n _ hsm.out HN ⟨0, heap_alloc2_new w _ _, fun b h => Option.some.inj h⟩).mono ?_; rintro e w2 ⟨rfl, r2, g2⟩; have HGD := Lib.hid (gd_start w _ w2 s n (some b) rfl r2 g2); have HLT := Lib.hid r2.lt; have hz2 := HGD.out.z; have h2r := HGD.out.rd; clear r2 g2; obtain ⟨pa, hpa, _⟩ := h2r; have pb := row_of (v := .bool false) hpa (j := 2) rfl; have z0 := row_of (v := .int .i64 0) hz2 (j := 0) rfl; have z1 := row_of (v := .string ⟨#[]⟩) hz2 (j := 1) rfl; have z2 := row_of (v := .int .i64 0) hz2 (j := 2) rfl; have z3 := row_of (v := .int .i64 0) hz2 (j := 3) rfl; have z4 := row_of (v := .int .i64 0) hz2 (j := 4) rfl; have z5 := row_of (v := .int .i64 0) hz2 (j := 5) rfl; have z6 := row_of (v := .int .i64 0) hz2 (j := 6) rfl; have z7 := row_of (v := .int .i64 0) hz2 (j := 7) rfl; have z8 := row_of (v := .slice none 0 0) hz2 (j := 8) rfl; have z9 := row_of (v := .string ⟨#[]⟩) hz2 (j := 9) rfl; have z10 := row_of (v := .string ⟨#[]⟩) hz2 (j := 10) rfl; have z11 := row_of (v := .int .i64 0) hz2 (j := 11) rfl; have z12 := row_of (v := .bool false) hz2 (j := 12) rfl; have z13 := row_of (v := .slice none 0 0) hz2 (j := 13) rfl; have f0 := frozen_of_row _ _ 0 _ _ hz2; have f1 := frozen_of_row _ _ 1 _ _ hz2; have f2 := frozen_of_row _ _ 2 _ _ hz2; have f3 := frozen_of_row _ _ 3 _ _ hz2; have f4 := frozen_of_row _ _ 4 _ _ hz2; have f5 := frozen_of_row _ _ 5 _ _ hz2; have f6 := frozen_of_row _ _ 6 _ _ hz2; have f7 := frozen_of_row _ _ 7 _ _ hz2; have f8 := frozen_of_row _ _ 8 _ _ hz2; have f9 := frozen_of_row _ _ 9 _ _ hz2; have f10 := frozen_of_row _ _ 10 _ _ hz2; have f11 := frozen_of_row _ _ 11 _ _ hz2; have f12 := frozen_of_row _ _ 12 _ _ hz2; have f13 := frozen_of_row _ _ 13 _ _ hz2; clear hpa hz2))
    refine bodyPost_ret (v := .tuple #[.agg #[.int .i64 0, .string ⟨#[]⟩, .int .i64 0, .int .i64 0, .int .i64 0, .int .i64 0, .int .i64 0, .int .i64 0, .slice none 0 0, .string ⟨#[]⟩, .string ⟨#[]⟩, .int .i64 0, .bool false, .slice none 0 0], .int .i64 40]) (results_row2 (p := 2) (t1 := 3) (ty := 29) Tryz.results4 _ _ w.heap.size 29 #[.int .i64 0, .string ⟨#[]⟩, .int .i64 0, .int .i64 0, .int .i64 0, .int .i64 0, .int .i64 0, .int .i64 0, .slice none 0 0, .string ⟨#[]⟩, .string ⟨#[]⟩, .int .i64 0, .bool false, .slice none 0 0] (0, 0) _ rfl (set14 HGD.out.z) Tryz.underlying29 rfl (by kernel_rfl)) rfl ?_
    exact ⟨none, none, 0, 0, rfl, World.ownsRow_nil _ _ _ _, World.ownsRow_nil _ _ _ _, set14_below HGD.out.b (Nat.le_refl _) _ _ _ _ _ _ _ _ _ _ _ _ _ _⟩
set_option maxRecDepth 100000 in
set_option maxHeartbeats 16000000 in
theorem rget_u (s : ByteArray) (X : O) (E : Int) (w : World) (hs : s.size ≤ 140737488355328) (HX : Hid (GetU s X E)) :
    Calls Tryz.prog 4 #[.string s] w (GotO X E w) := by
  obtain ⟨n, q0, hn⟩ : ∃ n q, rNum s 1099511627776 (some 0) = (n, q) := ⟨_, _, rfl⟩
  have HN := Lib.hid hn
  by_cases hbad : q0 = none ∨ 12 < n
  · obtain ⟨rfl, rfl⟩ := gd_none HX.out hn hbad
    exact rget_none s n q0 w hs HN hbad
  cases q0 with
  | none => exact absurd (.inl rfl) hbad
  | some b0 =>
  have hn12 : n ≤ 12 := by
    by_cases h : n ≤ 12
    · exact h
    · exact absurd (.inr (by omega)) hbad
  have hsm : Hid (s.size ≤ maxLen) := Lib.hid (by unfold maxLen; omega)
  have HN12 := Lib.hid hn12
  have HN13 : n < 13 := by omega
  have h12' : ¬ (12 : Int) < (n : Int) := by omega
  obtain ⟨h, hh⟩ : ∃ h, hasS n = h := ⟨_, rfl⟩
  have HH := Lib.hid hh
  obtain ⟨m, hm⟩ : ∃ m, (lets n).length = m := ⟨_, rfl⟩
  have hsz : h.size = m := by rw [← hh, ← hm]; exact ((lets_all n HN13).2.1).symm
  have hm8 : m ≤ 8 := by rw [← hm]; exact (lets_all n HN13).2.2.1
  have HMM := Lib.hid hm
  clear hn hbad hh hm hn12
  go_enter Tryz.func4, Tryz.ntmps4
  go_upto_region 6 with (first | (go_at_call 8; refine (in_num (w.heap.size + 1) s (some 0) (some b0) n _ hsm.out HN ⟨0, heap_alloc2_new w _ _, fun b h => Option.some.inj h⟩).mono ?_; rintro e w2 ⟨rfl, r2, g2⟩; have HGD := Lib.hid (gd_start w _ w2 s n (some b0) rfl r2 g2); have HLT := Lib.hid r2.lt; obtain ⟨pa, hpa, _⟩ := HGD.out.rd; have pb := row_of (v := .bool false) hpa (j := 2) rfl; have g0 := row_of (v := .int .i64 n) HGD.out.g (j := 0) rfl; clear r2 g2; clear hpa) | (go_at_call 9; refine (rhas_s n h _ HN12.out HH).mono ?_; rintro e w3 ⟨rfl, hb3⟩; have HGD3 := Lib.hid (HGD.out.below hb3); clear hb3 pb g0))
  obtain ⟨P, hP⟩ : ∃ P, w.heap.size + 1 = P := ⟨_, rfl⟩
  obtain ⟨G, hG⟩ : ∃ G, w2.heap.size = G := ⟨_, rfl⟩
  rw [hP, hG] at HGD3 ⊢
  clear HGD hP hG
  go_upto_block 0 with fail
  go_cut [7] (fun _ wc => ∃ (o : O) (q : Option Int) (RA TA : Option Addr) (rc tc : Nat), Hid (Gd w P G s q o RA TA rc tc wc) ∧ Hid (Fv s n (some b0) o q))
  case first =>
    go_wp2_with fail
    go_loopw [7] (fun iv wr => ∃ (k : Nat) (o : O) (q : Option Int) (RA TA : Option Addr) (rc tc : Nat), k ≤ m ∧ iv = .int .i64 k ∧ Hid (Gd w P G s q o RA TA rc tc wr) ∧ Hid (Iv s n (some b0) k o q TA tc)) (fun iv _ => m - (intOf iv).toNat)
    case atStart => exact ⟨0, O.of n, some b0, none, none, 0, 0, Nat.zero_le _, rfl, HGD3, Lib.hid (Iv.start s n b0)⟩
    case round =>
      clear HGD3
      obtain ⟨k, o, q, RA, TA, rc, tc, hk, rfl, GR, HIV⟩ := hrel
      obtain ⟨pa, hpa, _⟩ := GR.out.rd
      have pb := row_of (v := .bool q.isNone) hpa (j := 2) rfl
      clear hpa
      by_cases hlt : k < m
      · have hlt' : (k : Int) < (m : Int) := by omega
        cases q with
        | none =>
          have pb : wr.cell? ⟨P, 2, none⟩ = some (.bool true) := pb
          go_wp2_with fail
          go_meet
          exact ⟨o, none, RA, TA, rc, tc, GR, Lib.hid (HIV.out.fin HN13 (fun h => by cases h))⟩
        | some a =>
          have pb : wr.cell? ⟨P, 2, none⟩ = some (.bool false) := pb
          have hks : k < h.size := by omega
          obtain ⟨c, hc⟩ : ∃ c, h[k].toNat = c := ⟨_, rfl⟩
          have hc2 : (h[k].toNat : Int) = (c : Int) := by rw [hc]
          have HCE : Hid ((lets n).getD k 0 = c) := Lib.hid (by
            have := nats_at hks
            rw [hc] at this
            unfold lets
            rw [HH.out]
            simp [List.getD, this])
          have HKL : Hid (k < (lets n).length) := Lib.hid (by rw [HMM.out]; exact hlt)
          have HCC : Hid (c = 116 ∨ c = 112 ∨ c = 110 ∨ c = 111 ∨ c = 98 ∨ c = 103 ∨ c = 109 ∨ c = 101 ∨ c = 114 ∨ c = 108) := Lib.hid (by
            have := ((lets_all n HN13).2.2.2 k HKL.out).1
            rwa [HCE.out] at this)
          have GD : Hid (Gd w P G s (some a) o RA TA rc tc wr.drew) := Lib.hid (GR.out.below (Below.refl _ _).drew)
          have HSM := Lib.hid HIV.out.sm
          have HRD := Lib.hid GD.out.rd
          have HRR := Lib.hid GD.out.rr
          have HTT := Lib.hid GD.out.tt
          have HLL : Hid (c = 108 → o.tops = [] ∧ TA = none ∧ tc = 0) := Lib.hid (fun _ => HIV.out.tp HKL.out)
          have HGP : Hid (P ≠ G) := Lib.hid (by have := GD.out.hG; omega)
          have y0 := row_of (v := .int .i64 o.kind) GR.out.g (j := 0) rfl
          have y1 := row_of (v := .string o.topic) GR.out.g (j := 1) rfl
          have y2 := row_of (v := .int .i64 o.pn) GR.out.g (j := 2) rfl
          have y3 := row_of (v := .int .i64 o.n) GR.out.g (j := 3) rfl
          have y4 := row_of (v := .int .i64 o.off) GR.out.g (j := 4) rfl
          have y5 := row_of (v := .int .i64 o.bp) GR.out.g (j := 5) rfl
          have y6 := row_of (v := .int .i64 o.be) GR.out.g (j := 6) rfl
          have y7 := row_of (v := .int .i64 o.bq) GR.out.g (j := 7) rfl
          have y8 := row_of (v := .slice RA o.recs.length rc) GR.out.g (j := 8) rfl
          have y9 := row_of (v := .string o.group) GR.out.g (j := 9) rfl
          have y10 := row_of (v := .string o.member) GR.out.g (j := 10) rfl
          have y11 := row_of (v := .int .i64 o.gen) GR.out.g (j := 11) rfl
          have y12 := row_of (v := .bool o.robin) GR.out.g (j := 12) rfl
          have y13 := row_of (v := .slice TA o.tops.length tc) GR.out.g (j := 13) rfl
          clear hc
          go_upto_region 9 with (fail)
          refine wp_region_held_drew (S := fun _ => True) (by kernel_rfl) trivial (fun hHeld => ?_)
          refine wpAnyH_take (i := 0) (oi := ?o20) (v := ?v20) ?a20 (by kernel_rfl) (by kernel_rfl) (by kernel_rfl) ?q20 (Or.inl ⟨?g20, ?y20⟩) (by assumption) ?r20; (case' a20 => (simp only [List.getElem?_toArray, List.getElem?_cons_zero]; rfl)); (case' q20 => (exact fun _ _ _ h => h)); (case' g20 => rfl); (case' y20 => (intro w hSw; (try dsimp only at hSw); go_simp; try with_reducible rfl)); (case' r20 => (try simp only [Act.put, List.setIfInBounds_toArray, List.set_cons_zero, List.set_cons_succ]))
          refine wpAnyH_take (i := 2) (oi := ?o21) (v := ?v21) ?a21 (by kernel_rfl) (by kernel_rfl) (by kernel_rfl) ?q21 (Or.inl ⟨?g21, ?y21⟩) (by assumption) ?r21; (case' a21 => (simp only [List.getElem?_toArray, List.getElem?_cons_zero, List.getElem?_cons_succ]; rfl)); (case' q21 => (exact fun _ _ _ h => h)); (case' g21 => rfl); (case' y21 => (intro w hSw; (try dsimp only at hSw); go_simp; try with_reducible rfl)); (case' r21 => (try simp only [Act.put, List.setIfInBounds_toArray, List.set_cons_zero, List.set_cons_succ]))
          refine wpAnyH_take (i := 3) (oi := ?o22) (v := ?v22) ?a22 (by kernel_rfl) (by kernel_rfl) (by kernel_rfl) ?q22 (Or.inl ⟨?g22, ?y22⟩) (by assumption) ?r22; (case' a22 => (simp only [List.getElem?_toArray, List.getElem?_cons_zero, List.getElem?_cons_succ]; rfl)); (case' q22 => (exact fun _ _ _ h => h)); (case' g22 => rfl); (case' y22 => (intro w hSw; (try dsimp only at hSw); go_simp; try with_reducible rfl)); (case' r22 => (try simp only [Act.put, List.setIfInBounds_toArray, List.set_cons_zero, List.set_cons_succ]))
          refine wpAnyH_take (i := 4) (oi := ?o23) (v := ?v23) ?a23 (by kernel_rfl) (by kernel_rfl) (by kernel_rfl) ?q23 (Or.inl ⟨?g23, ?y23⟩) (by assumption) ?r23; (case' a23 => (simp only [List.getElem?_toArray, List.getElem?_cons_zero, List.getElem?_cons_succ]; rfl)); (case' q23 => (exact fun _ _ _ h => h)); (case' g23 => rfl); (case' y23 => (intro w hSw; (try dsimp only at hSw); go_simp; try with_reducible rfl)); (case' r23 => (try simp only [Act.put, List.setIfInBounds_toArray, List.set_cons_zero, List.set_cons_succ]))
          refine wpAnyH_ready (rs := [1]) (by kernel_rfl) (by simp) ?_
          refine AllReadyH.cons (o := ?o24) ?a24 (fun K hK => ?s24) ?m24; (case' a24 => (simp only [List.getElem?_toArray, List.getElem?_cons_zero, List.getElem?_cons_succ]; rfl))
          case s24 =>
            go_simp
            refine hK.out _ _ (trivial) (fun hHeld => ?_)
            clear hK K
            (try simp only [Act.put, List.setIfInBounds_toArray, List.set_cons_zero, List.set_cons_succ])
            refine wpAnyH_ready (rs := [5]) (by kernel_rfl) (by simp) ?_
            refine AllReadyH.cons (o := ?o25) ?a25 (fun K hK => ?s25) ?m25; (case' a25 => (simp only [List.getElem?_toArray, List.getElem?_cons_zero, List.getElem?_cons_succ]; rfl))
            case s25 =>
              go_simp
              go_at_call 10
              refine (one_in _ P (w.heap.size + 1) s c HCC.out o a RA TA rc tc hs GD.out.hB HSM HRD HRR HTT HLL).mono ?_
              rintro e wn ⟨o', q', RA', TA', rc', tc', rfl, hrd, hrr, htt, hgr, hor, hta⟩
              dsimp only [opC]
              have gn := (hgr.block G (at_lt GD.out.g) (fun e => HGP.out (Option.some.inj e).symm)).trans GD.out.g
              have c0 := row_of (v := .int .i64 o.kind) gn (j := 0) rfl; have c1 := row_of (v := .string o.topic) gn (j := 1) rfl; have c2 := row_of (v := .int .i64 o.pn) gn (j := 2) rfl; have c3 := row_of (v := .int .i64 o.n) gn (j := 3) rfl; have c4 := row_of (v := .int .i64 o.off) gn (j := 4) rfl; have c5 := row_of (v := .int .i64 o.bp) gn (j := 5) rfl; have c6 := row_of (v := .int .i64 o.be) gn (j := 6) rfl; have c7 := row_of (v := .int .i64 o.bq) gn (j := 7) rfl; have c8 := row_of (v := .slice RA o.recs.length rc) gn (j := 8) rfl; have c9 := row_of (v := .string o.group) gn (j := 9) rfl; have c10 := row_of (v := .string o.member) gn (j := 10) rfl; have c11 := row_of (v := .int .i64 o.gen) gn (j := 11) rfl; have c12 := row_of (v := .bool o.robin) gn (j := 12) rfl; have c13 := row_of (v := .slice TA o.tops.length tc) gn (j := 13) rfl
              have d0 := frozen_of_row _ _ 0 _ _ gn; have d1 := frozen_of_row _ _ 1 _ _ gn; have d2 := frozen_of_row _ _ 2 _ _ gn; have d3 := frozen_of_row _ _ 3 _ _ gn; have d4 := frozen_of_row _ _ 4 _ _ gn; have d5 := frozen_of_row _ _ 5 _ _ gn; have d6 := frozen_of_row _ _ 6 _ _ gn; have d7 := frozen_of_row _ _ 7 _ _ gn; have d8 := frozen_of_row _ _ 8 _ _ gn; have d9 := frozen_of_row _ _ 9 _ _ gn; have d10 := frozen_of_row _ _ 10 _ _ gn; have d11 := frozen_of_row _ _ 11 _ _ gn; have d12 := frozen_of_row _ _ 12 _ _ gn; have d13 := frozen_of_row _ _ 13 _ _ gn
              have HNR := Lib.hid hrd; have HNO := Lib.hid hrr; have HNT := Lib.hid htt; have HNG := Lib.hid hgr; have HNI := Lib.hid (Iv.next HN13 HIV.out HKL.out (by rw [HCE.out]; exact hor) (by rw [HCE.out]; exact hta)); have HGN := Lib.hid gn
              clear hrd hrr htt hgr hor hta gn y0 y1 y2 y3 y4 y5 y6 y7 y8 y9 y10 y11 y12 y13
              go_wp2_with fail
              refine hK.out _ _ (trivial) (fun hHeld => ?_)
              clear hK K
              (try simp only [Act.put, List.setIfInBounds_toArray, List.set_cons_zero, List.set_cons_succ])
              refine wpAnyH_ready (rs := [6]) (by kernel_rfl) (by simp) ?_
              refine AllReadyH.cons (o := ?o26) ?a26 (fun K hK => ?s26) ?m26; (case' a26 => (simp only [List.getElem?_toArray, List.getElem?_cons_zero, List.getElem?_cons_succ]; rfl))
              case s26 =>
                go_simp
                refine hK.out _ _ (trivial) (fun hHeld => ?_)
                clear hK K
                (try simp only [Act.put, List.setIfInBounds_toArray, List.set_cons_zero, List.set_cons_succ])
                refine wpAnyH_done (by kernel_rfl) ?_ _
                go_wp2_with fail
                go_roundw
                case rel => exact ⟨k + 1, o', q', RA', TA', rc', tc', by omega, by go_num, Lib.hid (GD.out.next HNR.out HNO.out HNT.out HNG.out (oth14 _ _ _ _ _ _ _ _ _ _ _ _ _ _) (set14 HGN.out)), HNI⟩
                case measure => simp [intOf]; omega
              exact AllReadyH.nil
            exact AllReadyH.nil
          exact AllReadyH.nil
      · have hlt' : ¬ (k : Int) < (m : Int) := by omega
        go_wp2_with fail
        go_meet
        exact ⟨o, q, RA, TA, rc, tc, GR, Lib.hid (HIV.out.fin HN13 (fun _ => by rw [HMM.out]; omega))⟩
  case rest =>
    clear HGD3
    obtain ⟨o, q, RA, TA, rc, tc, GC, HFV⟩ := hcut
    obtain ⟨S, x, HPU⟩ := PutU.ex (o.kind : Int) o (by simp)
    have HPU := Lib.hid HPU
    have hend := gd_end HX.out HN.out HN12.out HFV.out HPU.out
    have y0 := row_of (v := .int .i64 o.kind) GC.out.g (j := 0) rfl
    have y1 := row_of (v := .string o.topic) GC.out.g (j := 1) rfl
    have y2 := row_of (v := .int .i64 o.pn) GC.out.g (j := 2) rfl
    have y3 := row_of (v := .int .i64 o.n) GC.out.g (j := 3) rfl
    have y4 := row_of (v := .int .i64 o.off) GC.out.g (j := 4) rfl
    have y5 := row_of (v := .int .i64 o.bp) GC.out.g (j := 5) rfl
    have y6 := row_of (v := .int .i64 o.be) GC.out.g (j := 6) rfl
    have y7 := row_of (v := .int .i64 o.bq) GC.out.g (j := 7) rfl
    have y8 := row_of (v := .slice RA o.recs.length rc) GC.out.g (j := 8) rfl
    have y9 := row_of (v := .string o.group) GC.out.g (j := 9) rfl
    have y10 := row_of (v := .string o.member) GC.out.g (j := 10) rfl
    have y11 := row_of (v := .int .i64 o.gen) GC.out.g (j := 11) rfl
    have y12 := row_of (v := .bool o.robin) GC.out.g (j := 12) rfl
    have y13 := row_of (v := .slice TA o.tops.length tc) GC.out.g (j := 13) rfl
    rcases hend with ⟨hqn, rfl, rfl, rfl, rfl⟩ | ⟨hbad, rfl, rfl⟩
    · go_wp2_with ((go_at_call 11; refine (rput_u _ rc tc (Lib.hid HFV.out.sm.cutd) (Lib.hid GC.out.at) _ _ HPU).mono ?_; rintro e w2 ⟨rfl, hb2⟩; have G2 := Lib.hid (GC.out.below hb2); clear hb2 y0 y1 y2 y3 y4 y5 y6 y7 y8 y9 y10 y11 y12 y13; have y0 := row_of (v := .int .i64 X.kind) G2.out.g (j := 0) rfl; have y1 := row_of (v := .string X.topic) G2.out.g (j := 1) rfl; have y2 := row_of (v := .int .i64 X.pn) G2.out.g (j := 2) rfl; have y3 := row_of (v := .int .i64 X.n) G2.out.g (j := 3) rfl; have y4 := row_of (v := .int .i64 X.off) G2.out.g (j := 4) rfl; have y5 := row_of (v := .int .i64 X.bp) G2.out.g (j := 5) rfl; have y6 := row_of (v := .int .i64 X.be) G2.out.g (j := 6) rfl; have y7 := row_of (v := .int .i64 X.bq) G2.out.g (j := 7) rfl; have y8 := row_of (v := .slice RA X.recs.length rc) G2.out.g (j := 8) rfl; have y9 := row_of (v := .string X.group) G2.out.g (j := 9) rfl; have y10 := row_of (v := .string X.member) G2.out.g (j := 10) rfl; have y11 := row_of (v := .int .i64 X.gen) G2.out.g (j := 11) rfl; have y12 := row_of (v := .bool X.robin) G2.out.g (j := 12) rfl; have y13 := row_of (v := .slice TA X.tops.length tc) G2.out.g (j := 13) rfl; have z0 := row_of (v := .int .i64 0) G2.out.z (j := 0) rfl; have z1 := row_of (v := .string ⟨#[]⟩) G2.out.z (j := 1) rfl; have z2 := row_of (v := .int .i64 0) G2.out.z (j := 2) rfl; have z3 := row_of (v := .int .i64 0) G2.out.z (j := 3) rfl; have z4 := row_of (v := .int .i64 0) G2.out.z (j := 4) rfl; have z5 := row_of (v := .int .i64 0) G2.out.z (j := 5) rfl; have z6 := row_of (v := .int .i64 0) G2.out.z (j := 6) rfl; have z7 := row_of (v := .int .i64 0) G2.out.z (j := 7) rfl; have z8 := row_of (v := .slice none 0 0) G2.out.z (j := 8) rfl; have z9 := row_of (v := .string ⟨#[]⟩) G2.out.z (j := 9) rfl; have z10 := row_of (v := .string ⟨#[]⟩) G2.out.z (j := 10) rfl; have z11 := row_of (v := .int .i64 0) G2.out.z (j := 11) rfl; have z12 := row_of (v := .bool false) G2.out.z (j := 12) rfl; have z13 := row_of (v := .slice none 0 0) G2.out.z (j := 13) rfl; have f0 := frozen_of_row _ _ 0 _ _ G2.out.z; have f1 := frozen_of_row _ _ 1 _ _ G2.out.z; have f2 := frozen_of_row _ _ 2 _ _ G2.out.z; have f3 := frozen_of_row _ _ 3 _ _ G2.out.z; have f4 := frozen_of_row _ _ 4 _ _ G2.out.z; have f5 := frozen_of_row _ _ 5 _ _ G2.out.z; have f6 := frozen_of_row _ _ 6 _ _ G2.out.z; have f7 := frozen_of_row _ _ 7 _ _ G2.out.z; have f8 := frozen_of_row _ _ 8 _ _ G2.out.z; have f9 := frozen_of_row _ _ 9 _ _ G2.out.z; have f10 := frozen_of_row _ _ 10 _ _ G2.out.z; have f11 := frozen_of_row _ _ 11 _ _ G2.out.z; have f12 := frozen_of_row _ _ 12 _ _ G2.out.z; have f13 := frozen_of_row _ _ 13 _ _ G2.out.z; obtain ⟨pa, hpa, _⟩ := G2.out.rd; have pb := row_of (v := .bool q.isNone) hpa (j := 2) rfl; rw [hqn] at pb; clear hpa))
      refine bodyPost_ret (v := .tuple #[.agg #[.int .i64 X.kind, .string X.topic, .int .i64 X.pn, .int .i64 X.n, .int .i64 X.off, .int .i64 X.bp, .int .i64 X.be, .int .i64 X.bq, .slice RA X.recs.length rc, .string X.group, .string X.member, .int .i64 X.gen, .bool X.robin, .slice TA X.tops.length tc], .int .i64 0]) (results_row2 (p := 2) (t1 := 3) (ty := 29) Tryz.results4 _ _ w.heap.size 29 #[.int .i64 X.kind, .string X.topic, .int .i64 X.pn, .int .i64 X.n, .int .i64 X.off, .int .i64 X.bp, .int .i64 X.be, .int .i64 X.bq, .slice RA X.recs.length rc, .string X.group, .string X.member, .int .i64 X.gen, .bool X.robin, .slice TA X.tops.length tc] (0, 0) _ rfl (set14 G2.out.z) Tryz.underlying29 rfl (by kernel_rfl)) rfl ?_
      exact ⟨RA, TA, rc, tc, rfl, own_mono (set14_own G2.out.rr (Nat.lt_succ_self _) _ _ _ _ _ _ _ _ _ _ _ _ _ _) (Nat.le_succ _), own_mono (set14_own G2.out.tt (Nat.lt_succ_self _) _ _ _ _ _ _ _ _ _ _ _ _ _ _) (Nat.le_succ _), set14_below G2.out.b (Nat.le_refl _) _ _ _ _ _ _ _ _ _ _ _ _ _ _⟩
    · cases hqn : q.isNone with
      | true =>
        clear hbad
        go_wp2_with ((go_at_call 11; refine (rput_u _ rc tc (Lib.hid HFV.out.sm.cutd) (Lib.hid GC.out.at) _ _ HPU).mono ?_; rintro e w2 ⟨rfl, hb2⟩; have G2 := Lib.hid (GC.out.below hb2); clear hb2 y0 y1 y2 y3 y4 y5 y6 y7 y8 y9 y10 y11 y12 y13; have y0 := row_of (v := .int .i64 o.kind) G2.out.g (j := 0) rfl; have y1 := row_of (v := .string o.topic) G2.out.g (j := 1) rfl; have y2 := row_of (v := .int .i64 o.pn) G2.out.g (j := 2) rfl; have y3 := row_of (v := .int .i64 o.n) G2.out.g (j := 3) rfl; have y4 := row_of (v := .int .i64 o.off) G2.out.g (j := 4) rfl; have y5 := row_of (v := .int .i64 o.bp) G2.out.g (j := 5) rfl; have y6 := row_of (v := .int .i64 o.be) G2.out.g (j := 6) rfl; have y7 := row_of (v := .int .i64 o.bq) G2.out.g (j := 7) rfl; have y8 := row_of (v := .slice RA o.recs.length rc) G2.out.g (j := 8) rfl; have y9 := row_of (v := .string o.group) G2.out.g (j := 9) rfl; have y10 := row_of (v := .string o.member) G2.out.g (j := 10) rfl; have y11 := row_of (v := .int .i64 o.gen) G2.out.g (j := 11) rfl; have y12 := row_of (v := .bool o.robin) G2.out.g (j := 12) rfl; have y13 := row_of (v := .slice TA o.tops.length tc) G2.out.g (j := 13) rfl; have z0 := row_of (v := .int .i64 0) G2.out.z (j := 0) rfl; have z1 := row_of (v := .string ⟨#[]⟩) G2.out.z (j := 1) rfl; have z2 := row_of (v := .int .i64 0) G2.out.z (j := 2) rfl; have z3 := row_of (v := .int .i64 0) G2.out.z (j := 3) rfl; have z4 := row_of (v := .int .i64 0) G2.out.z (j := 4) rfl; have z5 := row_of (v := .int .i64 0) G2.out.z (j := 5) rfl; have z6 := row_of (v := .int .i64 0) G2.out.z (j := 6) rfl; have z7 := row_of (v := .int .i64 0) G2.out.z (j := 7) rfl; have z8 := row_of (v := .slice none 0 0) G2.out.z (j := 8) rfl; have z9 := row_of (v := .string ⟨#[]⟩) G2.out.z (j := 9) rfl; have z10 := row_of (v := .string ⟨#[]⟩) G2.out.z (j := 10) rfl; have z11 := row_of (v := .int .i64 0) G2.out.z (j := 11) rfl; have z12 := row_of (v := .bool false) G2.out.z (j := 12) rfl; have z13 := row_of (v := .slice none 0 0) G2.out.z (j := 13) rfl; have f0 := frozen_of_row _ _ 0 _ _ G2.out.z; have f1 := frozen_of_row _ _ 1 _ _ G2.out.z; have f2 := frozen_of_row _ _ 2 _ _ G2.out.z; have f3 := frozen_of_row _ _ 3 _ _ G2.out.z; have f4 := frozen_of_row _ _ 4 _ _ G2.out.z; have f5 := frozen_of_row _ _ 5 _ _ G2.out.z; have f6 := frozen_of_row _ _ 6 _ _ G2.out.z; have f7 := frozen_of_row _ _ 7 _ _ G2.out.z; have f8 := frozen_of_row _ _ 8 _ _ G2.out.z; have f9 := frozen_of_row _ _ 9 _ _ G2.out.z; have f10 := frozen_of_row _ _ 10 _ _ G2.out.z; have f11 := frozen_of_row _ _ 11 _ _ G2.out.z; have f12 := frozen_of_row _ _ 12 _ _ G2.out.z; have f13 := frozen_of_row _ _ 13 _ _ G2.out.z; obtain ⟨pa, hpa, _⟩ := G2.out.rd; have pb := row_of (v := .bool q.isNone) hpa (j := 2) rfl; rw [hqn] at pb; clear hpa))
        refine bodyPost_ret (v := .tuple #[.agg #[.int .i64 0, .string ⟨#[]⟩, .int .i64 0, .int .i64 0, .int .i64 0, .int .i64 0, .int .i64 0, .int .i64 0, .slice none 0 0, .string ⟨#[]⟩, .string ⟨#[]⟩, .int .i64 0, .bool false, .slice none 0 0], .int .i64 40]) (results_row2 (p := 2) (t1 := 3) (ty := 29) Tryz.results4 _ _ w.heap.size 29 #[.int .i64 0, .string ⟨#[]⟩, .int .i64 0, .int .i64 0, .int .i64 0, .int .i64 0, .int .i64 0, .int .i64 0, .slice none 0 0, .string ⟨#[]⟩, .string ⟨#[]⟩, .int .i64 0, .bool false, .slice none 0 0] (0, 0) _ rfl (set14 G2.out.z) Tryz.underlying29 rfl (by kernel_rfl)) rfl ?_
        exact ⟨none, none, 0, 0, rfl, World.ownsRow_nil _ _ _ _, World.ownsRow_nil _ _ _ _, set14_below G2.out.b (Nat.le_refl _) _ _ _ _ _ _ _ _ _ _ _ _ _ _⟩
      | false =>
        by_cases hx0 : x = 0
        · subst hx0
          have hS : S ≠ s := by
            rcases hbad with h | h | h
            · rw [hqn] at h; cases h
            · exact absurd rfl h
            · exact h
          have hS2 : (S.toList == s.toList) = false := bytes_off hS
          clear hbad
          go_wp2_with ((go_at_call 11; refine (rput_u _ rc tc (Lib.hid HFV.out.sm.cutd) (Lib.hid GC.out.at) _ _ HPU).mono ?_; rintro e w2 ⟨rfl, hb2⟩; have G2 := Lib.hid (GC.out.below hb2); clear hb2 y0 y1 y2 y3 y4 y5 y6 y7 y8 y9 y10 y11 y12 y13; have y0 := row_of (v := .int .i64 o.kind) G2.out.g (j := 0) rfl; have y1 := row_of (v := .string o.topic) G2.out.g (j := 1) rfl; have y2 := row_of (v := .int .i64 o.pn) G2.out.g (j := 2) rfl; have y3 := row_of (v := .int .i64 o.n) G2.out.g (j := 3) rfl; have y4 := row_of (v := .int .i64 o.off) G2.out.g (j := 4) rfl; have y5 := row_of (v := .int .i64 o.bp) G2.out.g (j := 5) rfl; have y6 := row_of (v := .int .i64 o.be) G2.out.g (j := 6) rfl; have y7 := row_of (v := .int .i64 o.bq) G2.out.g (j := 7) rfl; have y8 := row_of (v := .slice RA o.recs.length rc) G2.out.g (j := 8) rfl; have y9 := row_of (v := .string o.group) G2.out.g (j := 9) rfl; have y10 := row_of (v := .string o.member) G2.out.g (j := 10) rfl; have y11 := row_of (v := .int .i64 o.gen) G2.out.g (j := 11) rfl; have y12 := row_of (v := .bool o.robin) G2.out.g (j := 12) rfl; have y13 := row_of (v := .slice TA o.tops.length tc) G2.out.g (j := 13) rfl; have z0 := row_of (v := .int .i64 0) G2.out.z (j := 0) rfl; have z1 := row_of (v := .string ⟨#[]⟩) G2.out.z (j := 1) rfl; have z2 := row_of (v := .int .i64 0) G2.out.z (j := 2) rfl; have z3 := row_of (v := .int .i64 0) G2.out.z (j := 3) rfl; have z4 := row_of (v := .int .i64 0) G2.out.z (j := 4) rfl; have z5 := row_of (v := .int .i64 0) G2.out.z (j := 5) rfl; have z6 := row_of (v := .int .i64 0) G2.out.z (j := 6) rfl; have z7 := row_of (v := .int .i64 0) G2.out.z (j := 7) rfl; have z8 := row_of (v := .slice none 0 0) G2.out.z (j := 8) rfl; have z9 := row_of (v := .string ⟨#[]⟩) G2.out.z (j := 9) rfl; have z10 := row_of (v := .string ⟨#[]⟩) G2.out.z (j := 10) rfl; have z11 := row_of (v := .int .i64 0) G2.out.z (j := 11) rfl; have z12 := row_of (v := .bool false) G2.out.z (j := 12) rfl; have z13 := row_of (v := .slice none 0 0) G2.out.z (j := 13) rfl; have f0 := frozen_of_row _ _ 0 _ _ G2.out.z; have f1 := frozen_of_row _ _ 1 _ _ G2.out.z; have f2 := frozen_of_row _ _ 2 _ _ G2.out.z; have f3 := frozen_of_row _ _ 3 _ _ G2.out.z; have f4 := frozen_of_row _ _ 4 _ _ G2.out.z; have f5 := frozen_of_row _ _ 5 _ _ G2.out.z; have f6 := frozen_of_row _ _ 6 _ _ G2.out.z; have f7 := frozen_of_row _ _ 7 _ _ G2.out.z; have f8 := frozen_of_row _ _ 8 _ _ G2.out.z; have f9 := frozen_of_row _ _ 9 _ _ G2.out.z; have f10 := frozen_of_row _ _ 10 _ _ G2.out.z; have f11 := frozen_of_row _ _ 11 _ _ G2.out.z; have f12 := frozen_of_row _ _ 12 _ _ G2.out.z; have f13 := frozen_of_row _ _ 13 _ _ G2.out.z; obtain ⟨pa, hpa, _⟩ := G2.out.rd; have pb := row_of (v := .bool q.isNone) hpa (j := 2) rfl; rw [hqn] at pb; clear hpa))
          refine bodyPost_ret (v := .tuple #[.agg #[.int .i64 0, .string ⟨#[]⟩, .int .i64 0, .int .i64 0, .int .i64 0, .int .i64 0, .int .i64 0, .int .i64 0, .slice none 0 0, .string ⟨#[]⟩, .string ⟨#[]⟩, .int .i64 0, .bool false, .slice none 0 0], .int .i64 40]) (results_row2 (p := 2) (t1 := 3) (ty := 29) Tryz.results4 _ _ w.heap.size 29 #[.int .i64 0, .string ⟨#[]⟩, .int .i64 0, .int .i64 0, .int .i64 0, .int .i64 0, .int .i64 0, .int .i64 0, .slice none 0 0, .string ⟨#[]⟩, .string ⟨#[]⟩, .int .i64 0, .bool false, .slice none 0 0] (0, 0) _ rfl (set14 G2.out.z) Tryz.underlying29 rfl (by kernel_rfl)) rfl ?_
          exact ⟨none, none, 0, 0, rfl, World.ownsRow_nil _ _ _ _, World.ownsRow_nil _ _ _ _, set14_below G2.out.b (Nat.le_refl _) _ _ _ _ _ _ _ _ _ _ _ _ _ _⟩
        · have hxn : (x != 0) = true := by simpa using hx0
          clear hbad
          go_wp2_with ((go_at_call 11; refine (rput_u _ rc tc (Lib.hid HFV.out.sm.cutd) (Lib.hid GC.out.at) _ _ HPU).mono ?_; rintro e w2 ⟨rfl, hb2⟩; have G2 := Lib.hid (GC.out.below hb2); clear hb2 y0 y1 y2 y3 y4 y5 y6 y7 y8 y9 y10 y11 y12 y13; have y0 := row_of (v := .int .i64 o.kind) G2.out.g (j := 0) rfl; have y1 := row_of (v := .string o.topic) G2.out.g (j := 1) rfl; have y2 := row_of (v := .int .i64 o.pn) G2.out.g (j := 2) rfl; have y3 := row_of (v := .int .i64 o.n) G2.out.g (j := 3) rfl; have y4 := row_of (v := .int .i64 o.off) G2.out.g (j := 4) rfl; have y5 := row_of (v := .int .i64 o.bp) G2.out.g (j := 5) rfl; have y6 := row_of (v := .int .i64 o.be) G2.out.g (j := 6) rfl; have y7 := row_of (v := .int .i64 o.bq) G2.out.g (j := 7) rfl; have y8 := row_of (v := .slice RA o.recs.length rc) G2.out.g (j := 8) rfl; have y9 := row_of (v := .string o.group) G2.out.g (j := 9) rfl; have y10 := row_of (v := .string o.member) G2.out.g (j := 10) rfl; have y11 := row_of (v := .int .i64 o.gen) G2.out.g (j := 11) rfl; have y12 := row_of (v := .bool o.robin) G2.out.g (j := 12) rfl; have y13 := row_of (v := .slice TA o.tops.length tc) G2.out.g (j := 13) rfl; have z0 := row_of (v := .int .i64 0) G2.out.z (j := 0) rfl; have z1 := row_of (v := .string ⟨#[]⟩) G2.out.z (j := 1) rfl; have z2 := row_of (v := .int .i64 0) G2.out.z (j := 2) rfl; have z3 := row_of (v := .int .i64 0) G2.out.z (j := 3) rfl; have z4 := row_of (v := .int .i64 0) G2.out.z (j := 4) rfl; have z5 := row_of (v := .int .i64 0) G2.out.z (j := 5) rfl; have z6 := row_of (v := .int .i64 0) G2.out.z (j := 6) rfl; have z7 := row_of (v := .int .i64 0) G2.out.z (j := 7) rfl; have z8 := row_of (v := .slice none 0 0) G2.out.z (j := 8) rfl; have z9 := row_of (v := .string ⟨#[]⟩) G2.out.z (j := 9) rfl; have z10 := row_of (v := .string ⟨#[]⟩) G2.out.z (j := 10) rfl; have z11 := row_of (v := .int .i64 0) G2.out.z (j := 11) rfl; have z12 := row_of (v := .bool false) G2.out.z (j := 12) rfl; have z13 := row_of (v := .slice none 0 0) G2.out.z (j := 13) rfl; have f0 := frozen_of_row _ _ 0 _ _ G2.out.z; have f1 := frozen_of_row _ _ 1 _ _ G2.out.z; have f2 := frozen_of_row _ _ 2 _ _ G2.out.z; have f3 := frozen_of_row _ _ 3 _ _ G2.out.z; have f4 := frozen_of_row _ _ 4 _ _ G2.out.z; have f5 := frozen_of_row _ _ 5 _ _ G2.out.z; have f6 := frozen_of_row _ _ 6 _ _ G2.out.z; have f7 := frozen_of_row _ _ 7 _ _ G2.out.z; have f8 := frozen_of_row _ _ 8 _ _ G2.out.z; have f9 := frozen_of_row _ _ 9 _ _ G2.out.z; have f10 := frozen_of_row _ _ 10 _ _ G2.out.z; have f11 := frozen_of_row _ _ 11 _ _ G2.out.z; have f12 := frozen_of_row _ _ 12 _ _ G2.out.z; have f13 := frozen_of_row _ _ 13 _ _ G2.out.z; obtain ⟨pa, hpa, _⟩ := G2.out.rd; have pb := row_of (v := .bool q.isNone) hpa (j := 2) rfl; rw [hqn] at pb; clear hpa))
          refine bodyPost_ret (v := .tuple #[.agg #[.int .i64 0, .string ⟨#[]⟩, .int .i64 0, .int .i64 0, .int .i64 0, .int .i64 0, .int .i64 0, .int .i64 0, .slice none 0 0, .string ⟨#[]⟩, .string ⟨#[]⟩, .int .i64 0, .bool false, .slice none 0 0], .int .i64 40]) (results_row2 (p := 2) (t1 := 3) (ty := 29) Tryz.results4 _ _ w.heap.size 29 #[.int .i64 0, .string ⟨#[]⟩, .int .i64 0, .int .i64 0, .int .i64 0, .int .i64 0, .int .i64 0, .int .i64 0, .slice none 0 0, .string ⟨#[]⟩, .string ⟨#[]⟩, .int .i64 0, .bool false, .slice none 0 0] (0, 0) _ rfl (set14 G2.out.z) Tryz.underlying29 rfl (by kernel_rfl)) rfl ?_
          exact ⟨none, none, 0, 0, rfl, World.ownsRow_nil _ _ _ _, World.ownsRow_nil _ _ _ _, set14_below G2.out.b (Nat.le_refl _) _ _ _ _ _ _ _ _ _ _ _ _ _ _⟩
end Go.Proofs.YtijofikpdhapoaaGreat.L4
