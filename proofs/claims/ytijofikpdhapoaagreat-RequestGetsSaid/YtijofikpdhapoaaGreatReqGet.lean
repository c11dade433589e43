/-
  Contracts: the program's own Get.
-/
import Derived.Test.YtijofikpdhapoaaGreatReqRdB
import Derived.Test.YtijofikpdhapoaaGreatReqReader
namespace Go.Proofs.YtijofikpdhapoaaGreat.L4
open Go.RowKit
open L3

set_option maxHeartbeats 4000000 in
theorem rvisit (s : ByteArray) (k : Nat) (hk : k ≤ 12) (a1 a2 a3 a4 a5 a6 a7 a8 a9 a10 a11 a12 a13 : Value) (W0 : World) (P H B0 : Nat) (hPH : P ≠ H) (hP : W0.heap.size ≤ P) (hH : W0.heap.size ≤ H) (hPB : P < B0) (hHB : H < B0) (hs : s.size ≤ 140737488355328) (st : O × Option Int) (w : World) (h : (readerV s W0 P H B0).Inv st w) :
    Calls Tryz.prog 13 #[.iface 51 (.pointer (some ⟨P, 0, none⟩)), .agg #[.int .i64 k, a1, a2, a3, a4, a5, a6, a7, a8, a9, a10, a11, a12, a13], .pointer (some ⟨H, 0, none⟩)] w ((readerV s W0 P H B0).post ((hasK k).foldl (readK s false) st) w) := by
  have F : Fits (readerV s W0 P H B0) := reader_fits
  have hc : k = 0 ∨ k = 1 ∨ k = 2 ∨ k = 3 ∨ k = 4 ∨ k = 5 ∨ k = 6 ∨ k = 7 ∨ k = 8 ∨ k = 9 ∨ k = 10 ∨ k = 11 ∨ k = 12 := by omega
  rcases hc with rfl | rfl | rfl | rfl | rfl | rfl | rfl | rfl | rfl | rfl | rfl | rfl | rfl
  · exact Reader.visit_0 _ F P H _ _ _ _ _ _ _ _ _ _ _ _ _ w _ h (fun st w _ h => rd_1 hPH hP hH hPB hHB hs _ st w h) (fun st w _ h => rd_3 hPH hP hH hPB hHB hs _ st w h) trivial trivial
  · exact Reader.visit_1 _ F P H _ _ _ _ _ _ _ _ _ _ _ _ _ w _ h (fun st w _ h => rd_3 hPH hP hH hPB hHB hs _ st w h) trivial
  · exact Reader.visit_2 _ F P H _ _ _ _ _ _ _ _ _ _ _ _ _ w _ h (fun st w _ h => rd_1 hPH hP hH hPB hHB hs _ st w h) (fun st w _ h => rd_2 hPH hP hH hPB hHB hs _ st w h) (fun st w _ h => rd_5 hPH hP hH hPB hHB hs _ _ _ _ st w h) trivial trivial trivial
  · exact Reader.visit_3 _ F P H _ _ _ _ _ _ _ _ _ _ _ _ _ w _ h (fun st w _ h => rd_1 hPH hP hH hPB hHB hs _ st w h) (fun st w _ h => rd_2 hPH hP hH hPB hHB hs _ st w h) (fun st w _ h => rd_3 hPH hP hH hPB hHB hs _ st w h) (fun st w _ h => rd_4 hPH hP hH hPB hHB hs _ st w h) trivial trivial trivial trivial
  · exact Reader.visit_4 _ F P H _ _ _ _ _ _ _ _ _ _ _ _ _ w _ h (fun st w _ h => rd_1 hPH hP hH hPB hHB hs _ st w h) (fun st w _ h => rd_2 hPH hP hH hPB hHB hs _ st w h) (fun st w _ h => rd_4 hPH hP hH hPB hHB hs _ st w h) trivial trivial trivial
  · exact Reader.visit_5 _ F P H _ _ _ _ _ _ _ _ _ _ _ _ _ w _ h (fun st w _ h => rd_1 hPH hP hH hPB hHB hs _ st w h) (fun st w _ h => rd_2 hPH hP hH hPB hHB hs _ st w h) trivial trivial
  · exact Reader.visit_6 _ F P H _ _ _ _ _ _ _ _ _ _ _ _ _ w _ h (fun st w _ h => rd_3 hPH hP hH hPB hHB hs _ st w h) (fun st w _ h => rd_9 hPH hP hH hPB hHB hs _ st w h) (fun st w _ h => rd_10 hPH hP hH hPB hHB hs _ st w h) (fun st w _ h => rd_12 hPH hP hH hPB hHB hs _ st w h) (fun st w _ h => rd_13 hPH hP hH hPB hHB hs _ st w h) trivial trivial trivial trivial trivial
  · exact Reader.visit_7 _ F P H _ _ _ _ _ _ _ _ _ _ _ _ _ w _ h (fun st w _ h => rd_9 hPH hP hH hPB hHB hs _ st w h) (fun st w _ h => rd_10 hPH hP hH hPB hHB hs _ st w h) (fun st w _ h => rd_11 hPH hP hH hPB hHB hs _ st w h) trivial trivial trivial
  · exact Reader.visit_8 _ F P H _ _ _ _ _ _ _ _ _ _ _ _ _ w _ h (fun st w _ h => rd_9 hPH hP hH hPB hHB hs _ st w h) (fun st w _ h => rd_10 hPH hP hH hPB hHB hs _ st w h) (fun st w _ h => rd_11 hPH hP hH hPB hHB hs _ st w h) trivial trivial trivial
  · exact Reader.visit_9 _ F P H _ _ _ _ _ _ _ _ _ _ _ _ _ w _ h (fun st w _ h => rd_9 hPH hP hH hPB hHB hs _ st w h) (fun st w _ h => rd_10 hPH hP hH hPB hHB hs _ st w h) (fun st w _ h => rd_11 hPH hP hH hPB hHB hs _ st w h) trivial trivial trivial
  · exact Reader.visit_10 _ F P H _ _ _ _ _ _ _ _ _ _ _ _ _ w _ h (fun st w _ h => rd_1 hPH hP hH hPB hHB hs _ st w h) (fun st w _ h => rd_2 hPH hP hH hPB hHB hs _ st w h) (fun st w _ h => rd_4 hPH hP hH hPB hHB hs _ st w h) (fun st w _ h => rd_9 hPH hP hH hPB hHB hs _ st w h) (fun st w _ h => rd_10 hPH hP hH hPB hHB hs _ st w h) (fun st w _ h => rd_11 hPH hP hH hPB hHB hs _ st w h) trivial trivial trivial trivial trivial trivial
  · exact Reader.visit_11 _ F P H _ _ _ _ _ _ _ _ _ _ _ _ _ w _ h (fun st w _ h => rd_1 hPH hP hH hPB hHB hs _ st w h) (fun st w _ h => rd_2 hPH hP hH hPB hHB hs _ st w h) (fun st w _ h => rd_9 hPH hP hH hPB hHB hs _ st w h) trivial trivial trivial
  · exact Reader.visit_12 _ F P H _ _ _ _ _ _ _ _ _ _ _ _ _ w _ h (fun st w _ h => rd_3 hPH hP hH hPB hHB hs _ st w h) trivial

theorem rvisit_is (s : ByteArray) (k : Nat) (hk : k ≤ 12) (a1 a2 a3 a4 a5 a6 a7 a8 a9 a10 a11 a12 a13 : Value) (W0 : World) (P H B0 : Nat) (hPH : P ≠ H) (hP : W0.heap.size ≤ P) (hH : W0.heap.size ≤ H) (hPB : P < B0) (hHB : H < B0) (hs : s.size ≤ 140737488355328) (st : O × Option Int) (o : O) (q : Option Int) (hf : (hasK k).foldl (readK s false) st = (o, q)) (w : World) (h : (readerV s W0 P H B0).Inv st w) :
    Calls Tryz.prog 13 #[.iface 51 (.pointer (some ⟨P, 0, none⟩)), .agg #[.int .i64 k, a1, a2, a3, a4, a5, a6, a7, a8, a9, a10, a11, a12, a13], .pointer (some ⟨H, 0, none⟩)] w fun e w' => e = .returned (.tuple #[]) ∧ (readerV s W0 P H B0).Inv (o, q) w' ∧ Kp (readerV s W0 P H B0).own w w' := by
  have h1 := rvisit s k hk a1 a2 a3 a4 a5 a6 a7 a8 a9 a10 a11 a12 a13 W0 P H B0 hPH hP hH hPB hHB hs st w h
  have e := congrArg (fun x => (readerV s W0 P H B0).post x w) hf
  exact h1.mono fun a b c => (congrFun (congrFun e a) b).mp c


/-- what is told of a command that was read: its lists lie in memory of the call's own -/
def GotO (o : O) (e : Int) (w : World) (x : Ending) (w' : World) : Prop :=
  ∃ RA TA rc tc, x = .returned (.tuple #[.agg #[.int .i64 o.kind, .string o.topic, .int .i64 o.pn, .int .i64 o.n, .int .i64 o.off, .int .i64 o.bp, .int .i64 o.be, .int .i64 o.bq, .slice RA o.recs.length rc, .string o.group, .string o.member, .int .i64 o.gen, .bool o.robin, .slice TA o.tops.length tc], .int .i64 e]) ∧
    w'.ownsRow w.heap.size 35 4 (.slice RA o.recs.length rc) o.recs.length (rowOf o.recs) ∧ w'.ownsRow w.heap.size 9 1 (.slice TA o.tops.length tc) o.tops.length (texts o.tops) ∧ Below w.heap.size w w'

theorem get_yes {s : ByteArray} {o : O} {q : Option Int} (h : readO s false = (o, q)) (hq : q = some (s.size : Int)) (hc : o.chk = 0) : o.kind ≤ 12 ∧ o.chk = 0 ∧ o.bytes = s := by
  subst hq
  have := readO_got h
  exact ⟨this.1, hc, this.2⟩
theorem get_no {s : ByteArray} {o : O} {q : Option Int} (h : readO s false = (o, q)) (hn : q ≠ some (s.size : Int) ∨ o.chk ≠ 0) : ∀ x : O, x.kind ≤ 12 → x.chk = 0 → x.bytes ≠ s := by
  intro x hk hc hb
  have e := readO_put hk hc false
  rw [hb, h] at e
  obtain ⟨rfl, rfl⟩ := Prod.mk.inj e
  rcases hn with hn | hn
  · exact hn rfl
  · exact hn hc


/-- two results, of which the first one lies in memory -/
theorem results_row2 {P : Program} {fn : Func} {p t1 : Tmp} {ty : TypeId} (h : fn.results = #[.cell p ty, .tmp t1]) (tmps : Array Value) (w : World) (g : Nat) (t : TypeId) (cs : Array Value) (fr : Nat × Nat) (d : TypeDesc)
    (hp : tmps.getD p undef = .pointer (some ⟨g, 0, none⟩)) (hg : w.heap[g]? = some (.cells cs t fr))
    (hu : P.underlying ty = some d) (hd : (match d with | .struct _ | .array _ _ => true | _ => false) = true) (hi : (P.info? ty).map (·.size) = some cs.size) :
    (results fn tmps).run P w = .ok (.tuple #[.agg cs, tmps.getD t1 undef]) w := by
  have hp' : tmps[p]?.getD undef = .pointer (some ⟨g, 0, none⟩) := by simpa using hp
  simp [results, h, hp', asAddr, run_loadVar_row w g t ty cs fr d hg hu hd hi]

theorem texts_own {w : World} {base : Nat} {A : Option Addr} {cap : Nat} {l : List ByteArray} (h : w.ownsRow base 9 1 (.slice A l.length cap) l.length (texts l)) : ReadsT w w.heap.size A l := fun h0 => by
  rcases h.2 with ⟨e, e0⟩ | ⟨g, c, cur, e, hb, hc, _⟩
  · omega
  · injection e with e1 e2 e3
    subst e1
    refine ⟨g, rfl, at_lt hc, fun i s hs => ?_⟩
    have := h.cells (g := g) rfl i (.string s) (by simp [texts, hs])
    have ad : ∀ j, (⟨g, 0, none⟩ : Addr).add j = ⟨g, j, none⟩ := fun j => by unfold Addr.add; split <;> simp_all
    rwa [ad] at this

/-- what stands behind the reading of the command -/
structure Mid (s : ByteArray) (o : O) (q : Option Int) (w : World) (P H B0 : Nat) (w2 : World) : Prop where
  r : Rdr P s q w2
  l : Lies o B0 H w2
  b : Below w.heap.size w w2
  z : w2.heap[w.heap.size]? = some (.cells #[.int .i64 0, .string ⟨#[]⟩, .int .i64 0, .int .i64 0, .int .i64 0, .int .i64 0, .int .i64 0, .int .i64 0, .slice none 0 0, .string ⟨#[]⟩, .string ⟨#[]⟩, .int .i64 0, .bool false, .slice none 0 0] 29 (0, 0))
  c : w.heap.size < B0 ∧ B0 ≤ w2.heap.size
theorem Mid.below {s : ByteArray} {o : O} {q : Option Int} {w w2 w3 : World} {P H B0 : Nat} (h : Mid s o q w P H B0 w2) (hb : Below w2.heap.size w2 w3) : Mid s o q w P H B0 w3 :=
  ⟨h.r.below hb, h.l.below hb, h.b.trans (hb.mono h.b.size), (hb.block _ (at_lt h.z)).trans h.z, h.c.1, Nat.le_trans h.c.2 hb.size⟩


theorem get_rdr (w : World) (o : Obj) (s : ByteArray) : Rdr (w.heap.size + 1) s (some 0) ((w.alloc o).alloc (.cells #[.string s, .int .i64 0, .bool false] 47 (0, 0))) :=
  ⟨0, heap_alloc2_new w _ _, fun _ q => Option.some.inj q⟩
theorem get_inv {w w1 : World} {s : ByteArray} {p : Option Int} {n : Nat} {a b : Obj} (hr : Rdr (w.heap.size + 1) s p w1) (hg : ((w.alloc a).alloc b).grownBy w1 (some (w.heap.size + 1))) :
    (readerV s w (w.heap.size + 1) w1.heap.size (w1.heap.size + 1)).Inv (O.of n, p) (w1.alloc (.cells #[.int .i64 n, .string ⟨#[]⟩, .int .i64 0, .int .i64 0, .int .i64 0, .int .i64 0, .int .i64 0, .int .i64 0, .slice none 0 0, .string ⟨#[]⟩, .string ⟨#[]⟩, .int .i64 0, .bool false, .slice none 0 0] 29 (0, 0))) := by
  refine ⟨hr.below (one_box _), ⟨none, none, 0, 0, heap_alloc_new w1 _, World.ownsRow_nil _ _ _ _, World.ownsRow_nil _ _ _ _⟩, ?_, by simp⟩
  exact (((two_box a b).grown hg (by simp; omega) (fun j e => by have := Option.some.inj e; omega))).alloc (by have := hg.size; simp at this; omega) _
theorem get_mid {w w1 w2 : World} {s : ByteArray} {q : Option Int} {o : O} {b c : Obj} (hg : ((w.alloc (.cells #[.int .i64 0, .string ⟨#[]⟩, .int .i64 0, .int .i64 0, .int .i64 0, .int .i64 0, .int .i64 0, .int .i64 0, .slice none 0 0, .string ⟨#[]⟩, .string ⟨#[]⟩, .int .i64 0, .bool false, .slice none 0 0] 29 (0, 0))).alloc b).grownBy w1 (some (w.heap.size + 1))) (hlt : w.heap.size + 1 < w1.heap.size) (hI : (readerV s w (w.heap.size + 1) w1.heap.size (w1.heap.size + 1)).Inv (o, q) w2)
    (hk : Kp (readerV s w (w.heap.size + 1) w1.heap.size (w1.heap.size + 1)).own (w1.alloc c) w2) : Mid s o q w (w.heap.size + 1) w1.heap.size (w1.heap.size + 1) w2 := by
  refine ⟨hI.1, hI.2.1, hI.2.2.1, ?_, by omega, hI.2.2.2⟩
  refine (hk.2 w.heap.size (by simp; omega) (fun e => by rcases e with e | e <;> omega)).1.trans ?_
  refine (Below.heap_alloc w1 c w.heap.size (by omega)).trans ?_
  refine (hg.block w.heap.size (by simp; omega) (fun e => by have := Option.some.inj e; omega)).trans ?_
  exact heap_alloc2_old w _ _


set_option maxRecDepth 100000 in
set_option maxHeartbeats 16000000 in
theorem get_in (s : ByteArray) (o : O) (q : Option Int) (w : World) (hs : s.size ≤ 140737488355328) (HO : Hid (readO s false = (o, q))) :
    Calls Tryz.prog 5 #[.string s] w (GotO (if q = some (s.size : Int) ∧ o.chk = 0 then o else O.zero) (if q = some (s.size : Int) ∧ o.chk = 0 then 0 else 40) w) := by
  obtain ⟨n, p, hn⟩ : ∃ n p, rNum s 12 (some 0) = (n, p) := ⟨_, _, rfl⟩
  have HN := Lib.hid hn
  have hn12 := num_le hn
  have hF : (hasK n).foldl (readK s false) (O.of n, p) = (o, q) := by
    have h2 : (hasK (rNum s 12 (some 0)).1).foldl (readK s false) (O.of (rNum s 12 (some 0)).1, (rNum s 12 (some 0)).2) = (o, q) := HO.out
    rw [hn] at h2
    exact h2
  have HKO : Hid (o.kind ≤ 12) := Lib.hid (by
    have := fold_kind s false (hasK n) (O.of n, p)
    rw [hF] at this
    have h2 : o.kind = n := this
    omega)
  have HF := Lib.hid hF
  have HSM : Hid (Small o) := Lib.hid (by have := readO_small s false; rw [HO.out] at this; exact this)
  have HSZ := Lib.hid hs
  have HK12 := Lib.hid hn12
  obtain ⟨v, hv⟩ : ∃ v, decide (q = some (s.size : Int)) = v := ⟨_, rfl⟩
  obtain ⟨x, hx⟩ : ∃ x, o.chk = x := ⟨_, rfl⟩
  have HV := Lib.hid hv
  have HX := Lib.hid hx
  cases v with
  | false =>
    have hq : ¬ (q = some (s.size : Int) ∧ o.chk = 0) := fun h => of_decide_eq_false hv h.1
    rw [if_neg hq, if_neg hq]
    clear hn hn12 hF hs hv hx hq
    go_enter Tryz.func5, Tryz.ntmps5
    go_wp2_with (first | (go_at_call 12; refine (get_num (w.heap.size + 1) s 12 (some 0) p n _ (by have := HSZ.out; unfold maxLen; omega) (by omega) HN (get_rdr w _ s)).mono ?_; rintro e w1 ⟨rfl, hr1, hg1⟩; have HR1 := Lib.hid hr1; have HG1 := Lib.hid hg1; clear hr1 hg1) | (go_at_call 13; refine (rvisit_is s n HK12.out _ _ _ _ _ _ _ _ _ _ _ _ _ w (w.heap.size + 1) w1.heap.size (w1.heap.size + 1) (by have := HR1.out.lt; omega) (by omega) (by have := HG1.out.size; simp at this; omega) (by have := HR1.out.lt; omega) (by omega) HSZ.out (O.of n, p) o q HF.out _ (get_inv HR1.out HG1.out)).mono ?_; rintro e w2 ⟨rfl, hI2, hk2⟩; have HM := Lib.hid (get_mid HG1.out HR1.out.lt hI2 hk2); have hHM : w1.heap.size < w2.heap.size := HM.out.l.lt; clear hI2 hk2) | (go_at_call 14; refine (get_done (w.heap.size + 1) s q _ HM.out.r).mono ?_; rintro e w3 ⟨rfl, hb3⟩; rw [HV.out]; have HM3 := Lib.hid (HM.out.below hb3); clear hb3; obtain ⟨RA, TA, rc, tc, l1, l2, l3⟩ := HM3.out.l; have L1 := Lib.hid l1; have L2 := Lib.hid l2; have L3 := Lib.hid l3; have l1q : w3.heap[w1.heap.size]? = some (.cells #[.int .i64 o.kind, .string o.topic, .int .i64 o.pn, .int .i64 o.n, .int .i64 o.off, .int .i64 o.bp, .int .i64 o.be, .int .i64 o.bq, .slice RA o.recs.length rc, .string o.group, .string o.member, .int .i64 o.gen, .bool o.robin, .slice TA o.tops.length tc] 29 (0, 0)) := l1; have y0 := row_of (j := 0) l1q rfl; have y1 := row_of (j := 1) l1q rfl; have y2 := row_of (j := 2) l1q rfl; have y3 := row_of (j := 3) l1q rfl; have y4 := row_of (j := 4) l1q rfl; have y5 := row_of (j := 5) l1q rfl; have y6 := row_of (j := 6) l1q rfl; have y7 := row_of (j := 7) l1q rfl; have y8 := row_of (j := 8) l1q rfl; have y9 := row_of (j := 9) l1q rfl; have y10 := row_of (j := 10) l1q rfl; have y11 := row_of (j := 11) l1q rfl; have y12 := row_of (j := 12) l1q rfl; have y13 := row_of (j := 13) l1q rfl; have hz3 := HM3.out.z; have z0 := row_of (j := 0) hz3 rfl; have z1 := row_of (j := 1) hz3 rfl; have z2 := row_of (j := 2) hz3 rfl; have z3 := row_of (j := 3) hz3 rfl; have z4 := row_of (j := 4) hz3 rfl; have z5 := row_of (j := 5) hz3 rfl; have z6 := row_of (j := 6) hz3 rfl; have z7 := row_of (j := 7) hz3 rfl; have z8 := row_of (j := 8) hz3 rfl; have z9 := row_of (j := 9) hz3 rfl; have z10 := row_of (j := 10) hz3 rfl; have z11 := row_of (j := 11) hz3 rfl; have z12 := row_of (j := 12) hz3 rfl; have z13 := row_of (j := 13) hz3 rfl; have f0 := frozen_of_row _ _ 0 _ _ hz3; have f1 := frozen_of_row _ _ 1 _ _ hz3; have f2 := frozen_of_row _ _ 2 _ _ hz3; have f3 := frozen_of_row _ _ 3 _ _ hz3; have f4 := frozen_of_row _ _ 4 _ _ hz3; have f5 := frozen_of_row _ _ 5 _ _ hz3; have f6 := frozen_of_row _ _ 6 _ _ hz3; have f7 := frozen_of_row _ _ 7 _ _ hz3; have f8 := frozen_of_row _ _ 8 _ _ hz3; have f9 := frozen_of_row _ _ 9 _ _ hz3; have f10 := frozen_of_row _ _ 10 _ _ hz3; have f11 := frozen_of_row _ _ 11 _ _ hz3; have f12 := frozen_of_row _ _ 12 _ _ hz3; have f13 := frozen_of_row _ _ 13 _ _ hz3; clear l1 l2 l3 l1q hz3))
    refine bodyPost_ret (v := .tuple #[.agg #[.int .i64 0, .string ⟨#[]⟩, .int .i64 0, .int .i64 0, .int .i64 0, .int .i64 0, .int .i64 0, .int .i64 0, .slice none 0 0, .string ⟨#[]⟩, .string ⟨#[]⟩, .int .i64 0, .bool false, .slice none 0 0], .int .i64 40]) (results_row2 (p := 2) (t1 := 3) (ty := 29) Tryz.results5 _ _ w.heap.size 29 #[.int .i64 0, .string ⟨#[]⟩, .int .i64 0, .int .i64 0, .int .i64 0, .int .i64 0, .int .i64 0, .int .i64 0, .slice none 0 0, .string ⟨#[]⟩, .string ⟨#[]⟩, .int .i64 0, .bool false, .slice none 0 0] (0, 0) _ rfl (set14 HM3.out.z) Tryz.underlying29 rfl (by kernel_rfl)) rfl ?_
    exact ⟨none, none, 0, 0, rfl, World.ownsRow_nil _ _ _ _, World.ownsRow_nil _ _ _ _, set14_below HM3.out.b (Nat.le_refl _) _ _ _ _ _ _ _ _ _ _ _ _ _ _⟩
  | true =>
    by_cases hx0 : x = 0
    · subst hx0
      have hq : q = some (s.size : Int) ∧ o.chk = 0 := ⟨of_decide_eq_true hv, hx⟩
      rw [if_pos hq, if_pos hq]
      clear hn hn12 hF hs hv hx hq
      go_enter Tryz.func5, Tryz.ntmps5
      go_wp2_with (first | (go_at_call 12; refine (get_num (w.heap.size + 1) s 12 (some 0) p n _ (by have := HSZ.out; unfold maxLen; omega) (by omega) HN (get_rdr w _ s)).mono ?_; rintro e w1 ⟨rfl, hr1, hg1⟩; have HR1 := Lib.hid hr1; have HG1 := Lib.hid hg1; clear hr1 hg1) | (go_at_call 13; refine (rvisit_is s n HK12.out _ _ _ _ _ _ _ _ _ _ _ _ _ w (w.heap.size + 1) w1.heap.size (w1.heap.size + 1) (by have := HR1.out.lt; omega) (by omega) (by have := HG1.out.size; simp at this; omega) (by have := HR1.out.lt; omega) (by omega) HSZ.out (O.of n, p) o q HF.out _ (get_inv HR1.out HG1.out)).mono ?_; rintro e w2 ⟨rfl, hI2, hk2⟩; have HM := Lib.hid (get_mid HG1.out HR1.out.lt hI2 hk2); have hHM : w1.heap.size < w2.heap.size := HM.out.l.lt; clear hI2 hk2) | (go_at_call 14; refine (get_done (w.heap.size + 1) s q _ HM.out.r).mono ?_; rintro e w3 ⟨rfl, hb3⟩; rw [HV.out]; have HM3 := Lib.hid (HM.out.below hb3); clear hb3; obtain ⟨RA, TA, rc, tc, l1, l2, l3⟩ := HM3.out.l; have L1 := Lib.hid l1; have L2 := Lib.hid l2; have L3 := Lib.hid l3; have l1q : w3.heap[w1.heap.size]? = some (.cells #[.int .i64 o.kind, .string o.topic, .int .i64 o.pn, .int .i64 o.n, .int .i64 o.off, .int .i64 o.bp, .int .i64 o.be, .int .i64 o.bq, .slice RA o.recs.length rc, .string o.group, .string o.member, .int .i64 o.gen, .bool o.robin, .slice TA o.tops.length tc] 29 (0, 0)) := l1; have y0 := row_of (j := 0) l1q rfl; have y1 := row_of (j := 1) l1q rfl; have y2 := row_of (j := 2) l1q rfl; have y3 := row_of (j := 3) l1q rfl; have y4 := row_of (j := 4) l1q rfl; have y5 := row_of (j := 5) l1q rfl; have y6 := row_of (j := 6) l1q rfl; have y7 := row_of (j := 7) l1q rfl; have y8 := row_of (j := 8) l1q rfl; have y9 := row_of (j := 9) l1q rfl; have y10 := row_of (j := 10) l1q rfl; have y11 := row_of (j := 11) l1q rfl; have y12 := row_of (j := 12) l1q rfl; have y13 := row_of (j := 13) l1q rfl; have hz3 := HM3.out.z; have z0 := row_of (j := 0) hz3 rfl; have z1 := row_of (j := 1) hz3 rfl; have z2 := row_of (j := 2) hz3 rfl; have z3 := row_of (j := 3) hz3 rfl; have z4 := row_of (j := 4) hz3 rfl; have z5 := row_of (j := 5) hz3 rfl; have z6 := row_of (j := 6) hz3 rfl; have z7 := row_of (j := 7) hz3 rfl; have z8 := row_of (j := 8) hz3 rfl; have z9 := row_of (j := 9) hz3 rfl; have z10 := row_of (j := 10) hz3 rfl; have z11 := row_of (j := 11) hz3 rfl; have z12 := row_of (j := 12) hz3 rfl; have z13 := row_of (j := 13) hz3 rfl; have f0 := frozen_of_row _ _ 0 _ _ hz3; have f1 := frozen_of_row _ _ 1 _ _ hz3; have f2 := frozen_of_row _ _ 2 _ _ hz3; have f3 := frozen_of_row _ _ 3 _ _ hz3; have f4 := frozen_of_row _ _ 4 _ _ hz3; have f5 := frozen_of_row _ _ 5 _ _ hz3; have f6 := frozen_of_row _ _ 6 _ _ hz3; have f7 := frozen_of_row _ _ 7 _ _ hz3; have f8 := frozen_of_row _ _ 8 _ _ hz3; have f9 := frozen_of_row _ _ 9 _ _ hz3; have f10 := frozen_of_row _ _ 10 _ _ hz3; have f11 := frozen_of_row _ _ 11 _ _ hz3; have f12 := frozen_of_row _ _ 12 _ _ hz3; have f13 := frozen_of_row _ _ 13 _ _ hz3; clear l1 l2 l3 l1q hz3) | (go_at_call 15; refine (check_in o RA TA rc tc HKO.out w3.heap.size _ (Nat.le_refl _) (Lib.hid (by have := HSM.out.t; unfold maxLen; omega)) (Lib.hid (by have := HSM.out.g; unfold maxLen; omega)) (Lib.hid (by have := HSM.out.m; unfold maxLen; omega)) (Lib.hid (Reads.own L2.out)) (by have := HSM.out.r; omega) (Lib.hid (fun r hr => by have := HSM.out.rs r hr; unfold maxLen; omega)) (Lib.hid (texts_own L3.out)) (Lib.hid (by have := HSM.out.l; unfold maxLen; omega)) (Lib.hid (fun s hs => by have := HSM.out.ls s hs; unfold maxLen; omega))).mono ?_; rintro e w4 ⟨rfl, hb4⟩; rw [HX.out]; have HM4 := Lib.hid (HM3.out.below hb4); have l1q : w4.heap[w1.heap.size]? = some (.cells #[.int .i64 o.kind, .string o.topic, .int .i64 o.pn, .int .i64 o.n, .int .i64 o.off, .int .i64 o.bp, .int .i64 o.be, .int .i64 o.bq, .slice RA o.recs.length rc, .string o.group, .string o.member, .int .i64 o.gen, .bool o.robin, .slice TA o.tops.length tc] 29 (0, 0)) := (hb4.block _ (at_lt L1.out)).trans L1.out; have L2' := Lib.hid (own_below L2.out hb4); have L3' := Lib.hid (own_below L3.out hb4); clear y0 y1 y2 y3 y4 y5 y6 y7 y8 y9 y10 y11 y12 y13; clear z0 z1 z2 z3 z4 z5 z6 z7 z8 z9 z10 z11 z12 z13; clear f0 f1 f2 f3 f4 f5 f6 f7 f8 f9 f10 f11 f12 f13; have y0 := row_of (j := 0) l1q rfl; have y1 := row_of (j := 1) l1q rfl; have y2 := row_of (j := 2) l1q rfl; have y3 := row_of (j := 3) l1q rfl; have y4 := row_of (j := 4) l1q rfl; have y5 := row_of (j := 5) l1q rfl; have y6 := row_of (j := 6) l1q rfl; have y7 := row_of (j := 7) l1q rfl; have y8 := row_of (j := 8) l1q rfl; have y9 := row_of (j := 9) l1q rfl; have y10 := row_of (j := 10) l1q rfl; have y11 := row_of (j := 11) l1q rfl; have y12 := row_of (j := 12) l1q rfl; have y13 := row_of (j := 13) l1q rfl; have hz4 := HM4.out.z; have z0 := row_of (j := 0) hz4 rfl; have z1 := row_of (j := 1) hz4 rfl; have z2 := row_of (j := 2) hz4 rfl; have z3 := row_of (j := 3) hz4 rfl; have z4 := row_of (j := 4) hz4 rfl; have z5 := row_of (j := 5) hz4 rfl; have z6 := row_of (j := 6) hz4 rfl; have z7 := row_of (j := 7) hz4 rfl; have z8 := row_of (j := 8) hz4 rfl; have z9 := row_of (j := 9) hz4 rfl; have z10 := row_of (j := 10) hz4 rfl; have z11 := row_of (j := 11) hz4 rfl; have z12 := row_of (j := 12) hz4 rfl; have z13 := row_of (j := 13) hz4 rfl; have f0 := frozen_of_row _ _ 0 _ _ hz4; have f1 := frozen_of_row _ _ 1 _ _ hz4; have f2 := frozen_of_row _ _ 2 _ _ hz4; have f3 := frozen_of_row _ _ 3 _ _ hz4; have f4 := frozen_of_row _ _ 4 _ _ hz4; have f5 := frozen_of_row _ _ 5 _ _ hz4; have f6 := frozen_of_row _ _ 6 _ _ hz4; have f7 := frozen_of_row _ _ 7 _ _ hz4; have f8 := frozen_of_row _ _ 8 _ _ hz4; have f9 := frozen_of_row _ _ 9 _ _ hz4; have f10 := frozen_of_row _ _ 10 _ _ hz4; have f11 := frozen_of_row _ _ 11 _ _ hz4; have f12 := frozen_of_row _ _ 12 _ _ hz4; have f13 := frozen_of_row _ _ 13 _ _ hz4; clear l1q hz4 hb4))
      refine bodyPost_ret (v := .tuple #[.agg #[.int .i64 o.kind, .string o.topic, .int .i64 o.pn, .int .i64 o.n, .int .i64 o.off, .int .i64 o.bp, .int .i64 o.be, .int .i64 o.bq, .slice RA o.recs.length rc, .string o.group, .string o.member, .int .i64 o.gen, .bool o.robin, .slice TA o.tops.length tc], .int .i64 0]) (results_row2 (p := 2) (t1 := 3) (ty := 29) Tryz.results5 _ _ w.heap.size 29 #[.int .i64 o.kind, .string o.topic, .int .i64 o.pn, .int .i64 o.n, .int .i64 o.off, .int .i64 o.bp, .int .i64 o.be, .int .i64 o.bq, .slice RA o.recs.length rc, .string o.group, .string o.member, .int .i64 o.gen, .bool o.robin, .slice TA o.tops.length tc] (0, 0) _ rfl (set14 HM4.out.z) Tryz.underlying29 rfl (by kernel_rfl)) rfl ?_
      exact ⟨RA, TA, rc, tc, rfl, own_mono (set14_own (own_mono L2'.out (Nat.succ_le_of_lt HM4.out.c.1)) (Nat.lt_succ_self _) _ _ _ _ _ _ _ _ _ _ _ _ _ _) (Nat.le_succ _), own_mono (set14_own (own_mono L3'.out (Nat.succ_le_of_lt HM4.out.c.1)) (Nat.lt_succ_self _) _ _ _ _ _ _ _ _ _ _ _ _ _ _) (Nat.le_succ _), set14_below HM4.out.b (Nat.le_refl _) _ _ _ _ _ _ _ _ _ _ _ _ _ _⟩
    · have hq : ¬ (q = some (s.size : Int) ∧ o.chk = 0) := fun h => hx0 (by rw [← hx]; exact h.2)
      have hxn : (x != 0) = true := by simpa using hx0
      rw [if_neg hq, if_neg hq]
      clear hn hn12 hF hs hv hx hq hx0
      go_enter Tryz.func5, Tryz.ntmps5
      go_wp2_with (first | (go_at_call 12; refine (get_num (w.heap.size + 1) s 12 (some 0) p n _ (by have := HSZ.out; unfold maxLen; omega) (by omega) HN (get_rdr w _ s)).mono ?_; rintro e w1 ⟨rfl, hr1, hg1⟩; have HR1 := Lib.hid hr1; have HG1 := Lib.hid hg1; clear hr1 hg1) | (go_at_call 13; refine (rvisit_is s n HK12.out _ _ _ _ _ _ _ _ _ _ _ _ _ w (w.heap.size + 1) w1.heap.size (w1.heap.size + 1) (by have := HR1.out.lt; omega) (by omega) (by have := HG1.out.size; simp at this; omega) (by have := HR1.out.lt; omega) (by omega) HSZ.out (O.of n, p) o q HF.out _ (get_inv HR1.out HG1.out)).mono ?_; rintro e w2 ⟨rfl, hI2, hk2⟩; have HM := Lib.hid (get_mid HG1.out HR1.out.lt hI2 hk2); have hHM : w1.heap.size < w2.heap.size := HM.out.l.lt; clear hI2 hk2) | (go_at_call 14; refine (get_done (w.heap.size + 1) s q _ HM.out.r).mono ?_; rintro e w3 ⟨rfl, hb3⟩; rw [HV.out]; have HM3 := Lib.hid (HM.out.below hb3); clear hb3; obtain ⟨RA, TA, rc, tc, l1, l2, l3⟩ := HM3.out.l; have L1 := Lib.hid l1; have L2 := Lib.hid l2; have L3 := Lib.hid l3; have l1q : w3.heap[w1.heap.size]? = some (.cells #[.int .i64 o.kind, .string o.topic, .int .i64 o.pn, .int .i64 o.n, .int .i64 o.off, .int .i64 o.bp, .int .i64 o.be, .int .i64 o.bq, .slice RA o.recs.length rc, .string o.group, .string o.member, .int .i64 o.gen, .bool o.robin, .slice TA o.tops.length tc] 29 (0, 0)) := l1; have y0 := row_of (j := 0) l1q rfl; have y1 := row_of (j := 1) l1q rfl; have y2 := row_of (j := 2) l1q rfl; have y3 := row_of (j := 3) l1q rfl; have y4 := row_of (j := 4) l1q rfl; have y5 := row_of (j := 5) l1q rfl; have y6 := row_of (j := 6) l1q rfl; have y7 := row_of (j := 7) l1q rfl; have y8 := row_of (j := 8) l1q rfl; have y9 := row_of (j := 9) l1q rfl; have y10 := row_of (j := 10) l1q rfl; have y11 := row_of (j := 11) l1q rfl; have y12 := row_of (j := 12) l1q rfl; have y13 := row_of (j := 13) l1q rfl; have hz3 := HM3.out.z; have z0 := row_of (j := 0) hz3 rfl; have z1 := row_of (j := 1) hz3 rfl; have z2 := row_of (j := 2) hz3 rfl; have z3 := row_of (j := 3) hz3 rfl; have z4 := row_of (j := 4) hz3 rfl; have z5 := row_of (j := 5) hz3 rfl; have z6 := row_of (j := 6) hz3 rfl; have z7 := row_of (j := 7) hz3 rfl; have z8 := row_of (j := 8) hz3 rfl; have z9 := row_of (j := 9) hz3 rfl; have z10 := row_of (j := 10) hz3 rfl; have z11 := row_of (j := 11) hz3 rfl; have z12 := row_of (j := 12) hz3 rfl; have z13 := row_of (j := 13) hz3 rfl; have f0 := frozen_of_row _ _ 0 _ _ hz3; have f1 := frozen_of_row _ _ 1 _ _ hz3; have f2 := frozen_of_row _ _ 2 _ _ hz3; have f3 := frozen_of_row _ _ 3 _ _ hz3; have f4 := frozen_of_row _ _ 4 _ _ hz3; have f5 := frozen_of_row _ _ 5 _ _ hz3; have f6 := frozen_of_row _ _ 6 _ _ hz3; have f7 := frozen_of_row _ _ 7 _ _ hz3; have f8 := frozen_of_row _ _ 8 _ _ hz3; have f9 := frozen_of_row _ _ 9 _ _ hz3; have f10 := frozen_of_row _ _ 10 _ _ hz3; have f11 := frozen_of_row _ _ 11 _ _ hz3; have f12 := frozen_of_row _ _ 12 _ _ hz3; have f13 := frozen_of_row _ _ 13 _ _ hz3; clear l1 l2 l3 l1q hz3) | (go_at_call 15; refine (check_in o RA TA rc tc HKO.out w3.heap.size _ (Nat.le_refl _) (Lib.hid (by have := HSM.out.t; unfold maxLen; omega)) (Lib.hid (by have := HSM.out.g; unfold maxLen; omega)) (Lib.hid (by have := HSM.out.m; unfold maxLen; omega)) (Lib.hid (Reads.own L2.out)) (by have := HSM.out.r; omega) (Lib.hid (fun r hr => by have := HSM.out.rs r hr; unfold maxLen; omega)) (Lib.hid (texts_own L3.out)) (Lib.hid (by have := HSM.out.l; unfold maxLen; omega)) (Lib.hid (fun s hs => by have := HSM.out.ls s hs; unfold maxLen; omega))).mono ?_; rintro e w4 ⟨rfl, hb4⟩; rw [HX.out]; have HM4 := Lib.hid (HM3.out.below hb4); have l1q : w4.heap[w1.heap.size]? = some (.cells #[.int .i64 o.kind, .string o.topic, .int .i64 o.pn, .int .i64 o.n, .int .i64 o.off, .int .i64 o.bp, .int .i64 o.be, .int .i64 o.bq, .slice RA o.recs.length rc, .string o.group, .string o.member, .int .i64 o.gen, .bool o.robin, .slice TA o.tops.length tc] 29 (0, 0)) := (hb4.block _ (at_lt L1.out)).trans L1.out; have L2' := Lib.hid (own_below L2.out hb4); have L3' := Lib.hid (own_below L3.out hb4); clear y0 y1 y2 y3 y4 y5 y6 y7 y8 y9 y10 y11 y12 y13; clear z0 z1 z2 z3 z4 z5 z6 z7 z8 z9 z10 z11 z12 z13; clear f0 f1 f2 f3 f4 f5 f6 f7 f8 f9 f10 f11 f12 f13; have y0 := row_of (j := 0) l1q rfl; have y1 := row_of (j := 1) l1q rfl; have y2 := row_of (j := 2) l1q rfl; have y3 := row_of (j := 3) l1q rfl; have y4 := row_of (j := 4) l1q rfl; have y5 := row_of (j := 5) l1q rfl; have y6 := row_of (j := 6) l1q rfl; have y7 := row_of (j := 7) l1q rfl; have y8 := row_of (j := 8) l1q rfl; have y9 := row_of (j := 9) l1q rfl; have y10 := row_of (j := 10) l1q rfl; have y11 := row_of (j := 11) l1q rfl; have y12 := row_of (j := 12) l1q rfl; have y13 := row_of (j := 13) l1q rfl; have hz4 := HM4.out.z; have z0 := row_of (j := 0) hz4 rfl; have z1 := row_of (j := 1) hz4 rfl; have z2 := row_of (j := 2) hz4 rfl; have z3 := row_of (j := 3) hz4 rfl; have z4 := row_of (j := 4) hz4 rfl; have z5 := row_of (j := 5) hz4 rfl; have z6 := row_of (j := 6) hz4 rfl; have z7 := row_of (j := 7) hz4 rfl; have z8 := row_of (j := 8) hz4 rfl; have z9 := row_of (j := 9) hz4 rfl; have z10 := row_of (j := 10) hz4 rfl; have z11 := row_of (j := 11) hz4 rfl; have z12 := row_of (j := 12) hz4 rfl; have z13 := row_of (j := 13) hz4 rfl; have f0 := frozen_of_row _ _ 0 _ _ hz4; have f1 := frozen_of_row _ _ 1 _ _ hz4; have f2 := frozen_of_row _ _ 2 _ _ hz4; have f3 := frozen_of_row _ _ 3 _ _ hz4; have f4 := frozen_of_row _ _ 4 _ _ hz4; have f5 := frozen_of_row _ _ 5 _ _ hz4; have f6 := frozen_of_row _ _ 6 _ _ hz4; have f7 := frozen_of_row _ _ 7 _ _ hz4; have f8 := frozen_of_row _ _ 8 _ _ hz4; have f9 := frozen_of_row _ _ 9 _ _ hz4; have f10 := frozen_of_row _ _ 10 _ _ hz4; have f11 := frozen_of_row _ _ 11 _ _ hz4; have f12 := frozen_of_row _ _ 12 _ _ hz4; have f13 := frozen_of_row _ _ 13 _ _ hz4; clear l1q hz4 hb4))
      refine bodyPost_ret (v := .tuple #[.agg #[.int .i64 0, .string ⟨#[]⟩, .int .i64 0, .int .i64 0, .int .i64 0, .int .i64 0, .int .i64 0, .int .i64 0, .slice none 0 0, .string ⟨#[]⟩, .string ⟨#[]⟩, .int .i64 0, .bool false, .slice none 0 0], .int .i64 40]) (results_row2 (p := 2) (t1 := 3) (ty := 29) Tryz.results5 _ _ w.heap.size 29 #[.int .i64 0, .string ⟨#[]⟩, .int .i64 0, .int .i64 0, .int .i64 0, .int .i64 0, .int .i64 0, .int .i64 0, .slice none 0 0, .string ⟨#[]⟩, .string ⟨#[]⟩, .int .i64 0, .bool false, .slice none 0 0] (0, 0) _ rfl (set14 HM4.out.z) Tryz.underlying29 rfl (by kernel_rfl)) rfl ?_
      exact ⟨none, none, 0, 0, rfl, World.ownsRow_nil _ _ _ _, World.ownsRow_nil _ _ _ _, set14_below HM4.out.b (Nat.le_refl _) _ _ _ _ _ _ _ _ _ _ _ _ _ _⟩


end Go.Proofs.YtijofikpdhapoaaGreat.L4
