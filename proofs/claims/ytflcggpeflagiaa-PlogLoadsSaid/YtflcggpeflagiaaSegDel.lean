/-
  Contracts: all records go but those of some offsets.
-/
import Derived.Test.YtflcggpeflagiaaSegSet
import Derived.Laws.CopyRow
namespace Go.Proofs.Ytflcggpeflagiaa.L5
open Go.RowKit
open Go.Maps
open L3 L4

theorem keep_next {s : List Int} {L : List L4.Fd} {j : Nat} {f : L4.Fd} (h : L[j]? = some f) : keepL (L.take (j + 1)) s = keepL (L.take j) s ++ (if f.o ∈ s then [f] else []) := by
  unfold keepL
  rw [List.take_add_one, h, List.filter_append]
  congr 1
  by_cases hf : f.o ∈ s <;> simp [hf]
theorem gone_spec {s : List Int} : ∀ {l : List L4.Fd} {i : Nat} {x : Int}, goneAt s l i = x → (x = -1 ∧ ∀ f ∈ l, f.o ∈ s) ∨ ∃ q f, x = ((i + q : Nat) : Int) ∧ l[q]? = some f ∧ f.o ∉ s ∧ ∀ g ∈ l.take q, g.o ∈ s
  | [], i, x, h => .inl ⟨h.symm, fun f hf => by cases hf⟩
  | f :: t, i, x, h => by
    have h' : (if f.o ∈ s then goneAt s t (i + 1) else (i : Int)) = x := h
    by_cases hf : f.o ∈ s
    · rw [if_pos hf] at h'
      rcases gone_spec h' with ⟨e, ha⟩ | ⟨q, g, e, hg, hn, ha⟩
      · exact .inl ⟨e, fun y hy => by rcases List.mem_cons.1 hy with rfl | hy; exact hf; exact ha y hy⟩
      · refine .inr ⟨q + 1, g, by rw [e]; congr 1; omega, by simpa using hg, hn, fun y hy => ?_⟩
        rw [List.take_succ_cons] at hy
        rcases List.mem_cons.1 hy with rfl | hy
        · exact hf
        · exact ha y hy
    · rw [if_neg hf] at h'
      exact .inr ⟨0, f, by rw [← h']; simp, rfl, hf, fun y hy => by simp at hy⟩
theorem keep_all {s : List Int} {L : List L4.Fd} (h : ∀ f ∈ L, f.o ∈ s) : keepL L s = L := List.filter_eq_self.2 (fun f hf => by simpa using h f hf)
theorem keep_le (s : List Int) (L : List L4.Fd) : (keepL L s).length ≤ L.length := List.length_filter_le _ _

/-- a record stored into a row, behind those that stay -/
theorem rowF_put {W : World} {G k n : Nat} {row : Array Value} {T : TypeId} {l : List L4.Fd} {f : L4.Fd} (hrow : W.heap[G]? = some (.cells row T (0, 0))) (hsz : row.size = n * 5) (ht : row.toList.take (k * 5) = rowF l) (hk : k < n) :
    ∃ row', (((((W.setCell ⟨G, k * 5, none⟩ (.int .i64 f.o)).setCell ⟨G, k * 5 + 1, none⟩ (.bool f.r.hk)).setCell ⟨G, k * 5 + 2, none⟩ (.string f.r.key)).setCell ⟨G, k * 5 + 3, none⟩ (.bool f.r.tb)).setCell ⟨G, k * 5 + 4, none⟩ (.string f.r.val)).heap[G]? = some (.cells row' T (0, 0)) ∧ row'.size = n * 5 ∧ row'.toList.take ((k + 1) * 5) = rowF (l ++ [f]) ∧ ∀ t, (k + 1) * 5 ≤ t → row'[t]? = row[t]? := by
  refine ⟨_, heap_setCell_same _ _ _ _ _ _ (heap_setCell_same _ _ _ _ _ _ (heap_setCell_same _ _ _ _ _ _ (heap_setCell_same _ _ _ _ _ _ (heap_setCell_same _ _ _ _ _ _ hrow)))), by simpa using hsz, ?_, fun t h => ?_⟩
  · have e1 := take_set (v := .int .i64 f.o) (by omega : k * 5 < row.size) ht
    have e2 := take_set (v := .bool f.r.hk) (by simp; omega : k * 5 + 1 < _) e1
    have e3 := take_set (v := .string f.r.key) (by simp; omega : k * 5 + 2 < _) e2
    have e4 := take_set (v := .bool f.r.tb) (by simp; omega : k * 5 + 3 < _) e3
    have e5 := take_set (v := .string f.r.val) (by simp; omega : k * 5 + 4 < _) e4
    rw [show (k + 1) * 5 = k * 5 + 4 + 1 by omega, e5, rowF_app]
    simp [rowF]
  · have n1 : k * 5 ≠ t := by omega
    have n2 : k * 5 + 1 ≠ t := by omega
    have n3 : k * 5 + 2 ≠ t := by omega
    have n4 : k * 5 + 3 ≠ t := by omega
    have n5 : k * 5 + 4 ≠ t := by omega
    simp [n1, n2, n3, n4, n5]
theorem cellIn {W : World} {G i : Nat} {row : Array Value} {T : TypeId} (h : W.heap[G]? = some (.cells row T (0, 0))) (hi : i < row.size) : ∃ v, W.cell? ⟨G, i, none⟩ = some v :=
  ⟨row[i], (cell_of_row _ _ _ _ _ _ h).trans (Array.getElem?_eq_getElem hi)⟩

theorem zeroFd (w : World) : (zeroValue 43).run Try.prog w = .ok (.agg #[.int .i64 0, .bool false, .string ⟨#[]⟩, .bool false, .string ⟨#[]⟩]) w := by kernel_rfl
theorem zeros_one {z : Array Value} (h : ∀ v ∈ z, v.oneCell' = true) (n : Nat) : ∀ v ∈ (Builtin.zeroCells z n).toList, v.oneCell' = true := by
  intro v hv
  simp only [Builtin.zeroCells, Array.toList_map, List.mem_map] at hv
  obtain ⟨i, hi, rfl⟩ := hv
  have h0 : 0 < z.size := by
    rcases Nat.eq_zero_or_pos z.size with e | e
    · rw [e] at hi; simp at hi
    · exact e
  have hlt := Nat.mod_lt i h0
  rw [getElem!_pos z _ hlt]
  exact h _ (Array.getElem_mem hlt)
/-- what stands behind the ones that stay is cleared -/
theorem clear_is (w : World) (b o n c : Nat) (cur : Array Value) (hn : 0 < n) (hg : w.heap[b]? = some (.cells cur 43 (0, 0))) (hfit : o + n * 5 ≤ cur.size) :
    ∃ row, (∀ ty, (Builtin.clear_ #[36] ty #[.slice (some ⟨b, o, none⟩) n c]).run Try.prog w = .ok (.tuple #[]) (w.setRow b row)) ∧ row.size = cur.size ∧ row.toList.take o = cur.toList.take o := by
  obtain ⟨zs, hzs⟩ : ∃ zs, (Builtin.zeroCells #[.int .i64 0, .bool false, .string ⟨#[]⟩, .bool false, .string ⟨#[]⟩] n).toList = zs := ⟨_, rfl⟩
  have hlen : zs.length = n * 5 := by rw [← hzs, Array.length_toList, size_zeroCells]; rfl
  have hone : ∀ v ∈ zs, v.oneCell' = true := by
    rw [← hzs]
    exact zeros_one (by simp [Value.oneCell']) n
  have hst := run_storeCells_at (P := Try.prog) b o 43 zs 0 cur w hg (by rw [hlen]; omega) hone
  simp only [Nat.add_zero] at hst
  refine ⟨(cur.toList.take o ++ zs ++ cur.toList.drop (o + zs.length)).toArray, ?_, ?_, ?_⟩
  · obtain ⟨m, rfl⟩ : ∃ m, n = m + 1 := ⟨n - 1, by omega⟩
    have hz := zeroFd w
    intro ty
    simp [Builtin.clear_, run_underlying Try.underlying36, hz, Value.cells, hzs, hst]
  · simp [List.length_take, List.length_drop, hlen]; omega
  · rw [List.append_assoc, List.take_append_of_le_length (by simp; omega)]
    simp [List.take_take]

theorem cur_at {cur0 cur : Array Value} {L : List L4.Fd} {k i j : Nat} {f : L4.Fd} (ht : cur0.toList.take (k * 5) = rowF L) (hs : ∀ t, i * 5 ≤ t → cur[t]? = cur0[t]?) (hij : i ≤ j) (hf : L[j]? = some f) :
    cur[j * 5]? = some (.int .i64 f.o) ∧ cur[j * 5 + 1]? = some (.bool f.r.hk) ∧ cur[j * 5 + 2]? = some (.string f.r.key) ∧ cur[j * 5 + 3]? = some (.bool f.r.tb) ∧ cur[j * 5 + 4]? = some (.string f.r.val) := by
  have hat : ∀ t v, (rowF L)[t]? = some v → i * 5 ≤ t → cur[t]? = some v := fun t v hv h => by
    rw [hs t h]
    rw [← ht, List.getElem?_take] at hv
    split at hv
    · simpa using hv
    · cases hv
  obtain ⟨a, b, c, d, e⟩ := rowF_at L j f hf
  exact ⟨hat _ _ a (by omega), hat _ _ b (by omega), hat _ _ c (by omega), hat _ _ d (by omega), hat _ _ e (by omega)⟩
/-- behind a sieve: what stays, in the same row; no other block is touched -/
def SieveP (w : World) (A : Option Addr) (cap : Nat) (L : List L4.Fd) (s : List Int) (e : Ending) (w' : World) : Prop :=
  e = .returned (.slice A (keepL L s).length cap) ∧ w'.ownsRow 0 43 5 (.slice A (keepL L s).length cap) (keepL L s).length (rowF (keepL L s)) ∧ w.grownBy w' (blk A)
theorem grown_of {w w' : World} (h : Option Nat) (b : Below w.heap.size w w') : w.grownBy w' h := ⟨b.os, b.tape, b.output, b.size, fun k hk _ => b.block k hk⟩
theorem grown_tr {w w1 w2 : World} {h : Option Nat} (a : w.grownBy w1 h) (b : w1.grownBy w2 h) : w.grownBy w2 h :=
  ⟨b.os.trans a.os, b.tape.trans a.tape, b.output.trans a.output, Nat.le_trans a.size b.size, fun k hk hn => (b.block k (Nat.lt_of_lt_of_le hk a.size) hn).trans (a.block k hk hn)⟩
theorem grown_set {w w1 : World} {g : Nat} (a : w.grownBy w1 (some g)) (i : Nat) (v : Value) : w.grownBy (w1.setCell ⟨g, i, none⟩ v) (some g) :=
  grown_tr a ⟨rfl, rfl, rfl, by simp [World.setCell], fun k _ hn => Below.heap_setCell _ _ _ _ (by intro q; exact hn (by rw [q]))⟩
theorem grown_row' {w w1 : World} {g : Nat} (a : w.grownBy w1 (some g)) (row : Array Value) : w.grownBy (w1.setRow g row) (some g) :=
  grown_tr a ⟨rfl, rfl, rfl, by simp, fun k _ hn => setRow_other _ _ _ _ (by intro q; exact hn (by rw [q]))⟩

set_option maxRecDepth 100000 in
set_option maxHeartbeats 4000000 in
theorem sieve_run {w : World} {bS bm n : Nat} {s : List Int} {g : Nat} {L : List L4.Fd} {cur0 : Array Value} (k cap q : Nat) (f0 : L4.Fd) (hn : L.length = k) (hl : k ≤ 64) (hh : Hid (w.heap[g]? = some (.cells cur0 43 (0, 0)))) (hkc : k ≤ cap) (hcm : cap ≤ maxLen) (hcs : Hid (cur0.size = cap * 5)) (htk : Hid (cur0.toList.take (k * 5) = rowF L))
    (hS : w.cell? ⟨bS, 0, none⟩ = some (.map (some bm))) (hm : Hid (IsSet w bm n s)) (hbS : bS ≠ g) (hbm : bm ≠ g) (ho : Hid (∀ f ∈ L, 0 ≤ f.o ∧ f.o ≤ 1099511627776)) (HX : Hid (goneAt s L 0 = (q : Int))) (hq : Hid (L[q]? = some f0)) (hq0 : f0.o ∉ s) (hqa : Hid (∀ g ∈ L.take q, g.o ∈ s)) :
    Calls Try.prog 60 #[.slice (some ⟨g, 0, none⟩) k cap, .func (.func 61) #[] #[.pointer (some ⟨bS, 0, none⟩)]] w (SieveP w (some ⟨g, 0, none⟩) cap L s) := by
  have HN := Lib.hid hn
  have hbs := World.block_lt_of_cell? _ _ hS
  dsimp only at hbs
  have HSS := Lib.hid hS
  have hqk : q < k := by rw [← hn]; exact (List.getElem?_eq_some_iff.1 hq.out).1
  have hg := (Array.getElem?_eq_some_iff.1 hh.out).1
  have hml := hm.out.lt
  have hown : w.ownsRow 0 43 5 (.slice (some ⟨g, 0, none⟩) L.length cap) L.length (rowF L) := ⟨rowF_len L, .inr ⟨g, cap, cur0, rfl, Nat.zero_le _, hh.out, by omega, hcm, hcs.out, by rw [hn]; exact htk.out⟩⟩
  have hstart : keepL (L.take (q + 1)) s = L.take q := by
    rw [keep_next hq.out, if_neg hq0, List.append_nil, keep_all hqa.out]
  have HSTART := Lib.hid hstart
  have hfind := find_is k cap (q : Int) hn hl (Lib.hid hown) hS hm ho HX
  have HFIND := Lib.hid hfind
  have ne1 : ((q : Int) == -1) = false := beq_eq_false_iff_ne.2 (by omega)
  unfold maxLen at hcm
  have HQ0 := Lib.hid hq0
  clear hn hS hown hfind hstart hq0
  go_enter Try.func60, Try.ntmps60
  go_wp2_with (go_at_call 71; refine HFIND.out.mono ?_; rintro e w1 ⟨rfl, hb1⟩)
  go_loopw [5, 6] (fun s5 s6 wr => ∃ (i j : Nat) (cur : Array Value), s5 = .int .i64 i ∧ s6 = .int .i64 j ∧ i < j ∧ j ≤ k ∧ Hid ((keepL (L.take j) s).length = i) ∧ Hid (wr.heap[g]? = some (.cells cur 43 (0, 0))) ∧ Hid (cur.size = cap * 5) ∧ Hid (cur.toList.take (i * 5) = rowF (keepL (L.take j) s)) ∧ Hid (∀ t, i * 5 ≤ t → cur[t]? = cur0[t]?) ∧ w.grownBy wr (some g)) (fun _ s6 _ => k - (intOf s6).toNat)
  case atStart =>
    refine ⟨q, q + 1, cur0, rfl, by go_num, by omega, by omega, Lib.hid ?_, Lib.hid ((hb1.block g hg).trans hh.out), hcs, Lib.hid ?_, Lib.hid (fun _ _ => rfl), grown_of _ hb1⟩
    · rw [HSTART.out, List.length_take, HN.out]; omega
    · rw [HSTART.out, rowF_take L q (by rw [HN.out]; omega), ← htk.out, List.take_take]; congr 1; omega
  case round =>
    obtain ⟨i, j, cur, rfl, rfl, hij, hjk, hil, hrow, hsz, htake, hsame, hgrow⟩ := hrel
    by_cases hlt : j < k
    · obtain ⟨⟨o, ⟨rk, key, tb, val⟩⟩, hf⟩ : ∃ f, L[j]? = some f := ⟨_, List.getElem?_eq_getElem (by rw [HN.out]; omega)⟩
      obtain ⟨c0, c1, c2, c3, c4⟩ := cur_at htk.out hsame.out (Nat.le_of_lt hij) hf
      have d0 := (cell_of_row _ _ (j * 5) _ _ _ hrow.out).trans c0
      have d1 := (cell_of_row _ _ (j * 5 + 1) _ _ _ hrow.out).trans c1
      have d2 := (cell_of_row _ _ (j * 5 + 2) _ _ _ hrow.out).trans c2
      have d3 := (cell_of_row _ _ (j * 5 + 3) _ _ _ hrow.out).trans c3
      have d4 := (cell_of_row _ _ (j * 5 + 4) _ _ _ hrow.out).trans c4
      obtain ⟨o0, o1⟩ := ho.out _ (List.mem_of_getElem? hf)
      have k0 : (0 : Int) ≤ (j : Int) := by omega
      have k1 : (j : Int) < (k : Int) := by omega
      have i0 : (0 : Int) ≤ (i : Int) := by omega
      have i1 : (i : Int) < (k : Int) := by omega
      have hS' := hgrow.cell HSS.out (by intro e; injection e with e; exact hbS e)
      have hm' := hm.out.at (hgrow.block bm hml (by intro e; injection e with e; exact hbm e))
      have hgw := (Array.getElem?_eq_some_iff.1 hrow.out).1
      obtain ⟨b, hb⟩ : ∃ b, decide (o ∈ s) = b := ⟨_, rfl⟩
      have HB := Lib.hid hb
      have HF := Lib.hid hf
      clear c0 c1 c2 c3 c4 hf hb
      dsimp only at d0 d1 d2 d3 d4 o0 o1
      have hS2 := (World.cell?_alloc_lt _ (.cells #[.int .i64 o, .bool rk, .string key, .bool tb, .string val] 43) _ (World.block_lt_of_cell? _ _ hS')).trans hS'
      have hm2 : Hid (IsSet (wr.alloc (.cells #[.int .i64 o, .bool rk, .string key, .bool tb, .string val] 43)) bm n s) := Lib.hid (hm'.alloc _)
      cases b
      · go_wp2_with (go_at_call 61; refine (gone_is o rk key tb val false hS2 hm2 o0 o1 HB).mono ?_; rintro e w2 ⟨rfl, hb2⟩)
        go_roundw
        case rel =>
          have hk : keepL (L.take (j + 1)) s = keepL (L.take j) s := by rw [keep_next HF.out, if_neg (by simpa using HB.out), List.append_nil]
          exact ⟨i, j + 1, cur, rfl, by go_num, by omega, by omega, Lib.hid (by rw [hk]; exact hil.out), Lib.hid ((hb2.block g (by simp; omega)).trans ((Below.heap_alloc _ _ _ hgw).trans hrow.out)), hsz, Lib.hid (by rw [hk]; exact htake.out), hsame, grown_tr hgrow (grown_of _ ((one_box _).trans (hb2.mono (by simp))))⟩
        case measure => simp [intOf]; omega
      · have HSZ := hsz
        go_wp2_with (go_at_call 61; refine (gone_is o rk key tb val true hS2 hm2 o0 o1 HB).mono ?_; rintro e w2 ⟨rfl, hb2⟩; have hr2 := (hb2.block g (by simp; omega)).trans ((Below.heap_alloc _ _ _ hgw).trans hrow.out); have hbx := (hb2.block wr.heap.size (by simp)).trans (heap_alloc_new _ _); have b0 := (cell_of_row _ _ 0 _ _ _ hbx).trans rfl; have b1 := (cell_of_row _ _ 1 _ _ _ hbx).trans rfl; have b2 := (cell_of_row _ _ 2 _ _ _ hbx).trans rfl; have b3 := (cell_of_row _ _ 3 _ _ _ hbx).trans rfl; have b4 := (cell_of_row _ _ 4 _ _ _ hbx).trans rfl; obtain ⟨v0, hv0⟩ := cellIn hr2 (by rw [HSZ.out]; omega : i * 5 < cur.size); obtain ⟨v1, hv1⟩ := cellIn hr2 (by rw [HSZ.out]; omega : i * 5 + 1 < cur.size); obtain ⟨v2, hv2⟩ := cellIn hr2 (by rw [HSZ.out]; omega : i * 5 + 2 < cur.size); obtain ⟨v3, hv3⟩ := cellIn hr2 (by rw [HSZ.out]; omega : i * 5 + 3 < cur.size); obtain ⟨v4, hv4⟩ := cellIn hr2 (by rw [HSZ.out]; omega : i * 5 + 4 < cur.size); have q0 := frozen_of_row w2 g (i * 5) _ _ hr2; have q1 := frozen_of_row w2 g (i * 5 + 1) _ _ hr2; have q2 := frozen_of_row w2 g (i * 5 + 2) _ _ hr2; have q3 := frozen_of_row w2 g (i * 5 + 3) _ _ hr2; have q4 := frozen_of_row w2 g (i * 5 + 4) _ _ hr2; have HR2 := Lib.hid hr2; clear hr2 hbx)
        obtain ⟨row', x1, x2, x3, x4⟩ := rowF_put (f := ⟨o, ⟨rk, key, tb, val⟩⟩) HR2.out HSZ.out htake.out (by omega : i < cap)
        go_roundw
        case rel =>
          have hk : keepL (L.take (j + 1)) s = keepL (L.take j) s ++ [⟨o, ⟨rk, key, tb, val⟩⟩] := by rw [keep_next HF.out, if_pos (by simpa using HB.out)]
          exact ⟨i + 1, j + 1, row', by go_num, by go_num, by omega, by omega, Lib.hid (by rw [hk, List.length_append, hil.out]; rfl), Lib.hid x1, Lib.hid x2, Lib.hid (by rw [hk]; exact x3), Lib.hid (fun t ht => (x4 t ht).trans (hsame.out t (by omega))), grown_set (grown_set (grown_set (grown_set (grown_set (grown_tr hgrow (grown_of _ ((one_box _).trans (hb2.mono (by simp))))) _ _) _ _) _ _) _ _) _ _⟩
        case measure => simp [intOf]; omega
    · obtain rfl : j = k := by omega
      obtain ⟨row', hcl, hsz', htk'⟩ := clear_is wr g (i * 5) (j - i) (cap - i) cur (by omega) hrow.out (by rw [hsz.out, ← Nat.add_mul]; exact Nat.mul_le_mul_right _ (by omega))
      have i0 : (0 : Int) ≤ (i : Int) := by omega
      have i1 : (i : Int) < (j : Int) := by omega
      have i2 : i < cap := by omega
      have i3 : i ≤ j := by omega
      have HSZ := Lib.hid hsz'
      have HTK := Lib.hid htk'
      clear hsz' htk'
      go_wp2_with fail
      go_ret
      have ek : keepL (L.take j) s = keepL L s := by rw [List.take_of_length_le (by rw [HN.out]; omega)]
      have hil' := hil.out
      have ht' := htake.out
      rw [ek] at hil' ht'
      refine ⟨?_, ?_, grown_row' hgrow _⟩
      · rw [hil']; rfl
      · rw [hil']
        exact ⟨by rw [rowF_len, hil'], .inr ⟨g, cap, row', rfl, Nat.zero_le _, setRow_heap _ _ _ _ _ _ hrow.out, by omega, by unfold maxLen; omega, by rw [HSZ.out, hsz.out], by rw [HTK.out]; exact ht'⟩⟩
end Go.Proofs.Ytflcggpeflagiaa.L5
