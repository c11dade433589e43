/-
  The document's log: where it lies in memory, and its small calls.
-/
import Derived.Test.YtflcggpeflagiaaPlSegs
import Derived.Laws.AppendOwnNone
import Derived.Deep.DeepCutAuto
import Derived.Deep.CutBlock
import Derived.Test.YtflcggpeflagiaaPlLaws
namespace Go.Proofs.Ytflcggpeflagiaa.L6
open Go.RowKit
open L3 L4 L5

/-- append of a row of one's own, perhaps none, at a step of a drawn region -/
theorem step_append_row {P : Program} {w : World} {ops : Array Oper} {o : Oper} {a : Act} {K : Act → World → Prop} {Q : Exit → Act → World → Prop} {E : Prop} (hgd : o.guard = none) (s x : Operand) (t : TypeId)
    (ho : o.op = .call { callee := .builtin .append, args := #[s, x], argTypes := #[t, t] })
    (base : Nat) (e : TypeId) (i : TypeInfo) (z : Value) (size bytes : Nat) (ht : P.underlying t = some (.slice e)) (hi : P.info? e = some i) (hz : i.zero = some z)
    (hsize : i.size = size) (hby : i.bytes = bytes) (hzs : z.cells.size = size) (hsz : 0 < size)
    (v : Value) (n : Nat) (xs : List Value) (hs : a.eval s = v) (hown : w.ownsRow base e size v n xs)
    (base2 : Nat) (A : Option Addr) (m c : Nat) (news : List Value) (hx : a.eval x = .slice A m c) (hsrc : w.ownsRow base2 e size (.slice A m c) m news) (h1 : ∀ u ∈ news, u.oneCell' = true)
    (h63 : n + m ≤ maxLen) (hbytes : (n + m) * bytes ≤ 140737488355328) (hbase : base ≤ w.heap.size)
    (h : ∀ v' w', w'.ownsRow base e size v' (n + m) (xs ++ news) → w.grownBy w' v.ownBlock → K (a.put o.dst v') w') : if Region.wanted o (yielded ops a.tmps) = true then Oper.wp P o a w K Q else E := by
  have hw : Region.wanted o (yielded ops a.tmps) = true := by simp [Region.wanted, hgd]
  rw [if_pos hw]
  rcases hsrc.2 with ⟨e1, e0⟩ | ⟨g, cap', cur, e1, _⟩
  · injection e1 with q1 q2 q3
    subst q1 q2 q3
    have hnews : news = [] := List.eq_nil_of_length_eq_zero (by have := hsrc.1; simpa using this)
    subst hnews
    have hrun := run_append_owned_none (P := P) (w := w) base t o.type e i size ht hi v n xs hown
    unfold Oper.wp
    simp [execOp, ho, resolve, invoke, builtin, hs, hx, hrun, Result.andThen]
    exact h v w (by simpa using hown) (World.grownBy.refl w _)
  · injection e1 with q1 q2 q3
    subst q1
    exact wp_append_own w s x t ho base e i z size bytes ht hi hz hsize hby hzs hsz v n xs hs hown ⟨g, 0, none⟩ m c news hx hsrc.1 (fun j u hu => hsrc.cells (g := g) rfl j u hu) h1 h63 hbytes hbase (fun v' w' q1 q2 _ => h v' w' q1 q2)

/-! ### where it lies -/
def rblocks (k : Nat) (Q : Option Addr) (ss : List Sa) : List Nat := k :: ((blk Q).toList ++ ss.flatMap fun r => (blk r.A).toList)
theorem mem_rblocks {k j : Nat} {Q : Option Addr} {ss : List Sa} : j ∈ rblocks k Q ss ↔ j = k ∨ blk Q = some j ∨ ∃ r ∈ ss, blk r.A = some j := by
  simp [rblocks, Option.mem_toList]
/-- records of their own, apart from these -/
def Rec (W : World) (k : Nat) (Q : Option Addr) (r : Sa) : Prop :=
  W.ownsRow 0 43 5 (.slice r.A r.L.length r.c) r.L.length (rowF r.L) ∧ blk r.A ≠ some k ∧ ∀ j, blk Q = some j → blk r.A ≠ some j
structure RLog (W : World) (room k : Nat) (Q : Option Addr) (cap : Nat) (ss : List Sa) : Prop where
  row : W.heap[k]? = some (.cells #[.int .i64 room, .slice Q ss.length cap] 58 (0, 0))
  own : W.ownsRow 0 53 3 (.slice Q ss.length cap) ss.length (rowS ss)
  ne : blk Q ≠ some k
  recs : ∀ r ∈ ss, Rec W k Q r
section
variable {W W' : World} {room k cap : Nat} {Q : Option Addr} {ss : List Sa}
theorem own_blkLt {T : TypeId} {b n c size : Nat} {Y : Option Addr} {xs : List Value} (h : W.ownsRow b T size (.slice Y n c) n xs) : ∀ j, blk Y = some j → b ≤ j ∧ j < W.heap.size := fun j e => by
  have := h.lt j (by rw [ownBlock_blk]; exact e)
  exact ⟨this.1, this.2⟩
theorem RLog.lt (h : RLog W room k Q cap ss) : ∀ j ∈ rblocks k Q ss, j < W.heap.size := fun j hj => by
  rcases mem_rblocks.1 hj with rfl | e | ⟨r, hr, e⟩
  · exact (Array.getElem?_eq_some_iff.1 h.row).1
  · exact (own_blkLt h.own j e).2
  · exact (own_blkLt (h.recs r hr).1 j e).2
theorem RLog.c0 (h : RLog W room k Q cap ss) : W.cell? ⟨k, 0, none⟩ = some (.int .i64 room) := (cell_of_row _ _ 0 _ _ _ h.row).trans rfl
theorem RLog.c1 (h : RLog W room k Q cap ss) : W.cell? ⟨k, 1, none⟩ = some (.slice Q ss.length cap) := (cell_of_row _ _ 1 _ _ _ h.row).trans rfl
theorem RLog.froz (h : RLog W room k Q cap ss) (i : Nat) : W.frozen? ⟨k, i, none⟩ = false := frozen_of_row _ _ _ _ _ h.row
theorem own_three {b n c i : Nat} {T : TypeId} {l : List Sa} {r : Sa} (h : W.ownsRow 0 T 3 (.slice (some ⟨b, 0, none⟩) n c) n (rowS l)) (hr : l[i]? = some r) :
    W.cell? ⟨b, i * 3, none⟩ = some (.int .i64 r.b) ∧ W.cell? ⟨b, i * 3 + 1, none⟩ = some (.int .i64 r.n) ∧ W.cell? ⟨b, i * 3 + 2, none⟩ = some (.slice r.A r.L.length r.c) := by
  obtain ⟨a0, a1, a2⟩ := rowS_at hr
  have q := fun j v hv => h.cells (g := b) rfl j v hv
  have q0 := q _ _ a0
  have q1 := q _ _ a1
  have q2 := q _ _ a2
  rw [addr_add] at q0 q1 q2
  exact ⟨q0, q1, q2⟩
/-- where the segments lie -/
theorem RLog.form (h : RLog W room k Q cap ss) (h0 : 0 < ss.length) : ∃ b, Q = some ⟨b, 0, none⟩ ∧ b < W.heap.size ∧ ss.length ≤ cap ∧ ∀ i r, ss[i]? = some r → W.cell? ⟨b, i * 3, none⟩ = some (.int .i64 r.b) ∧ W.cell? ⟨b, i * 3 + 1, none⟩ = some (.int .i64 r.n) ∧ W.cell? ⟨b, i * 3 + 2, none⟩ = some (.slice r.A r.L.length r.c) := by
  obtain ⟨b, c, hv, _, hb⟩ := h.own.form h0
  injection hv with e1 e2 e3
  subst e1
  exact ⟨b, rfl, hb, own_cap h.own, fun i r hr => own_three h.own hr⟩
theorem Rec.kept {r : Sa} (h : Rec W k Q r) (hb : ∀ j, blk r.A = some j → W'.heap[j]? = W.heap[j]?) : Rec W' k Q r :=
  ⟨own_at h.1 (fun j e => hb j (by rw [ownBlock_blk] at e; exact e)), h.2⟩
theorem RLog.kept (h : RLog W room k Q cap ss) (hb : ∀ j ∈ rblocks k Q ss, W'.heap[j]? = W.heap[j]?) : RLog W' room k Q cap ss :=
  ⟨(hb k (mem_rblocks.2 (.inl rfl))).trans h.row, own_at h.own (fun j e => hb j (mem_rblocks.2 (.inr (.inl (by rw [ownBlock_blk] at e; exact e))))), h.ne,
    fun r hr => (h.recs r hr).kept (fun j e => hb j (mem_rblocks.2 (.inr (.inr ⟨r, hr, e⟩))))⟩
theorem RLog.below (h : RLog W room k Q cap ss) (b : Below W.heap.size W W') : RLog W' room k Q cap ss :=
  h.kept (fun j hj => b.block j (h.lt j hj))
theorem RLog.only {S : List Nat} (h : RLog W room k Q cap ss) (o : Only S W W') (hd : ∀ j ∈ rblocks k Q ss, j ∉ S) : RLog W' room k Q cap ss :=
  h.kept (fun j hj => o.block j (h.lt j hj) (hd j hj))
/-- another row of segments is put into its own row -/
theorem RLog.setQ {W1 : World} {Q' : Option Addr} {cap' : Nat} {ss' : List Sa} (h : RLog W room k Q cap ss) (hrow : W1.heap[k]? = W.heap[k]?) (ho : W1.ownsRow 0 53 3 (.slice Q' ss'.length cap') ss'.length (rowS ss')) (hne : blk Q' ≠ some k) (hr : ∀ r ∈ ss', Rec W1 k Q' r) :
    RLog (W1.setCell ⟨k, 1, none⟩ (.slice Q' ss'.length cap')) room k Q' cap' ss' := by
  have hb : ∀ j, j ≠ k → (W1.setCell ⟨k, 1, none⟩ (.slice Q' ss'.length cap')).heap[j]? = W1.heap[j]? := fun j hj => Below.heap_setCell _ _ _ _ (fun e => hj e)
  refine ⟨heap_setCell_same W1 k 1 _ _ _ (hrow.trans h.row), own_at ho (fun j e => hb j (fun q => ?_)), hne, fun r hm => (hr r hm).kept (fun j e => hb j (fun q => ?_))⟩
  · rw [ownBlock_blk] at e; exact hne (by rw [e, q])
  · exact (hr r hm).2.1 (by rw [e, q])
end

/-- a document's log that was made since w -/
structure DocAt (w W : World) (room k : Nat) (l : List Sg) (D : List Nat) : Prop where
  old : Below w.heap.size w W
  since : ∀ j ∈ D, w.heap.size ≤ j
  log : ∃ Q cap ss, D = rblocks k Q ss ∧ ss.map Sa.s = l ∧ RLog W room k Q cap ss
/-- what a call leaves that turns one -/
def RStep (W : World) (room k : Nat) (D : List Nat) (l' : List Sg) (W' : World) : Prop := ∃ Q' cap' ss', ss'.map Sa.s = l' ∧ RLog W' room k Q' cap' ss' ∧ Only D W W' ∧ New D W (rblocks k Q' ss')
def DTurned (w W : World) (room k : Nat) (D : List Nat) (l' : List Sg) (W' : World) : Prop := ∃ D', DocAt w W' room k l' D' ∧ Only D W W' ∧ New D W D'
section
variable {w W W' : World} {room k : Nat} {l : List Sg} {D : List Nat}
theorem DocAt.lt (h : DocAt w W room k l D) : ∀ j ∈ D, j < W.heap.size := by
  obtain ⟨Q, cap, ss, rfl, _, hp⟩ := h.log
  exact hp.lt
theorem DocAt.below (h : DocAt w W room k l D) (b : Below W.heap.size W W') : DocAt w W' room k l D := by
  obtain ⟨Q, cap, ss, rfl, e, hp⟩ := h.log
  exact ⟨acc h.old b, h.since, Q, cap, ss, rfl, e, hp.below b⟩
theorem DocAt.only {S : List Nat} (h : DocAt w W room k l D) (o : Only S W W') (h' : ∀ j ∈ S, w.heap.size ≤ j) (hd : ∀ j ∈ D, j ∉ S) : DocAt w W' room k l D := by
  obtain ⟨Q, cap, ss, rfl, e, hp⟩ := h.log
  exact ⟨h.old.trans (o.below h.old.size h'), h.since, Q, cap, ss, rfl, e, hp.only o hd⟩
theorem DocAt.turned {l' : List Sg} (h : DocAt w W room k l D) (s : RStep W room k D l' W') : DTurned w W room k D l' W' := by
  obtain ⟨Q', cap', ss', rfl, q1, q2, q3⟩ := s
  exact ⟨_, ⟨h.old.trans (q2.below h.old.size h.since), since_new h.since h.old.size q3, Q', cap', ss', rfl, rfl, q1⟩, q2, q3⟩
end

/-! ### plain -/
def allS (ss : List Sa) : List L4.Fd := allL (ss.map Sa.s)
theorem allS_next {ss : List Sa} {j : Nat} {r : Sa} (h : ss[j]? = some r) : allS (ss.take (j + 1)) = allS (ss.take j) ++ r.L := by
  unfold allS
  rw [List.take_add_one, h, List.map_append, all_app]
  simp [allL, Sa.s]
theorem rowF_of (l : List L4.Fd) : ∀ u ∈ rowF l, u.oneCell' = true := rowF_one l

/-! ### small calls -/
theorem results_row1 {P : Program} {fn : Func} {p : Tmp} {ty : TypeId} (h : fn.results = #[.cell p ty]) (tmps : Array Value) (w : World) (g : Nat) (t : TypeId) (cs : Array Value) (fr : Nat × Nat) (d : TypeDesc)
    (hp : tmps.getD p undef = .pointer (some ⟨g, 0, none⟩)) (hg : w.heap[g]? = some (.cells cs t fr))
    (hu : P.underlying ty = some d) (hd : (match d with | .struct _ | .array _ _ => true | _ => false) = true) (hi : (P.info? ty).map (·.size) = some cs.size) :
    (results fn tmps).run P w = .ok (.agg cs) w := by
  have hp' : tmps[p]?.getD undef = .pointer (some ⟨g, 0, none⟩) := by simpa using hp
  simp [results, h, hp', asAddr, run_loadVar_row w g t ty cs fr d hg hu hd hi]
theorem rlog_new (w : World) (room : Nat) : DocAt w ((w.alloc (.cells #[.int .i64 0, .int .i64 0, .slice none 0 0] 53)).alloc (.cells #[.int .i64 room, .slice (some ⟨w.heap.size, 0, none⟩) 1 1] 58)) room (w.heap.size + 1) [sg0] (rblocks (w.heap.size + 1) (some ⟨w.heap.size, 0, none⟩) [⟨0, 0, none, 0, []⟩]) := by
  refine ⟨L3.two_box _ _, fun j hj => ?_, _, 1, [⟨0, 0, none, 0, []⟩], rfl, rfl, ⟨?_, ?_, ?_, fun r hr => ?_⟩⟩
  · rcases mem_rblocks.1 hj with rfl | e | ⟨r, hr, e⟩
    · omega
    · injection e with e; dsimp only at e; omega
    · rw [List.mem_singleton.1 hr] at e; cases e
  · have := heap_alloc_new (w.alloc (.cells #[.int .i64 0, .int .i64 0, .slice none 0 0] 53)) (.cells #[.int .i64 room, .slice (some ⟨w.heap.size, 0, none⟩) 1 1] 58)
    simpa using this
  · exact (World.ownsRow_lit (size := 3) (e := 53) (base := 0) w #[.int .i64 0, .int .i64 0, .slice none 0 0] 1 (Nat.zero_le _) (by unfold maxLen; omega) rfl).alloc _
  · intro e; injection e with e; dsimp only at e; omega
  · rw [List.mem_singleton.1 hr]
    exact ⟨World.ownsRow_nil _ _ _ _, by simp [blk], fun j _ => by simp [blk]⟩

set_option maxRecDepth 100000 in
set_option maxHeartbeats 1000000 in
theorem rnew6_is (room : Nat) (h1 : 1 ≤ room) (h64 : room ≤ 64) (w : World) :
    Calls Try.prog 6 #[.int .i64 room] w fun e w' => ∃ k D, e = .returned (.tuple #[.pointer (some ⟨k, 0, none⟩), .int .i64 0]) ∧ DocAt w w' room k [sg0] D ∧ Below w.heap.size w w' := by
  have r1 : ¬ (room : Int) < 1 := by omega
  have r2 : ¬ (64 : Int) < (room : Int) := by omega
  go_enter Try.func6, Try.ntmps6
  go_wp2_with fail
  go_ret2
  exact ⟨_, rfl, ⟨_, rlog_new w room⟩, L3.two_box _ _⟩

section
variable {W : World} {room k cap : Nat} {Q : Option Addr} {ss : List Sa}
set_option maxRecDepth 100000 in
set_option maxHeartbeats 1000000 in
theorem rstart6_is (n : Nat) (x : Int) (h : Hid (RLog W room k Q cap ss)) (hn : ss.length = n) (h0 : 0 < n) (hx : Hid (startL (ss.map Sa.s) = x)) :
    Calls Try.prog 36 #[.pointer (some ⟨k, 0, none⟩)] W fun e W' => e = .returned (.int .i64 x) ∧ Below W.heap.size W W' := by
  obtain ⟨b, rfl, hb, hnc, hcells⟩ := h.out.form (by omega)
  obtain ⟨s, hs⟩ : ∃ s, ss[0]? = some s := ⟨_, List.getElem?_eq_getElem (by omega)⟩
  have hx' : s.b = x := by rw [← hx.out, start_is (s := s.s) (by simp [hs])]; rfl
  have c1 := h.out.c1
  rw [hn] at c1 hnc
  obtain ⟨d0, _, _⟩ := hcells 0 s hs
  rw [hx'] at d0
  have n0 : (0 : Int) < (n : Int) := by omega
  clear hcells hn hs hx'
  simp only [Nat.zero_mul] at d0
  go_enter Try.func36, Try.ntmps36
  go_wp2_with fail
  go_ret
  exact ⟨rfl, Below.refl _ _⟩
set_option maxRecDepth 100000 in
set_option maxHeartbeats 1000000 in
theorem rend6_is (n : Nat) (x : Int) (h : Hid (RLog W room k Q cap ss)) (hn : ss.length = n) (h0 : 0 < n) (h1 : n ≤ 1000) (hx : Hid (endL (ss.map Sa.s) = x)) :
    Calls Try.prog 31 #[.pointer (some ⟨k, 0, none⟩)] W fun e W' => e = .returned (.int .i64 x) ∧ Below W.heap.size W W' := by
  obtain ⟨b, rfl, hb, hnc, hcells⟩ := h.out.form (by omega)
  obtain ⟨j, hj⟩ : ∃ j, j + 1 = n := ⟨n - 1, by omega⟩
  obtain ⟨s, hs⟩ : ∃ s, ss[j]? = some s := ⟨_, List.getElem?_eq_getElem (by omega)⟩
  have hx' : s.n = x := by
    have e : (ss.map Sa.s)[(ss.map Sa.s).length - 1]? = some s.s := by rw [List.length_map, List.getElem?_map, show ss.length - 1 = j by omega, hs]; rfl
    rw [← hx.out, end_is e]; rfl
  have c1 := h.out.c1
  rw [hn] at c1 hnc
  obtain ⟨_, d1, _⟩ := hcells j s hs
  rw [hx'] at d1
  have e1 : wrap64 ((n : Int) - 1) = (j : Int) := by simp only [wrap64]; omega
  have e2 : (n : Int) - 1 = (j : Int) := by omega
  have k0 : (0 : Int) ≤ (j : Int) := by omega
  have k1 : (j : Int) < (n : Int) := by omega
  clear hcells hn hs hx' hj
  go_enter Try.func31, Try.ntmps31
  go_wp2_with fail
  go_quiet (fail)
  go_wp2_with fail
  go_ret
  exact ⟨rfl, drewN_below (Below.refl _ _) _⟩

set_option maxRecDepth 100000 in
set_option maxHeartbeats 4000000 in
theorem rall6_is (N m : Nat) (M : List L4.Fd) (h : Hid (RLog W room k Q cap ss)) (hN : ss.length = N) (hN1 : N ≤ 1000) (hf : Hid (∀ r ∈ ss, r.L.length ≤ 64)) (hM : Hid (allS ss = M)) (hm : M.length = m) :
    Calls Try.prog 37 #[.pointer (some ⟨k, 0, none⟩)] W fun e W' => ∃ A c, e = .returned (.slice A m c) ∧ W'.ownsRow W.heap.size 43 5 (.slice A m c) m (rowF M) ∧ Below W.heap.size W W' := by
  obtain ⟨i0, hi0, hz0, hz1, hz2⟩ := info_parts fdInfo
  have HN := Lib.hid hN
  have HMM := Lib.hid hm
  clear hN hm
  go_enter Try.func37, Try.ntmps37
  go_wp2_with fail
  go_loopw [3, 4] (fun v i wr => ∃ (j q : Nat) (A1 : Option Addr) (c1 : Nat), j ≤ N ∧ q ≤ 64 * j ∧ i = .int .i64 j ∧ v = .slice A1 q c1 ∧ Hid ((allS (ss.take j)).length = q) ∧ Hid (wr.ownsRow W.heap.size 43 5 (.slice A1 q c1) q (rowF (allS (ss.take j)))) ∧ Below W.heap.size W wr) (fun _ i _ => N - (intOf i).toNat)
  case atStart => exact ⟨0, 0, some ⟨W.heap.size, 0, none⟩, 0, by omega, by omega, rfl, rfl, Lib.hid (by simp [allS, allL]), Lib.hid (by simpa [allS, allL, rowF] using World.ownsRow_made (size := 5) W #[] 0 (Nat.le_refl _) (by unfold maxLen; omega) rfl), one_box _⟩
  case round =>
    obtain ⟨j, q, A1, c1, hj, hq, rfl, rfl, hql, hown, hbel⟩ := hrel
    have hdoc := h.out.below hbel
    have x1 := hdoc.c1
    rw [HN.out] at x1
    by_cases hlt : j < N
    · obtain ⟨qb, rfl, hqb, hnc, hcells⟩ := hdoc.form (by rw [HN.out]; omega)
      rw [HN.out] at hnc
      obtain ⟨⟨sb, sn, sA, sc, sL⟩, hsg⟩ : ∃ s, ss[j]? = some s := ⟨_, List.getElem?_eq_getElem (by rw [HN.out]; exact hlt)⟩
      obtain ⟨d0, d1, d2⟩ := hcells j _ hsg
      have hrec := (hdoc.recs _ (List.mem_of_getElem? hsg)).1
      have hf64 := hf.out _ (List.mem_of_getElem? hsg)
      have hnx := allS_next hsg
      dsimp only at d0 d1 d2 hrec hf64 hnx
      obtain ⟨m', hm'⟩ : ∃ m', sL.length = m' := ⟨_, rfl⟩
      rw [hm'] at d2 hrec hf64
      have HM' := Lib.hid hm'
      have HREC := Lib.hid hrec
      have HNX := Lib.hid hnx
      have k0 : (0 : Int) ≤ (j : Int) := by omega
      have k1 : (j : Int) < (N : Int) := by omega
      clear hcells hsg hrec hnx hm' hdoc
      go_wp2_with (at_builtin; refine wpList_append_src rfl _ _ 36 (by rfl) W.heap.size 43 i0 _ 5 56 Try.underlying36 hi0 hz0 hz1 hz2 rfl (by omega) _ q _ (by rfl) hown.out 0 sA m' sc (rowF sL) (by rfl) HREC.out (rowF_one sL) (by unfold maxLen; omega) (by omega) hbel.size ?_; intro v1 w1 hown1 hgrow1)
      obtain ⟨A2, c2, rfl⟩ := own_form hown1
      go_roundw
      case rel =>
        refine ⟨j + 1, q + m', A2, c2, by omega, by omega, by go_num, rfl, Lib.hid ?_, Lib.hid ?_, hbel.grown hgrow1 hbel.size (fun b e => (hown.out.lt b e).1)⟩
        · rw [HNX.out, List.length_append, hql.out, HM'.out]
        · rw [HNX.out, rowF_app]; exact hown1
      case measure => simp [intOf]; omega
    · obtain rfl : j = N := by omega
      have e : ss.take j = ss := List.take_of_length_le (by rw [HN.out]; omega)
      have hq' := hql.out
      have ho := hown.out
      rw [e, hM.out] at hq' ho
      obtain rfl : q = m := by rw [← hq', HMM.out]
      have HO := Lib.hid ho
      clear hq' ho e hdoc
      go_wp2_with fail
      go_ret
      exact ⟨A1, c1, rfl, HO.out, hbel⟩
end

/-! ### a segment of one's own -/
/-- the two boxes: what came in, and the answer, nothing as yet -/
def SegW (W : World) (b n : Int) (A : Option Addr) (m c : Nat) : World := (W.alloc (.cells #[.int .i64 b, .int .i64 n, .slice A m c] 53)).alloc (.cells #[.int .i64 0, .int .i64 0, .slice none 0 0] 53)
theorem segW_rows (W : World) (b n : Int) (A : Option Addr) (m c : Nat) : (SegW W b n A m c).heap.size = W.heap.size + 2 ∧ (SegW W b n A m c).heap[W.heap.size]? = some (.cells #[.int .i64 b, .int .i64 n, .slice A m c] 53 (0, 0)) ∧ (SegW W b n A m c).heap[W.heap.size + 1]? = some (.cells #[.int .i64 0, .int .i64 0, .slice none 0 0] 53 (0, 0)) ∧ Below W.heap.size W (SegW W b n A m c) := by
  refine ⟨by simp [SegW], ?_, ?_, L3.two_box _ _⟩
  · exact (Below.heap_alloc _ _ _ (by simp)).trans (heap_alloc_new _ _)
  · have := heap_alloc_new (W.alloc (.cells #[.int .i64 b, .int .i64 n, .slice A m c] 53)) (.cells #[.int .i64 0, .int .i64 0, .slice none 0 0] 53)
    simpa [SegW] using this
set_option maxRecDepth 100000 in
set_option maxHeartbeats 2000000 in
theorem rseg6_is {W : World} (b n : Int) (A : Option Addr) (m c : Nat) (L : List L4.Fd) (HO : Hid (W.ownsRow 0 43 5 (.slice A m c) m (rowF L))) (hm : m ≤ 1000) :
    Calls Try.prog 32 #[.agg #[.int .i64 b, .int .i64 n, .slice A m c]] W fun e W' => ∃ A' c', e = .returned (.agg #[.int .i64 b, .int .i64 n, .slice A' m c']) ∧ W'.ownsRow W.heap.size 43 5 (.slice A' m c') m (rowF L) ∧ Below W.heap.size W W' := by
  obtain ⟨i0, hi0, hz0, hz1, hz2⟩ := info_parts fdInfo
  go_enter Try.func32, Try.ntmps32
  obtain ⟨hz, hr0, hr1, hbW⟩ := segW_rows W b n A m c
  have HZ := Lib.hid hz
  have HR1 := Lib.hid hr1
  have HBW := Lib.hid hbW
  have d0 := (cell_of_row _ _ 0 _ _ _ hr0).trans rfl
  have d1 := (cell_of_row _ _ 1 _ _ _ hr0).trans rfl
  have d2 := (cell_of_row _ _ 2 _ _ _ hr0).trans rfl
  have hlt : W.heap.size < (SegW W b n A m c).heap.size := by omega
  have hT : ∀ w', Below (W.heap.size + 1) (SegW W b n A m c) w' → (w'.cell? ⟨W.heap.size, 0, none⟩ = some (.int .i64 b) ∧ w'.cell? ⟨W.heap.size, 1, none⟩ = some (.int .i64 n) ∧ w'.cell? ⟨W.heap.size, 2, none⟩ = some (.slice A m c)) ∧ Below (W.heap.size + 1) (SegW W b n A m c) w' := fun w' q => ⟨⟨(q.cell (p := ⟨W.heap.size, 0, none⟩) (Nat.lt_succ_self _)).trans d0, (q.cell (p := ⟨W.heap.size, 1, none⟩) (Nat.lt_succ_self _)).trans d1, (q.cell (p := ⟨W.heap.size, 2, none⟩) (Nat.lt_succ_self _)).trans d2⟩, q⟩
  have HT := Lib.hid hT
  have HLT := Lib.hid hlt
  clear hz hr0 hr1 hbW d0 d1 d2 hT hlt
  go_upto_region 1 with (fail)
  show Code.wp _ _ _ _ (SegW W b n A m c)
  generalize SegW W b n A m c = W2 at HZ HR1 HBW HT HLT ⊢
  have HEMP : Hid ((W2.drew.alloc (.cells #[] 43)).ownsRow W2.heap.size 43 5 (.slice (some ⟨W2.heap.size, 0, none⟩) 0 0) 0 []) := Lib.hid (World.ownsRow_made W2.drew #[] 0 (Nat.le_refl _) (by unfold maxLen; omega) rfl)
  have HB3 : Hid (Below W2.heap.size W2 (W2.drew.alloc (.cells #[] 43))) := Lib.hid ((Below.refl _ _).drew.alloc (Nat.le_refl _) _)
  refine wp_region_held_drew (S := fun w' => (w'.cell? ⟨W.heap.size, 0, none⟩ = some (.int .i64 b) ∧ w'.cell? ⟨W.heap.size, 1, none⟩ = some (.int .i64 n) ∧ w'.cell? ⟨W.heap.size, 2, none⟩ = some (.slice A m c)) ∧ Below (W.heap.size + 1) W2 w') (by kernel_rfl) (HT.out _ (Below.refl _ _).drew) (fun hHeld => ?_)
  refine wpAnyH_take (i := 0) (oi := ?o1) (v := ?v1) ?a1 (by kernel_rfl) (by kernel_rfl) (by kernel_rfl) ?q1 (Or.inl ⟨?g1, ?y1⟩) (by assumption) ?r1; (case' a1 => (simp only [List.getElem?_toArray, List.getElem?_cons_zero]; rfl)); (case' q1 => (exact fun _ _ _ h => h)); (case' g1 => rfl); (case' y1 => (intro w hSw; (try dsimp only at hSw); go_simp; try with_reducible rfl)); (case' r1 => (try simp only [Act.put, List.setIfInBounds_toArray, List.set_cons_zero, List.set_cons_succ]))
  refine wpAnyH_take (i := 1) (oi := ?o2) (v := ?v2) ?a2 (by kernel_rfl) (by kernel_rfl) (by kernel_rfl) ?q2 (Or.inl ⟨?g2, ?y2⟩) (by assumption) ?r2; (case' a2 => (simp only [List.getElem?_toArray, List.getElem?_cons_zero, List.getElem?_cons_succ]; rfl)); (case' q2 => (exact fun _ _ _ h => h)); (case' g2 => rfl); (case' y2 => (intro w hSw; (try dsimp only at hSw); go_simp; try with_reducible rfl)); (case' r2 => (try simp only [Act.put, List.setIfInBounds_toArray, List.set_cons_zero, List.set_cons_succ]))
  refine wpAnyH_take (i := 2) (oi := ?o3) (v := ?v3) ?a3 (by kernel_rfl) (by kernel_rfl) (by kernel_rfl) ?q3 (Or.inl ⟨?g3, ?y3⟩) (by assumption) ?r3; (case' a3 => (simp only [List.getElem?_toArray, List.getElem?_cons_zero, List.getElem?_cons_succ]; rfl)); (case' q3 => (exact fun _ _ _ h => h)); (case' g3 => rfl); (case' y3 => (intro w hSw; (try dsimp only at hSw); go_simp; try with_reducible rfl)); (case' r3 => (try simp only [Act.put, List.setIfInBounds_toArray, List.set_cons_zero, List.set_cons_succ]))
  refine wpAnyH_take (i := 3) (oi := ?o4) (v := ?v4) ?a4 (by kernel_rfl) (by kernel_rfl) (by kernel_rfl) ?q4 (Or.inl ⟨?g4, ?y4⟩) (by assumption) ?r4; (case' a4 => (simp only [List.getElem?_toArray, List.getElem?_cons_zero, List.getElem?_cons_succ]; rfl)); (case' q4 => (exact fun _ _ _ h => h)); (case' g4 => rfl); (case' y4 => (intro w hSw; (try dsimp only at hSw); go_simp; try with_reducible rfl)); (case' r4 => (try simp only [Act.put, List.setIfInBounds_toArray, List.set_cons_zero, List.set_cons_succ]))
  refine wpAnyH_take (i := 5) (oi := ?o5) (v := ?v5) ?a5 (by kernel_rfl) (by kernel_rfl) (by kernel_rfl) ?q5 (Or.inl ⟨?g5, ?y5⟩) (by assumption) ?r5; (case' a5 => (simp only [List.getElem?_toArray, List.getElem?_cons_zero, List.getElem?_cons_succ]; rfl)); (case' q5 => (exact fun _ _ _ h => h)); (case' g5 => rfl); (case' y5 => (intro w hSw; (try dsimp only at hSw); go_simp; try with_reducible rfl)); (case' r5 => (try simp only [Act.put, List.setIfInBounds_toArray, List.set_cons_zero, List.set_cons_succ]))
  refine wpAnyH_take (i := 6) (oi := ?o6) (v := ?v6) ?a6 (by kernel_rfl) (by kernel_rfl) (by kernel_rfl) ?q6 (Or.inl ⟨?g6, ?y6⟩) (by assumption) ?r6; (case' a6 => (simp only [List.getElem?_toArray, List.getElem?_cons_zero, List.getElem?_cons_succ]; rfl)); (case' q6 => (exact fun _ _ _ h => h)); (case' g6 => rfl); (case' y6 => (intro w hSw; (try dsimp only at hSw); go_simp; try with_reducible rfl)); (case' r6 => (try simp only [Act.put, List.setIfInBounds_toArray, List.set_cons_zero, List.set_cons_succ]))
  refine wpAnyH_ready (rs := [4]) (by kernel_rfl) (by simp) ?_
  refine AllReadyH.cons (o := ?o7) ?a7 (fun K hK => ?s7) ?m7; (case' a7 => (simp only [List.getElem?_toArray, List.getElem?_cons_zero, List.getElem?_cons_succ]; rfl))
  case s7 =>
    go_simp
    refine hK.out _ _ (HT.out _ (hHeld.2.alloc (by have := hHeld.2.size; have := HZ.out; omega) _)) (fun hHeld => ?_)
    clear hK K
    (try simp only [Act.put, List.setIfInBounds_toArray, List.set_cons_zero, List.set_cons_succ])
    refine wpAnyH_ready (rs := [7]) (by kernel_rfl) (by simp) ?_
    refine AllReadyH.cons (o := ?o8) ?a8 (fun K hK => ?s8) ?m8; (case' a8 => (simp only [List.getElem?_toArray, List.getElem?_cons_zero, List.getElem?_cons_succ]; rfl))
    case s8 =>
      refine step_append_row (by rfl) _ _ _ (by rfl) W2.heap.size 43 i0 _ 5 56 Try.underlying36 hi0 hz0 hz1 hz2 rfl (by omega) _ 0 [] (by rfl) HEMP.out 0 A m c (rowF L) (by rfl) (own_below (own_below HO.out HBW.out) HB3.out) (rowF_one L) (by unfold maxLen; omega) (by omega) (by simp) ?_
      intro v' w2 hown2 hgrow
      rw [Nat.zero_add, List.nil_append] at hown2
      obtain ⟨A2, c2, rfl⟩ := own_form hown2
      have hin : Below W2.heap.size W2 w2 := HB3.out.grown hgrow (by simp) (fun j e => (HEMP.out.lt j e).1)
      have hrow := (hin.block (W.heap.size + 1) (by have := HZ.out; omega)).trans HR1.out
      have x0 := (cell_of_row _ _ 0 _ _ _ hrow).trans rfl
      have y0 := frozen_of_row _ _ 0 _ _ hrow
      have x1 := (cell_of_row _ _ 1 _ _ _ hrow).trans rfl
      have y1 := frozen_of_row _ _ 1 _ _ hrow
      have x2 := (cell_of_row _ _ 2 _ _ _ hrow).trans rfl
      have y2 := frozen_of_row _ _ 2 _ _ hrow
      have HROW := Lib.hid hrow
      have HIN := Lib.hid hin
      have HOWN2 := Lib.hid hown2
      clear hrow hgrow hown2
      refine hK.out _ _ (HT.out _ (hin.mono (by have := HZ.out; omega))) (fun hHeld => ?_)
      clear hK K
      (try simp only [Act.put, List.setIfInBounds_toArray, List.set_cons_zero, List.set_cons_succ])
      refine wpAnyH_take (i := 8) (oi := ?o9) (v := ?v9) ?a9 (by kernel_rfl) (by kernel_rfl) (by kernel_rfl) ?q9 (Or.inl ⟨?g9, ?y9⟩) (by assumption) ?r9; (case' a9 => (simp only [List.getElem?_toArray, List.getElem?_cons_zero, List.getElem?_cons_succ]; rfl)); (case' q9 => (exact fun _ _ _ h => h)); (case' g9 => rfl); (case' y9 => (intro w hSw; (try dsimp only at hSw); go_simp; try with_reducible rfl)); (case' r9 => (try simp only [Act.put, List.setIfInBounds_toArray, List.set_cons_zero, List.set_cons_succ]))
      refine wpAnyH_ready (rs := [9]) (by kernel_rfl) (by simp) ?_
      refine AllReadyH.cons (o := ?o10) ?a10 (fun K hK => ?s10) ?m10; (case' a10 => (simp only [List.getElem?_toArray, List.getElem?_cons_zero, List.getElem?_cons_succ]; rfl))
      case s10 =>
        go_simp
        refine hK.out _ _ (HT.out _ (((hHeld.2.setCell (p := ⟨W.heap.size + 1, 0, none⟩) (Nat.le_refl _) _).setCell (p := ⟨W.heap.size + 1, 1, none⟩) (Nat.le_refl _) _).setCell (p := ⟨W.heap.size + 1, 2, none⟩) (Nat.le_refl _) _)) (fun hHeld => ?_)
        clear hK K
        (try simp only [Act.put, List.setIfInBounds_toArray, List.set_cons_zero, List.set_cons_succ])
        refine wpAnyH_done (by kernel_rfl) ?_ _
        clear x0 x1 x2 y0 y1 y2
        go_wp2_with fail
        have hfin := (heap_setCell_same _ _ 2 _ _ (.slice A2 m c2) (heap_setCell_same _ _ 1 _ _ (.int .i64 n) (heap_setCell_same _ _ 0 _ _ (.int .i64 b) HROW.out)))
        refine bodyPost_ret (v := .agg #[.int .i64 b, .int .i64 n, .slice A2 m c2]) (results_row1 (p := 2) (ty := 53) Try.results32 _ _ (W.heap.size + 1) 53 #[.int .i64 b, .int .i64 n, .slice A2 m c2] (0, 0) _ rfl hfin Try.underlying53 rfl (by kernel_rfl)) rfl ⟨A2, c2, rfl, ?_, ?_⟩
        · refine own_low (own_at HOWN2.out (fun j e => ?_)) (by have := HZ.out; omega)
          have h1 := (HOWN2.out.lt j e).1
          have h2 := HZ.out
          rw [Below.heap_setCell _ _ _ _ (by show j ≠ W.heap.size + 1; omega), Below.heap_setCell _ _ _ _ (by show j ≠ W.heap.size + 1; omega), Below.heap_setCell _ _ _ _ (by show j ≠ W.heap.size + 1; omega)]
        · exact (((acc HBW.out HIN.out).setCell (p := ⟨W.heap.size + 1, 0, none⟩) (Nat.le_succ _) _).setCell (p := ⟨W.heap.size + 1, 1, none⟩) (Nat.le_succ _) _).setCell (p := ⟨W.heap.size + 1, 2, none⟩) (Nat.le_succ _) _
      exact AllReadyH.nil
    exact AllReadyH.nil
  exact AllReadyH.nil
end Go.Proofs.Ytflcggpeflagiaa.L6
/-
  The document's log: bytes, what is read, whether a key comes later.
-/
namespace Go.Proofs.Ytflcggpeflagiaa.L6
open Go.RowKit
open L3 L4 L5

theorem good64 {room : Nat} {ss : List Sa} (G : GoodL room (ss.map Sa.s)) : ∀ r ∈ ss, r.L.length ≤ 64 := fun r hr => (G.good r.s (List.mem_map_of_mem hr)).len
theorem all_good {room : Nat} {l : List Sg} (G : GoodL room l) : ∀ f ∈ allL l, f.r.chk = 0 := fun f hf => by
  obtain ⟨s, hs, hfs⟩ := List.mem_flatMap.1 hf
  exact (G.good s hs).chk f hfs
theorem allS_len {room : Nat} {ss : List Sa} {N m : Nat} (G : GoodL room (ss.map Sa.s)) (hN : ss.length = N) (hm : (allS ss).length = m) : m ≤ N * 64 := by
  have h1 := all_len (l := ss.map Sa.s) (room := 64) (fun s hs => Nat.le_trans (G.few s hs) G.r64)
  rw [List.length_map, hN] at h1
  unfold allS at hm
  omega
section
variable {W : World} {room k cap : Nat} {Q : Option Addr} {ss : List Sa}
set_option maxRecDepth 100000 in
set_option maxHeartbeats 2000000 in
theorem rbytes6_is (N y : Nat) (h : Hid (RLog W room k Q cap ss)) (G : Hid (GoodL room (ss.map Sa.s))) (hN : ss.length = N) (hN1 : N ≤ 1000) (hy : Hid (bytesL (allS ss) = y)) :
    Calls Try.prog 46 #[.pointer (some ⟨k, 0, none⟩)] W fun e W' => e = .returned (.int .i64 (y : Nat)) ∧ Below W.heap.size W W' := by
  obtain ⟨M, hM⟩ : ∃ M, allS ss = M := ⟨_, rfl⟩
  obtain ⟨m, hm⟩ : ∃ m, M.length = m := ⟨_, rfl⟩
  have hm1 : m ≤ 64000 := by have := allS_len G.out hN (by rw [hM, hm] : (allS ss).length = m); omega
  have HY : Hid (bytesL M = y) := Lib.hid (by rw [← hM]; exact hy.out)
  have HCK : Hid (∀ f ∈ M, f.r.chk = 0) := Lib.hid (by rw [← hM]; exact all_good G.out)
  have HF := Lib.hid (good64 G.out)
  have HM := Lib.hid hM
  have HN := Lib.hid hN
  have HL := Lib.hid hm
  clear hM hN hm hy
  go_enter Try.func46, Try.ntmps46
  go_wp2_with (go_at_call 37; refine (rall6_is N m M h HN.out hN1 HF HM HL.out).mono ?_; rintro e w1 ⟨A1, c1, rfl, ho1, hb1⟩; have O1 := Lib.hid ho1; have HB1 := Lib.hid hb1; clear ho1 hb1)
  go_loopw [4, 5] (fun s i wr => ∃ (j q : Nat), j ≤ m ∧ i = .int .i64 j ∧ s = .int .i64 q ∧ q ≤ 600 * j ∧ Hid (bytesL (M.take j) = q) ∧ Below w1.heap.size w1 wr) (fun _ i _ => m - (intOf i).toNat)
  case atStart => exact ⟨0, 0, by omega, rfl, rfl, by omega, Lib.hid rfl, Below.refl _ _⟩
  case round =>
    obtain ⟨j, q, hj, rfl, rfl, hq, hQ, hbel⟩ := hrel
    by_cases hlt : j < m
    · obtain ⟨xb, xc, hv, _, hxb⟩ := O1.out.form (by omega)
      injection hv with e1 _ e3
      subst e1 e3
      obtain ⟨⟨o, ⟨rk, key, tb, val⟩⟩, hf⟩ : ∃ s, M[j]? = some s := ⟨_, List.getElem?_eq_getElem (by rw [HL.out]; exact hlt)⟩
      obtain ⟨d0, d1, d2, d3, d4⟩ := own_cells (own_below O1.out hbel) hf
      have hmc := own_cap O1.out
      have HC : Hid (chk rk key tb val = 0) := Lib.hid (HCK.out _ (List.mem_of_getElem? hf))
      have k0 : (0 : Int) ≤ (j : Int) := by omega
      have k1 : (j : Int) < (m : Int) := by omega
      obtain ⟨p, hp⟩ : ∃ p, putT rk key tb val = p := ⟨_, rfl⟩
      have hps : p.size ≤ 600 := by rw [← hp]; exact putT_size _ _ _ _
      have HP := Lib.hid hp
      have hnx := bytes_take hf
      rw [hQ.out] at hnx
      have HNX : Hid (bytesL (M.take (j + 1)) = q + p.size) := Lib.hid (by rw [hnx]; show q + (putT rk key tb val).size = _; rw [hp])
      have e1 : wrap64 ((q : Int) + (p.size : Int)) = ((q + p.size : Nat) : Int) := by simp only [wrap64]; omega
      clear hf hp hnx
      dsimp only at d0 d1 d2 d3 d4
      go_wp2_with (go_at_call 63; refine (refrec_is _ _ _ _ _ _ HC HP).mono ?_; rintro e w2 ⟨rfl, hb2⟩)
      go_roundw
      case rel => exact ⟨j + 1, q + p.size, by omega, by go_num, by go_num, by omega, HNX, hbel.trans (hb2.mono hbel.size)⟩
      case measure => simp [intOf]; omega
    · obtain rfl : j = m := by omega
      have HE : Hid (y = q) := Lib.hid (by have := hQ.out; rw [List.take_of_length_le (by rw [HL.out]; omega)] at this; rw [← this, HY.out])
      go_wp2_with fail
      go_ret
      exact ⟨congrArg (fun m : Nat => Ending.returned (.int .i64 m)) HE.out.symm, acc HB1.out hbel⟩

set_option maxRecDepth 100000 in
set_option maxHeartbeats 1000000 in
theorem rread6_no (a c x : Int) (N : Nat) (h : Hid (RLog W room k Q cap ss)) (G : Hid (GoodL room (ss.map Sa.s))) (hN : ss.length = N) (hN1 : N ≤ 1000) (HX : Hid (readE (ss.map Sa.s) a = x)) (hx : x ≠ 0) :
    Calls Try.prog 11 #[.pointer (some ⟨k, 0, none⟩), .int .i64 a, .int .i64 c] W fun e W' => e = .returned (.tuple #[.slice none 0 0, .int .i64 x]) ∧ Below W.heap.size W W' := by
  obtain ⟨st, hst⟩ : ∃ st, startL (ss.map Sa.s) = st := ⟨_, rfl⟩
  obtain ⟨en, hen⟩ : ∃ en, endL (ss.map Sa.s) = en := ⟨_, rfl⟩
  have h0 : 0 < N := by have := G.out.ne; rw [List.length_map, hN] at this; exact this
  have hx' := HX.out
  unfold readE at hx'
  rw [hst, hen] at hx'
  have HS := Lib.hid hst
  have HE := Lib.hid hen
  clear hst hen
  by_cases h1 : a < st
  · rw [if_pos h1] at hx'
    subst hx'
    go_enter Try.func11, Try.ntmps11
    go_wp2_with (go_at_call 36; refine (rstart6_is N st h hN h0 HS).mono ?_; rintro e w1 ⟨rfl, hb1⟩)
    go_ret2
    exact ⟨rfl, hb1⟩
  · rw [if_neg h1] at hx'
    by_cases h2 : en < a
    · rw [if_pos h2] at hx'
      subst hx'
      go_enter Try.func11, Try.ntmps11
      go_wp2_with (first
        | (go_at_call 31; refine (rend6_is N en (Lib.hid (h.out.below hb1)) hN h0 hN1 HE).mono ?_; rintro e w2 ⟨rfl, hb2⟩)
        | (go_at_call 36; refine (rstart6_is N st h hN h0 HS).mono ?_; rintro e w1 ⟨rfl, hb1⟩))
      go_ret2
      exact ⟨rfl, acc hb1 hb2⟩
    · rw [if_neg h2] at hx'
      exact absurd hx'.symm hx

set_option maxRecDepth 100000 in
set_option maxHeartbeats 4000000 in
theorem rread6_yes (a c : Int) (N : Nat) (X : List L4.Fd) (xm : Nat) (h : Hid (RLog W room k Q cap ss)) (G : Hid (GoodL room (ss.map Sa.s))) (hN : ss.length = N) (hN1 : N ≤ 1000) (HX : Hid (readE (ss.map Sa.s) a = 0)) (HXL : Hid (readL (allL (ss.map Sa.s)) a c = X)) (hxm : X.length = xm) :
    Calls Try.prog 11 #[.pointer (some ⟨k, 0, none⟩), .int .i64 a, .int .i64 c] W fun e W' => ∃ A c', e = .returned (.tuple #[.slice A xm c', .int .i64 0]) ∧ W'.ownsRow W.heap.size 43 5 (.slice A xm c') xm (rowF X) ∧ Below W.heap.size W W' := by
  obtain ⟨i0, hi0, hz0, hz1, hz2⟩ := info_parts fdInfo
  obtain ⟨st, hst⟩ : ∃ st, startL (ss.map Sa.s) = st := ⟨_, rfl⟩
  obtain ⟨en, hen⟩ : ∃ en, endL (ss.map Sa.s) = en := ⟨_, rfl⟩
  have h0 : 0 < N := by have := G.out.ne; rw [List.length_map, hN] at this; exact this
  have hx' := HX.out
  unfold readE at hx'
  rw [hst, hen] at hx'
  have h1 : ¬ a < st := fun q => by rw [if_pos q] at hx'; simp at hx'
  rw [if_neg h1] at hx'
  have h2 : ¬ en < a := fun q => by rw [if_pos q] at hx'; simp at hx'
  clear hx'
  have HS := Lib.hid hst
  have HE := Lib.hid hen
  obtain ⟨M, hM⟩ : ∃ M, allS ss = M := ⟨_, rfl⟩
  obtain ⟨m, hm⟩ : ∃ m, M.length = m := ⟨_, rfl⟩
  have hm1 : m ≤ 64000 := by have := allS_len G.out hN (by rw [hM, hm] : (allS ss).length = m); omega
  have HXM : Hid (readL M a c = X) := Lib.hid (by rw [← hM]; exact HXL.out)
  have HF := Lib.hid (good64 G.out)
  have HM := Lib.hid hM
  have HN := Lib.hid hN
  have HL := Lib.hid hm
  have HXN := Lib.hid hxm
  clear hM hN hm hst hen hxm HXL
  go_enter Try.func11, Try.ntmps11
  go_wp2_with (first
    | (go_at_call 37; refine (rall6_is N m M (Lib.hid (h.out.below (acc hb1 hb2))) HN.out hN1 HF HM HL.out).mono ?_; rintro e w3 ⟨A3, c3, rfl, ho3, hb3⟩; have O3 := Lib.hid ho3; have HB3 := Lib.hid (acc (acc hb1 hb2) hb3); clear ho3)
    | (go_at_call 31; refine (rend6_is N en (Lib.hid (h.out.below hb1)) HN.out h0 hN1 HE).mono ?_; rintro e w2 ⟨rfl, hb2⟩)
    | (go_at_call 36; refine (rstart6_is N st h HN.out h0 HS).mono ?_; rintro e w1 ⟨rfl, hb1⟩))
  clear hb1 hb2 hb3
  go_loopw [9, 10] (fun v i wr => ∃ (j q : Nat) (A1 : Option Addr) (c1 : Nat), j ≤ m ∧ q ≤ j ∧ i = .int .i64 j ∧ v = .slice A1 q c1 ∧ Hid ((readL (M.take j) a c).length = q) ∧ Hid (wr.ownsRow w3.heap.size 43 5 (.slice A1 q c1) q (rowF (readL (M.take j) a c))) ∧ Below w3.heap.size w3 wr) (fun _ i _ => m - (intOf i).toNat)
  case atStart => exact ⟨0, 0, some ⟨w3.heap.size, 0, none⟩, 0, by omega, by omega, rfl, rfl, Lib.hid (by simp [readL]), Lib.hid (by simpa [readL, rowF] using World.ownsRow_made (size := 5) w3 #[] 0 (Nat.le_refl _) (by unfold maxLen; omega) rfl), one_box _⟩
  case round =>
    obtain ⟨j, q, A1, c1, hj, hq, rfl, rfl, hQ, hown, hbel⟩ := hrel
    by_cases hlt : j < m
    · obtain ⟨xb, xc, hv, _, hxb⟩ := O3.out.form (by omega)
      injection hv with e1 _ e3
      subst e1 e3
      obtain ⟨⟨o, ⟨rk, key, tb, val⟩⟩, hf⟩ : ∃ s, M[j]? = some s := ⟨_, List.getElem?_eq_getElem (by rw [HL.out]; exact hlt)⟩
      obtain ⟨d0, d1, d2, d3, d4⟩ := own_cells (own_below O3.out hbel) hf
      have hmc := own_cap O3.out
      obtain ⟨x1, x2⟩ := read_next (a := a) (c := c) hf
      rw [hQ.out] at x1 x2
      have X1 := Lib.hid x1
      have X2 := Lib.hid x2
      have k0 : (0 : Int) ≤ (j : Int) := by omega
      have k1 : (j : Int) < (m : Int) := by omega
      clear hf x1 x2
      dsimp only at d0 d1 d2 d3 d4
      by_cases h3 : a ≤ o
      · by_cases h4 : (q : Int) < c
        · have HNX : Hid (readL (M.take (j + 1)) a c = readL (M.take j) a c ++ [⟨o, ⟨rk, key, tb, val⟩⟩]) := Lib.hid (X1.out h3 h4)
          clear X1 X2
          go_wp2_with (at_builtin; refine wpList_append_own _ rfl _ _ 36 (by rfl) w3.heap.size 43 i0 _ 5 56 Try.underlying36 hi0 hz0 hz1 hz2 rfl (by omega) _ q _ (by rfl) (hown.out.alloc _) ⟨wr.heap.size, 0, none⟩ 1 1 [.int .i64 o, .bool rk, .string key, .bool tb, .string val] (by rfl) (by rfl) (World.news_of_block (cs := #[.int .i64 o, .bool rk, .string key, .bool tb, .string val]) (t := 43) (fr := (0, 0)) (heap_alloc_new wr _)) (by simp [Value.oneCell']) (by unfold maxLen; omega) (by omega) (by simp; exact Nat.le_succ_of_le hbel.size) ?_; intro v1 w4 hown1 hgrow1 hnil1)
          obtain ⟨A2, c2', rfl⟩ := own_form hown1
          go_roundw
          case rel =>
            refine ⟨j + 1, q + 1, A2, c2', by omega, by omega, by go_num, rfl, Lib.hid ?_, Lib.hid ?_, (hbel.alloc hbel.size _).grown hgrow1 (by simp; exact Nat.le_succ_of_le hbel.size) (fun j e => (hown.out.lt j e).1)⟩
            · rw [HNX.out, List.length_append, hQ.out]; rfl
            · rw [HNX.out, rowF_app]; exact hown1
          case measure => simp [intOf]; omega
        · have HNX : Hid (readL (M.take (j + 1)) a c = readL (M.take j) a c) := Lib.hid (X2.out (.inr (by omega)))
          clear X1 X2
          go_wp2_with fail
          go_roundw
          case rel => exact ⟨j + 1, q, A1, c1, by omega, by omega, by go_num, rfl, Lib.hid (by rw [HNX.out]; exact hQ.out), Lib.hid (by rw [HNX.out]; exact hown.out), hbel⟩
          case measure => simp [intOf]; omega
      · have HNX : Hid (readL (M.take (j + 1)) a c = readL (M.take j) a c) := Lib.hid (X2.out (.inl (by show o < a; omega)))
        clear X1 X2
        go_wp2_with fail
        go_roundw
        case rel => exact ⟨j + 1, q, A1, c1, by omega, by omega, by go_num, rfl, Lib.hid (by rw [HNX.out]; exact hQ.out), Lib.hid (by rw [HNX.out]; exact hown.out), hbel⟩
        case measure => simp [intOf]; omega
    · obtain rfl : j = m := by omega
      have e : M.take j = M := List.take_of_length_le (by rw [HL.out]; omega)
      have hm' := hQ.out
      have ho := hown.out
      rw [e, HXM.out] at hm' ho
      obtain rfl : q = xm := by rw [← hm', HXN.out]
      have HO := Lib.hid (own_low ho HB3.out.size)
      clear hm' ho e
      go_wp2_with fail
      go_ret2
      exact ⟨A1, c1, rfl, HO.out, acc HB3.out hbel⟩
end

/-! ### later -/
def laterB (M : List L4.Fd) (o : Int) (key : ByteArray) : Bool := M.any fun f => decide (o < f.o) && (f.r.hk && decide (f.r.key = key))
theorem later_next {M : List L4.Fd} {o : Int} {key : ByteArray} {j : Nat} {f : L4.Fd} (h : M[j]? = some f) (h0 : laterB (M.take j) o key = false) : (o < f.o → f.r.hk = true → f.r.key = key → laterB M o key = true) ∧ ((¬ o < f.o ∨ f.r.hk = false ∨ f.r.key ≠ key) → laterB (M.take (j + 1)) o key = false) := by
  refine ⟨fun h1 h2 h3 => List.any_eq_true.2 ⟨f, List.mem_of_getElem? h, by simp [h1, h2, h3]⟩, fun hd => ?_⟩
  unfold laterB at h0 ⊢
  rw [List.take_add_one, h, List.any_append, h0]
  rcases hd with hd | hd | hd <;> simp [hd]
set_option maxRecDepth 100000 in
set_option maxHeartbeats 4000000 in
theorem rlater_is {w : World} {base : Nat} (A : Option Addr) (M : List L4.Fd) (m c : Nat) (o : Int) (key : ByteArray) (v : Bool) (HO : Hid (w.ownsRow base 43 5 (.slice A m c) m (rowF M))) (hm : M.length = m) (hm1 : m ≤ 64000) (HV : Hid (laterB M o key = v)) :
    Calls Try.prog 43 #[.slice A m c, .int .i64 o, .string key] w fun e w' => e = .returned (.bool v) ∧ Below w.heap.size w w' := by
  have HL := Lib.hid hm
  clear hm
  go_enter Try.func43, Try.ntmps43
  go_wp2_with fail
  go_loopw [7] (fun i wr => ∃ j : Nat, j ≤ m ∧ i = .int .i64 j ∧ Hid (laterB (M.take j) o key = false) ∧ Below w.heap.size w wr) (fun i _ => m - (intOf i).toNat)
  case atStart => exact ⟨0, by omega, rfl, Lib.hid rfl, Below.refl _ _⟩
  case round =>
    obtain ⟨j, hj, rfl, hB, hbel⟩ := hrel
    by_cases hlt : j < m
    · obtain ⟨xb, xc, hv, _, hxb⟩ := HO.out.form (by omega)
      injection hv with e1 _ e3
      subst e1 e3
      obtain ⟨⟨fo, ⟨rk, fkey, tb, val⟩⟩, hf⟩ : ∃ s, M[j]? = some s := ⟨_, List.getElem?_eq_getElem (by rw [HL.out]; exact hlt)⟩
      obtain ⟨d0, d1, d2, d3, d4⟩ := own_cells (own_below HO.out hbel) hf
      have hmc := own_cap HO.out
      obtain ⟨x1, x2⟩ := later_next hf hB.out
      have X1 := Lib.hid x1
      have X2 := Lib.hid x2
      have k0 : (0 : Int) ≤ (j : Int) := by omega
      have k1 : (j : Int) < (m : Int) := by omega
      clear hf x1 x2
      dsimp only at d0 d1 d2 d3 d4
      by_cases h1 : o < fo
      · cases rk with
        | false =>
          have HNX := Lib.hid (X2.out (.inr (.inl rfl)))
          clear X1 X2
          go_wp2_with fail
          go_roundw
          case rel => exact ⟨j + 1, by omega, by go_num, HNX, hbel⟩
          case measure => simp [intOf]; omega
        | true =>
          by_cases h3 : fkey = key
          · subst h3
            have HT : Hid (v = true) := Lib.hid (by rw [← HV.out]; exact X1.out h1 rfl rfl)
            clear X1 X2
            go_wp2_with fail
            go_ret
            exact ⟨congrArg (fun b : Bool => Ending.returned (.bool b)) HT.out.symm, hbel⟩
          · have HNX := Lib.hid (X2.out (.inr (.inr h3)))
            have hne : (fkey.toList == key.toList) = false := bytes_off h3
            clear X1 X2 h3
            go_wp2_with fail
            go_roundw
            case rel => exact ⟨j + 1, by omega, by go_num, HNX, hbel⟩
            case measure => simp [intOf]; omega
      · have HNX := Lib.hid (X2.out (.inl h1))
        clear X1 X2
        go_wp2_with fail
        go_roundw
        case rel => exact ⟨j + 1, by omega, by go_num, HNX, hbel⟩
        case measure => simp [intOf]; omega
    · obtain rfl : j = m := by omega
      have HE : Hid (v = false) := Lib.hid (by rw [← HV.out]; have := hB.out; rwa [List.take_of_length_le (by rw [HL.out]; omega)] at this)
      go_wp2_with fail
      go_ret
      exact ⟨congrArg (fun b : Bool => Ending.returned (.bool b)) HE.out.symm, hbel⟩
end Go.Proofs.Ytflcggpeflagiaa.L6
/-
  The document's log: segments ahead go.
-/
namespace Go.Proofs.Ytflcggpeflagiaa.L6
open Go.RowKit
open L3 L4 L5

/-- records that were there, or new ones -/
def NewRec (W W1 : World) (Q' : Option Addr) (ss : List Sa) (r : Sa) : Prop :=
  r ∈ ss ∨ (W1.ownsRow 0 43 5 (.slice r.A r.L.length r.c) r.L.length (rowF r.L) ∧ ∀ j, blk r.A = some j → W.heap.size ≤ j ∧ blk Q' ≠ some j)
section
variable {W W1 : World} {room k cap : Nat} {Q Q' : Option Addr} {ss ss' : List Sa}
theorem RLog.kLt (h : RLog W room k Q cap ss) : k < W.heap.size := h.lt k (mem_rblocks.2 (.inl rfl))
theorem mem_blk {j : Nat} : j ∈ (blk Q).toList ↔ blk Q = some j := by simp [Option.mem_toList]
theorem RLog.recNew (h : RLog W room k Q cap ss) (o : Only (blk Q).toList W W1) (hat : ∀ j, blk Q' = some j → blk Q = some j ∨ W.heap.size ≤ j) (hr : ∀ r ∈ ss', NewRec W W1 Q' ss r) : ∀ r ∈ ss', Rec W1 k Q' r := fun r hm => by
  rcases hr r hm with q | ⟨q1, q2⟩
  · obtain ⟨p1, p2, p3⟩ := h.recs r q
    refine ⟨o.own p1 (fun j e => ?_), p2, fun j e => ?_⟩
    · rw [ownBlock_blk] at e
      intro hj
      exact p3 j (mem_blk.1 hj) e
    · rcases hat j e with e' | e'
      · exact p3 j e'
      · intro e2
        have := (own_blkLt p1 j e2).2
        omega
  · refine ⟨q1, fun e => ?_, fun j e e2 => (q2 j e2).2 e⟩
    have := (q2 k e).1
    have := h.kLt
    omega
theorem RLog.newBlocks (h : RLog W room k Q cap ss) (hat : ∀ j, blk Q' = some j → blk Q = some j ∨ W.heap.size ≤ j) (hr : ∀ r ∈ ss', NewRec W W1 Q' ss r) : New (rblocks k Q ss) W (rblocks k Q' ss') := fun j hj => by
  rcases mem_rblocks.1 hj with rfl | e | ⟨r, hm, e⟩
  · exact .inl (mem_rblocks.2 (.inl rfl))
  · rcases hat j e with e' | e'
    · exact .inl (mem_rblocks.2 (.inr (.inl e')))
    · exact .inr e'
  · rcases hr r hm with q | ⟨_, q2⟩
    · exact .inl (mem_rblocks.2 (.inr (.inr ⟨r, q, e⟩)))
    · exact .inr (q2 j e).1
/-- another row of segments, put into its own row -/
theorem RLog.put {m cap' : Nat} (h : RLog W room k Q cap ss) (o : Only (blk Q).toList W W1) (hm : ss'.length = m) (ho : W1.ownsRow 0 53 3 (.slice Q' m cap') m (rowS ss')) (hat : ∀ j, blk Q' = some j → blk Q = some j ∨ W.heap.size ≤ j) (hr : ∀ r ∈ ss', NewRec W W1 Q' ss r) :
    RLog (W1.setCell ⟨k, 1, none⟩ (.slice Q' m cap')) room k Q' cap' ss' ∧ Only (rblocks k Q ss) W (W1.setCell ⟨k, 1, none⟩ (.slice Q' m cap')) ∧ New (rblocks k Q ss) W (rblocks k Q' ss') := by
  subst hm
  have hk := h.kLt
  have hkQ : k ∉ (blk Q).toList := fun e => h.ne (mem_blk.1 e)
  refine ⟨h.setQ (o.block k hk hkQ) ho (fun e => ?_) (h.recNew o hat hr), Only.setCell (p := ⟨k, 1, none⟩) (o.mono (fun j hj => .inl (mem_rblocks.2 (.inr (.inl (mem_blk.1 hj)))))) (.inl (mem_rblocks.2 (.inl rfl))) _, h.newBlocks hat hr⟩
  rcases hat k e with e' | e'
  · exact h.ne e'
  · omega
/-- cells of its row of segments were set -/
theorem RLog.rowed {cap' : Nat} (h : RLog W room k Q cap ss) (o : Only (blk Q).toList W W1) (hl : ss'.length = ss.length) (hc : cap' = cap) (ho : W1.ownsRow 0 53 3 (.slice Q ss.length cap) ss.length (rowS ss')) (hr : ∀ r ∈ ss', NewRec W W1 Q ss r) :
    RLog W1 room k Q cap' ss' ∧ Only (rblocks k Q ss) W W1 ∧ New (rblocks k Q ss) W (rblocks k Q ss') := by
  subst hc
  have hkQ : k ∉ (blk Q).toList := fun e => h.ne (mem_blk.1 e)
  refine ⟨⟨?_, ?_, h.ne, h.recNew o (fun j e => .inl e) hr⟩, o.mono (fun j hj => .inl (mem_rblocks.2 (.inr (.inl (mem_blk.1 hj))))), h.newBlocks (fun j e => .inl e) hr⟩
  · rw [hl]; exact (o.block k h.kLt hkQ).trans h.row
  · rw [hl]; exact ho
theorem only_below {S : List Nat} {w w' : World} (b : Below w.heap.size w w') : Only S w w' := Only.ofBelow b
end

/-! ### Retain -/
theorem retain_step {l : List Sg} {s : Sg} {a : Int} (h : l[0]? = some s) : (1 < l.length → s.n ≤ a → retainN l a = retainN (l.drop 1) a + 1) ∧ ((¬ 1 < l.length ∨ ¬ s.n ≤ a) → retainN l a = 0) := by
  cases l with
  | nil => simp at h
  | cons b t =>
    have e : b = s := by simpa using h
    subst e
    have hu : ended (b :: t) a = if b.n ≤ a then ended t a + 1 else 0 := rfl
    refine ⟨fun h1 h2 => ?_, fun hd => ?_⟩
    · simp only [List.length_cons] at h1
      show min (ended (b :: t) a) ((b :: t).length - 1) = min (ended t a) (t.length - 1) + 1
      rw [hu, if_pos h2, List.length_cons]
      omega
    · show min (ended (b :: t) a) ((b :: t).length - 1) = 0
      rw [hu]
      rcases hd with hd | hd
      · simp only [List.length_cons] at hd ⊢; omega
      · rw [if_neg hd]; omega
theorem rowS_drop (l : List Sa) (j : Nat) : rowS (l.drop j) = (rowS l).drop (j * 3) := by
  induction l generalizing j with
  | nil => simp [rowS]
  | cons a t ih =>
    cases j with
    | zero => simp
    | succ j =>
      rw [List.drop_succ_cons, ih, show (j + 1) * 3 = j * 3 + 1 + 1 + 1 by omega]
      rfl
theorem rowS_one (l : List Sa) : ∀ u ∈ rowS l, u.oneCell' = true := fun u hu => by
  obtain ⟨r, _, h⟩ := List.mem_flatMap.1 hu
  simp only [List.mem_cons, List.not_mem_nil, or_false] at h
  rcases h with rfl | rfl | rfl <;> rfl
theorem news_drop {W : World} {b n c : Nat} {T : TypeId} {l : List Sa} (h : W.ownsRow 0 T 3 (.slice (some ⟨b, 0, none⟩) n c) n (rowS l)) : ∀ j u, (rowS (l.drop 1))[j]? = some u → W.cell? ((⟨b, 3, none⟩ : Addr).add j) = some u := fun j u hu => by
  rw [rowS_drop, List.getElem?_drop] at hu
  have := h.cells (g := b) rfl _ _ hu
  rw [Addr.add_lit] at this ⊢
  simpa [Nat.add_comm] using this
structure RetI (W wr : World) (room k : Nat) (D : List Nat) (Q' : Option Addr) (cap' : Nat) (ss' : List Sa) : Prop where
  log : RLog wr room k Q' cap' ss'
  only : Only D W wr
  new : New D W (rblocks k Q' ss')
theorem RetI.next {W wr w1 : World} {room k cap' m c g : Nat} {D : List Nat} {Q' : Option Addr} {ss' : List Sa} (h : RetI W wr room k D Q' cap' ss') (hm : (ss'.drop 1).length = m) (ho : w1.ownsRow wr.heap.size 53 3 (.slice (some ⟨g, 0, none⟩) m c) m (rowS (ss'.drop 1))) (hb : Below wr.heap.size wr w1) :
    RetI W (w1.setCell ⟨k, 1, none⟩ (.slice (some ⟨g, 0, none⟩) m c)) room k D (some ⟨g, 0, none⟩) c (ss'.drop 1) := by
  obtain ⟨q1, q2, q3⟩ := h.log.put (only_below hb) hm (own_low ho (Nat.zero_le _)) (fun j e => .inr (own_blkLt ho j e).1) (fun r hr => .inl (List.mem_of_mem_drop hr))
  refine ⟨q1, h.only.trans q2 (fun j hj => h.new j hj), fun j hj => ?_⟩
  rcases q3 j hj with e | e
  · exact h.new j e
  · exact .inr (Nat.le_trans h.only.size e)

set_option maxRecDepth 100000 in
set_option maxHeartbeats 4000000 in
theorem rretain6_is {W : World} {room k cap : Nat} {Q : Option Addr} {ss : List Sa} (a : Int) (N d : Nat) (h : Hid (RLog W room k Q cap ss)) (hN : ss.length = N) (hN1 : N ≤ 1000) (h0 : 0 < N) (hd : Hid (retainN (ss.map Sa.s) a = d)) :
    Calls Try.prog 14 #[.pointer (some ⟨k, 0, none⟩), .int .i64 a] W fun e W' => e = .returned (.int .i64 d) ∧ RStep W room k (rblocks k Q ss) ((ss.map Sa.s).drop d) W' := by
  obtain ⟨i0, hi0, hz0, hz1, hz2⟩ := info_parts segInfo
  obtain ⟨D, hD⟩ : ∃ D, rblocks k Q ss = D := ⟨_, rfl⟩
  rw [hD]
  have HI : Hid (RetI W W room k D Q cap ss) := Lib.hid ⟨h.out, Only.refl _ _, fun j hj => .inl (by rw [← hD]; exact hj)⟩
  have HN := Lib.hid hN
  clear hN hD
  go_enter Try.func14, Try.ntmps14
  go_wp2_with fail
  go_loopw [5] (fun i wr => ∃ (t n : Nat) (Q' : Option Addr) (cap' : Nat) (ss' : List Sa), t < N ∧ t + n = N ∧ i = .int .i64 t ∧ Hid (ss.drop t = ss') ∧ Hid (ss'.length = n) ∧ Hid (d = t + retainN (ss'.map Sa.s) a) ∧ Hid (RetI W wr room k D Q' cap' ss')) (fun i _ => N - (intOf i).toNat)
  case atStart => exact ⟨0, N, Q, cap, ss, h0, by omega, rfl, Lib.hid rfl, HN, Lib.hid (by rw [hd.out]; omega), HI⟩
  case round =>
    obtain ⟨t, n, Q', cap', ss', ht, htn, rfl, HS, HL, HD, HR⟩ := hrel
    have c1 := HR.out.log.c1
    rw [HL.out] at c1
    have c1f := HR.out.log.froz 1
    obtain ⟨s, hs⟩ : ∃ s, ss'[0]? = some s := ⟨_, List.getElem?_eq_getElem (by rw [HL.out]; omega)⟩
    obtain ⟨st1, st2⟩ := retain_step (l := ss'.map Sa.s) (s := s.s) (a := a) (by rw [List.getElem?_map, hs]; rfl)
    rw [List.length_map, HL.out] at st1 st2
    obtain ⟨qb, rfl, hqb, hnc, hcells⟩ := HR.out.log.form (by rw [HL.out]; omega)
    rw [HL.out] at hnc
    have d1 := (hcells 0 s hs).2.1
    simp only [Nat.zero_mul, Nat.zero_add] at d1
    obtain ⟨sn, hsn⟩ : ∃ sn, s.n = sn := ⟨_, rfl⟩
    have hsn' : s.s.n = sn := hsn
    rw [hsn] at d1
    rw [hsn'] at st1 st2
    have ST1 := Lib.hid st1
    have ST2 := Lib.hid st2
    clear hcells hs st1 st2 hsn hsn'
    have n0 : (0 : Int) < (n : Int) := by omega
    by_cases hlt : 1 < n ∧ sn ≤ a
    · obtain ⟨h1, h2⟩ := hlt
      have n1 : (1 : Int) < (n : Int) := by omega
      have n2 : 1 < n := h1
      have HC1 := Lib.hid c1
      have hkw := HR.out.log.kLt
      have hc2 : 1 < cap' := by omega
      have hml : (ss'.drop 1).length = n - 1 := by rw [List.length_drop, HL.out]
      have HML := Lib.hid hml
      have HOW := Lib.hid HR.out.log.own
      rw [HL.out] at HOW
      have HNW := Lib.hid (news_drop HOW.out)
      have HEMP : Hid ((wr.alloc (.cells #[] 53)).ownsRow wr.heap.size 53 3 (.slice (some ⟨wr.heap.size, 0, none⟩) 0 0) 0 []) := Lib.hid (World.ownsRow_made wr #[] 0 (Nat.le_refl _) (by unfold maxLen; omega) rfl)
      have HRL : Hid ((rowS (ss'.drop 1)).length = (n - 1) * 3) := Lib.hid (by rw [rowS_len, hml])
      have HD1 : Hid (d = (t + 1) + retainN ((ss'.drop 1).map Sa.s) a) := Lib.hid (by rw [HD.out, ST1.out h1 h2, List.map_drop]; omega)
      have HS1 : Hid (ss.drop (t + 1) = ss'.drop 1) := Lib.hid (by rw [← HS.out, List.drop_drop])
      have n1000 : n ≤ 1000 := by omega
      clear hml ST1 ST2
      go_wp2_with (at_builtin; refine wpList_append_lies _ rfl _ _ 51 (by rfl) wr.heap.size 53 i0 _ 3 40 Try.underlying51 hi0 hz0 hz1 hz2 rfl (by omega) _ 0 [] (by rfl) HEMP.out ⟨qb, 3, none⟩ _ _ (rowS (ss'.drop 1)) (by rfl) HRL.out (fun j u hu => ((one_box _).cell (p := (⟨qb, 3, none⟩ : Addr).add j) (by rw [Addr.add_lit]; exact hqb)).trans (HNW.out j u hu)) (rowS_one _) (by omega) (by unfold maxLen; omega) (by omega) (by simp) _ rfl ?_; intro g2 c2 w1 hown1 hgrow1 hat1 hlt1; have hb1 : Below wr.heap.size wr w1 := ((one_box _).grown hgrow1 (by simp) (fun j e => by cases e; exact Nat.le_refl _)); rw [Nat.zero_add, List.nil_append] at hown1; have x1 := (hb1.cell (p := ⟨k, 1, none⟩) hkw).trans HC1.out; have y1 : w1.frozen? ⟨k, 1, none⟩ = false := frozen_of_row _ _ _ _ _ ((hb1.block k hkw).trans HR.out.log.row); have HRN := Lib.hid (HR.out.next HML.out hown1 hb1); clear hgrow1 hat1 hlt1 hown1)
      go_roundw
      case rel => exact ⟨t + 1, n - 1, some ⟨g2, 0, none⟩, c2, ss'.drop 1, by omega, by omega, by go_num, HS1, HML, HD1, HRN⟩
      case measure => simp [intOf]; omega
    · have HE : Hid (retainN (ss'.map Sa.s) a = 0) := Lib.hid (ST2.out (by rcases Nat.lt_or_ge 1 n with q | q; exact .inr (fun e => hlt ⟨q, e⟩); exact .inl (by omega)))
      have HDT : Hid (d = t) := Lib.hid (by have := HD.out; rw [HE.out] at this; omega)
      by_cases hn1 : 1 < n
      · have hsa : a < sn := by
          rcases Int.lt_or_le a sn with q | q
          · exact q
          · exact absurd ⟨hn1, q⟩ hlt
        have n1 : (1 : Int) < (n : Int) := by omega
        clear ST1 ST2 hlt
        go_wp2_with fail
        go_ret
        obtain rfl := HDT.out
        exact ⟨rfl, _, _, ss', by rw [← HS.out, List.map_drop], HR.out.log, HR.out.only, HR.out.new⟩
      · have n1 : ¬ (1 : Int) < (n : Int) := by omega
        clear ST1 ST2 hlt
        go_wp2_with fail
        go_ret
        obtain rfl := HDT.out
        exact ⟨rfl, _, _, ss', by rw [← HS.out, List.map_drop], HR.out.log, HR.out.only, HR.out.new⟩
end Go.Proofs.Ytflcggpeflagiaa.L6
