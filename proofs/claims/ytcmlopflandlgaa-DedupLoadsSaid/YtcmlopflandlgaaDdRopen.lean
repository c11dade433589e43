/-
  The document's Open.
-/
import Derived.Test.YtcmlopflandlgaaDdRask
namespace Go.Proofs.Ytcmlopflandlgaa.L8
open Go.RowKit
open Go.Maps
open L3 L4

section
variable {B : Nat} {w w' : World} {k cE cL : Nat} {AE AL : Option Addr} {es : List Int} {vs : List MV}
/-- behind a call that turns the document's table -/
def RTurned (w : World) (B k : Nat) (AE AL : Option Addr) (es : List Int) (ms : List Mk) (w' : World) : Prop :=
  ∃ AE' cE' AL' cL' vs', RT B w' k AE' cE' AL' cL' es vs' ∧ vs'.map (·.m) = ms ∧ Only (k :: bk AE) w w' ∧ (∀ j ∈ bk AE', j ∈ bk AE ∨ w.heap.size ≤ j) ∧ (∀ j ∈ bk AL', j ∈ bk AL ∨ w.heap.size ≤ j)
theorem RTurned.same (h : RT B w k AE cE AL cL es vs) (b : Below w.heap.size w w') : RTurned w B k AE AL es (vs.map (·.m)) w' := ⟨AE, cE, AL, cL, vs, h.below b, rfl, Only.ofBelow b, fun _ q => .inl q, fun _ q => .inl q⟩
theorem RT.ltE (h : RT B w k AE cE AL cL es vs) : ∀ j ∈ bk AE, j < w.heap.size := fun j hj => by
  obtain ⟨_, _, hb⟩ := own_bk h.eown j hj
  exact (Array.getElem?_eq_some_iff.1 hb).1
theorem RT.ltL (h : RT B w k AE cE AL cL es vs) : ∀ j ∈ bk AL, j < w.heap.size := fun j hj => by
  obtain ⟨_, _, hb⟩ := own_bk h.lown j hj
  exact (Array.getElem?_eq_some_iff.1 hb).1
/-- the epochs are a longer row, and the table's own row tells so -/
theorem RT.grownE (h : RT B w k AE cE AL cL es vs) {w1 : World} {kb c' n' : Nat} {es' : List Int} (hw : Only (bk AE) w w1) (hown : w1.ownsRow B 3 1 (.slice (some ⟨kb, 0, none⟩) n' c') n' (rowN es')) (hn : n' = es'.length) (hk : kb ∈ bk AE ∨ w.heap.size ≤ kb) :
    RT B (w1.setCell ⟨k, 0, none⟩ (.slice (some ⟨kb, 0, none⟩) n' c')) k (some ⟨kb, 0, none⟩) c' AL cL es' vs ∧ Only (k :: bk AE) w (w1.setCell ⟨k, 0, none⟩ (.slice (some ⟨kb, 0, none⟩) n' c')) := by
  subst hn
  have hg : w1.heap[k]? = w.heap[k]? := hw.block k h.lt h.kE
  have kg : kb ≠ k := fun e => by
    rcases hk with q | q
    · exact h.kE (e ▸ q)
    · have := h.lt; omega
  have ow : Only (k :: bk AE) w w1 := hw.mono (fun j hj => .inl (by simp [hj]))
  have hd : ∀ (q : Nat) (cs : Array Value) (fr : Nat × Nat), w.heap[q]? = some (.cells cs 50 fr) → (w1.setCell ⟨k, 0, none⟩ (.slice (some ⟨kb, 0, none⟩) es'.length c')).heap[q]? = w.heap[q]? := fun q cs fr hq => by
    have j1 := did_ne hq _ h.noDid (j := k) (by simp)
    refine (Below.heap_setCell _ _ _ _ j1).trans (hw.block q (Array.getElem?_eq_some_iff.1 hq).1 (fun e => ?_))
    exact did_ne hq _ h.noDid (j := q) (by simp [e]) rfl
  refine ⟨⟨heap_setCell_same _ _ 0 _ _ _ (hg.trans h.row), own_at hown (fun j e => ?_), own_at h.lown (fun j e => ?_), fun v hv => ⟨(h.rows v hv).1.kept hd, (h.rows v hv).2⟩⟩, ow.setCell (.inl (by simp)) _⟩
  · have e' : kb = j := by simpa [Value.ownBlock] using e
    subst e'
    exact Below.heap_setCell _ _ _ _ kg
  · have hj : j ∈ bk AL := mem_bk.2 (by rw [blk_own] at e; exact e)
    exact (Below.heap_setCell _ _ _ _ (fun e => h.kL (by rw [← show j = k from e]; exact hj))).trans (hw.block j (h.ltL j hj) (fun e => h.EL j e hj))
/-- one of the epochs is another one -/
theorem RT.setE {kb : Nat} (h : RT B w k (some ⟨kb, 0, none⟩) cE AL cL es vs) (i : Nat) (x : Int) : RT B (w.setCell ⟨kb, i, none⟩ (.int .i64 x)) k (some ⟨kb, 0, none⟩) cE AL cL (es.set i x) vs ∧ Only (k :: bk (some ⟨kb, 0, none⟩)) w (w.setCell ⟨kb, i, none⟩ (.int .i64 x)) := by
  have kg : k ≠ kb := fun e => h.kE (by simp [bk, e])
  have hl : (es.set i x).length = es.length := by simp
  refine ⟨⟨by rw [hl]; exact (Below.heap_setCell _ _ _ _ kg).trans h.row, by rw [hl]; exact own_set h.eown, own_at h.lown (fun j e => Below.heap_setCell _ _ _ _ (fun e' => ?_)), fun v hv => ⟨(h.rows v hv).1.kept (fun q cs fr hq => Below.heap_setCell _ _ _ _ (did_ne hq _ h.noDid (j := kb) (by simp [bk]))), (h.rows v hv).2⟩⟩, (Only.refl _ _).setCell (.inl (by simp [bk])) _⟩
  have hj : j ∈ bk AL := mem_bk.2 (by rw [blk_own] at e; exact e)
  exact h.EL kb (by simp [bk]) (by rw [← show j = kb from e']; exact hj)
/-- another list is stored -/
theorem RT.storeL (h : RT B w k AE cE AL cL es vs) {w4 : World} {A' : Option Addr} {n c : Nat} {vs' : List MV} (hB : B ≤ w.heap.size) (hb : Below w.heap.size w w4) (ho : w4.ownsRow w.heap.size 48 5 (.slice A' n c) n (rowM vs')) (hn : vs'.length = n) (hr : RowsIn w4 vs') :
    RT B (w4.setCell ⟨k, 1, none⟩ (.slice A' n c)) k AE cE A' c es vs' ∧ Only [k] w (w4.setCell ⟨k, 1, none⟩ (.slice A' n c)) ∧ ∀ j ∈ bk A', w.heap.size ≤ j := by
  subst hn
  have h4 := h.below hb
  have far : ∀ j, j ≠ k → (w4.setCell ⟨k, 1, none⟩ (.slice A' vs'.length c)).heap[j]? = w4.heap[j]? := fun j hj => Below.heap_setCell _ _ _ _ hj
  refine ⟨⟨heap_setCell_same _ _ 1 _ _ _ h4.row, own_at h4.eown (fun j e => far j (fun q => ?_)), own_at (own_base ho hB) (fun j e => far j (fun q => ?_)), fun v hv => ⟨(hr v hv).1.kept (fun q cs fr hq => far q (did_ne hq _ h4.noDid (j := k) (by simp))), (hr v hv).2⟩⟩, (Only.ofBelow hb).setCell (.inl (by simp)) _, fun j hj => ?_⟩
  · subst q
    exact h.kE (mem_bk.2 (by rw [blk_own] at e; exact e))
  · subst q
    obtain ⟨cs, hge, _⟩ := own_bk ho j (mem_bk.2 (by rw [blk_own] at e; exact e))
    have := h.lt
    omega
  · obtain ⟨cs, hge, _⟩ := own_bk ho j hj
    exact hge
end
/-- what stays of the list -/
def kept (id : Int) (vs : List MV) : List MV := vs.filter (fun v => decide (v.m.id ≠ id))
theorem kept_map (id : Int) (vs : List MV) : (kept id vs).map (·.m) = (vs.map (·.m)).filter (fun m => decide (m.id ≠ id)) := by
  unfold kept
  rw [List.filter_map]; rfl
theorem kept_next {id : Int} {vs : List MV} {j : Nat} {v : MV} (h : vs[j]? = some v) : kept id (vs.take (j + 1)) = kept id (vs.take j) ++ if v.m.id = id then [] else [v] := by
  unfold kept
  rw [List.take_add_one, h, List.filter_append]
  congr 1
  by_cases q : v.m.id = id <;> simp [q]
theorem kept_len (id : Int) (vs : List MV) (j : Nat) : (kept id (vs.take j)).length ≤ j := Nat.le_trans (List.length_filter_le _ _) (by rw [List.length_take]; omega)
theorem rows_kept {w : World} {id : Int} {vs : List MV} (h : RowsIn w vs) : RowsIn w (kept id vs) := fun v hv => h v (List.mem_filter.1 hv).1
/-- while the list is gone over -/
structure ROpen (W : World) (vs : List MV) (id : Int) (j n c : Nat) (A : Option Addr) (wr : World) : Prop where
  own : wr.ownsRow W.heap.size 48 5 (.slice A n c) n (rowM (kept id (vs.take j)))
  len : (kept id (vs.take j)).length = n
  bel : Below W.heap.size W wr
set_option maxRecDepth 100000 in
set_option maxHeartbeats 4000000 in
theorem ropen_up {B : Nat} {w : World} {k cE cL kb m : Nat} {AL : Option Addr} {es : List Int} {vs : List MV} (id y : Int) (j n : Nat) (h : Hid (RT B w k (some ⟨kb, 0, none⟩) cE AL cL es vs)) (HB : Hid (B ≤ w.heap.size)) (hm : Hid (vs.length = m)) (hml : m ≤ 100000) (hn : Hid (es.length = n)) (hl : n ≤ 32) (hj : Hid (id = (j : Int) + 1)) (hjn : j < n) (hc : w.cell? ⟨kb, j, none⟩ = some (.int .i64 y)) (hf : w.frozen? ⟨kb, j, none⟩ = false) (hy0 : 0 ≤ y) (hy : y < 1099511627776) :
    Calls Try.prog 10 #[.pointer (some ⟨k, 0, none⟩), .int .i64 id] w fun e w' => e = .returned (.tuple #[.int .i64 id, .int .i64 (y + 1), .int .i64 0]) ∧ RTurned w B k (some ⟨kb, 0, none⟩) AL (es.set j (y + 1)) ((vs.map (·.m)).filter (fun m => decide (m.id ≠ id))) w' := by
  obtain ⟨i0, hi0, hz0, hz1, hz2⟩ := info_parts makerInfo
  have HV : Hid (decide (1 ≤ id ∧ id ≤ es.length) = true) := Lib.hid (by rw [hn.out]; simp; have := hj.out; omega)
  have c0 := h.out.c0
  rw [hn.out] at c0
  have d0 : (id == 0) = false := by simpa using (by have := hj.out; omega : id ≠ 0)
  have e1 : wrap64 (id - 1) = (j : Int) := by have := hj.out; simp only [wrap64]; omega
  have e2 : id - 1 = (j : Int) := by have := hj.out; omega
  have j0 : (0 : Int) ≤ (j : Int) := by omega
  have j1 : (j : Int) < (n : Int) := by omega
  have y0 : (y == 1099511627776) = false := by simpa using (by omega : y ≠ 1099511627776)
  have y1 : wrap64 (y + 1) = y + 1 := by simp only [wrap64]; omega
  have y2 : IntKind.i64.wrap (y + 1) = y + 1 := IntWalk.i64_in _ (by omega)
  have e3 : IntKind.i64.wrap (id - 1) = (j : Int) := by rw [e2]; exact IntWalk.i64_in _ (by omega)
  go_enter Try.func10, Try.ntmps10
  go_upto_region 10 with (go_at_call 28; refine (ris_is id true h HV).mono ?_; rintro e w' ⟨rfl, hw'⟩; obtain rfl := hw'.symm)
  go_region
  obtain ⟨W0, hW0⟩ : ∃ W0, w.setCell ⟨kb, j, none⟩ (.int .i64 (y + 1)) = W0 := ⟨_, rfl⟩
  obtain ⟨hT, hO⟩ := h.out.setE j (y + 1)
  rw [hW0] at hT hO ⊢
  obtain ⟨W1, hW1⟩ : ∃ W1, W0.drew = W1 := ⟨_, rfl⟩
  have hb1 : Below W0.heap.size W0 W1 := by rw [← hW1]; exact drewB _
  rw [hW1]
  have HT := Lib.hid (hT.below hb1)
  have HO := Lib.hid (hO.trans (S' := []) (Only.ofBelow hb1) (fun q hq => by cases hq))
  have HSZ : Hid (w.heap.size ≤ W1.heap.size) := Lib.hid HO.out.size
  have lk := HT.out.lt
  have hjs : (es.set j (y + 1))[j]? = some (y + 1) := by rw [List.getElem?_set_self (by rw [hn.out]; exact hjn)]
  obtain ⟨_, hke, _, _, _, ce, _⟩ := own_num HT.out.eown hjs
  injection hke with hke; injection hke with hke; subst hke
  have CE := Lib.hid ce
  clear c0 hc hf hW0 hT hO hW1 hb1 d0 y0 y1 y2 ce hjs
  go_wp2_with fail
  go_loopw [7, 8] (fun s i wr => ∃ (q c nn : Nat) (A : Option Addr), q ≤ m ∧ nn ≤ q ∧ i = .int .i64 q ∧ s = .slice A nn c ∧ Hid (ROpen W1 vs id q nn c A wr)) (fun _ i _ => m - (intOf i).toNat)
  case atStart => exact ⟨0, 0, 0, _, by omega, by omega, rfl, rfl, Lib.hid ⟨by simpa [kept, rowM] using World.ownsRow_made (size := 5) W1 #[] 0 (Nat.le_refl _) (by unfold maxLen; omega) rfl, rfl, one_box' _⟩⟩
  case round =>
    obtain ⟨q, c, nn, A, hq, hnq, rfl, rfl, HR⟩ := hrel
    have HBR := Lib.hid HR.out.bel
    have HRW := Lib.hid HR.out.own
    have c1 := cell_at HBR.out HT.out.c1
    have f1 := (HBR.out.frozen (p := ⟨k, 1, none⟩) lk).trans (HT.out.froz 1)
    rw [hm.out] at c1
    by_cases hlt : q < m
    · obtain ⟨gl, ol, rfl, hgl, hcl⟩ := HT.out.reads (by rw [hm.out]; omega)
      obtain ⟨⟨⟨xi, xe, xt, xp, xl⟩, vA, vc⟩, hv⟩ : ∃ v, vs[q]? = some v := ⟨_, List.getElem?_eq_getElem (by rw [hm.out]; omega)⟩
      obtain ⟨d0, d1, d2, d3, d4⟩ := hcl q _ hv
      dsimp only at d0 d1 d2 d3 d4
      replace d0 := cell_at HBR.out d0; replace d1 := cell_at HBR.out d1; replace d2 := cell_at HBR.out d2; replace d3 := cell_at HBR.out d3; replace d4 := cell_at HBR.out d4
      have hnx := kept_next (id := id) hv
      dsimp only at hnx
      have HNX := Lib.hid hnx
      have q0 : (0 : Int) ≤ (q : Int) := by omega
      have q1 : (q : Int) < (m : Int) := by omega
      clear hcl hv hgl hnx f1 e1 e2 e3
      by_cases hid : xi = id
      · have t1 : (xi != id) = false := by simpa using hid
        have HN2 : Hid (ROpen W1 vs id (q + 1) nn c A wr) := Lib.hid (by
          have e := HNX.out
          rw [if_pos hid, List.append_nil] at e
          exact ⟨by rw [e]; exact HR.out.own, by rw [e]; exact HR.out.len, HR.out.bel⟩)
        clear hid
        go_wp2_with fail
        go_roundw
        case rel => exact ⟨q + 1, c, nn, A, by omega, by omega, by go_num, rfl, HN2⟩
        case measure => simp [intOf]; omega
      · have t1 : (xi != id) = true := by simpa using hid
        have HK2 : Hid (kept id (vs.take (q + 1)) = kept id (vs.take q) ++ [⟨⟨xi, xe, xt, xp, xl⟩, vA, vc⟩]) := Lib.hid (by
          have e := HNX.out
          rw [if_neg hid] at e
          exact e)
        clear hid
        go_wp2_with (at_builtin; refine wpList_append_own _ rfl _ _ 27 (by rfl) W1.heap.size 48 i0 _ 5 64 Try.underlying27 hi0 hz0 hz1 hz2 rfl (by omega) (.slice A nn c) nn _ (by rfl) (HRW.out.alloc _) ⟨wr.heap.size, 0, none⟩ 1 1 [.int .i64 xi, .int .i64 xe, .string xt, .int .i64 xp, .slice vA xl.length vc] (by rfl) (by rfl) (World.news_of_block (cs := #[.int .i64 xi, .int .i64 xe, .string xt, .int .i64 xp, .slice vA xl.length vc]) (t := 48) (fr := (0, 0)) (heap_alloc_new wr _)) (by simp [Value.oneCell']) (by unfold maxLen; omega) (by omega) (by have := HBR.out.size; simp; omega) ?_; intro v4 w4 hown4 hgrow4 _; have HB4 : Hid (Below W1.heap.size W1 w4) := Lib.hid ((HBR.out.alloc HBR.out.size _).grown hgrow4 (by have := HBR.out.size; simp; omega) (fun z e => (HRW.out.lt z e).1)); obtain ⟨A4, c4, rfl⟩ := own_len hown4; have HO4 := Lib.hid hown4; clear hown4 hgrow4)
        go_roundw
        case rel => exact ⟨q + 1, c4, nn + 1, A4, by omega, by omega, by go_num, rfl, Lib.hid ⟨by rw [HK2.out, rowM_app]; exact HO4.out, by rw [HK2.out, List.length_append, HR.out.len]; rfl, HB4.out⟩⟩
        case measure => simp [intOf]; omega
    · obtain rfl : q = m := by omega
      have q1 : ¬ (q : Int) < (q : Int) := by omega
      have htk : vs.take q = vs := List.take_of_length_le (by rw [hm.out]; exact Nat.le_refl _)
      have hrw := HR.out.own
      have hln := HR.out.len
      rw [htk] at hrw hln
      obtain ⟨hS, hS1, hS2⟩ := HT.out.storeL (Nat.le_trans HB.out HSZ.out) HBR.out hrw hln (rows_kept (HT.out.rows.below HBR.out))
      have HS := Lib.hid hS
      have HS1 := Lib.hid hS1
      have HS2 := Lib.hid hS2
      obtain ⟨W4, hW4⟩ : ∃ W4, wr.setCell ⟨k, 1, none⟩ (.slice A nn c) = W4 := ⟨_, rfl⟩
      rw [hW4] at HS HS1
      have a0 := HS.out.c0
      have ce4 : W4.cell? ⟨kb, j, none⟩ = some (.int .i64 (y + 1)) := by
        rw [← hW4]
        exact (World.cell?_of_block (Below.heap_setCell _ _ _ _ (fun e => HT.out.kE (by simp [bk]; exact e.symm)))).trans (cell_at HBR.out CE.out)
      rw [List.length_set, hn.out] at a0
      clear hrw hln htk hS hS1 hS2 hlt
      go_upto_region 18 with fail
      clear hW4
      go_quiet (fail)
      go_wp2_with fail
      go_ret3
      have hb := drewN_below (Below.refl W4.heap.size W4) nq
      refine ⟨rfl, some ⟨kb, 0, none⟩, cE, A, c, kept id vs, HS.out.below hb, (by simpa using kept_map id vs), ?_, fun z hz => .inl hz, fun z hz => .inr (Nat.le_trans HSZ.out (HS2.out z hz))⟩
      exact (HO.out.trans (S' := [k]) HS1.out (fun z hz => .inl (by simp at hz; simp [hz]))).trans (S' := []) (Only.ofBelow hb) (fun z hz => by cases hz)

set_option maxRecDepth 100000 in
set_option maxHeartbeats 4000000 in
theorem ropen_is {B : Nat} {w : World} {k cE cL m : Nat} {AE AL : Option Addr} {es : List Int} {vs : List MV} (id r1 r2 x : Int) (h : Hid (RT B w k AE cE AL cL es vs)) (HB : Hid (B ≤ w.heap.size)) (hm : Hid (vs.length = m)) (hml : m ≤ 100000) (G : Hid (Good es (vs.map (·.m)))) (HX : Hid (openR es id = (r1, r2, x))) :
    Calls Try.prog 10 #[.pointer (some ⟨k, 0, none⟩), .int .i64 id] w fun e w' => e = .returned (.tuple #[.int .i64 r1, .int .i64 r2, .int .i64 x]) ∧ RTurned w B k AE AL (openE es id) (openM es (vs.map (·.m)) id) w' := by
  obtain ⟨n, hn⟩ : ∃ n, es.length = n := ⟨_, rfl⟩
  have hl : n ≤ 32 := by rw [← hn]; exact G.out.len
  have hx := HX.out
  unfold openR at hx
  rw [hn] at hx
  have c0 := h.out.c0
  rw [hn] at c0
  by_cases h0 : id = 0
  · subst h0
    rw [if_pos rfl] at hx
    by_cases h1 : 32 ≤ n
    · rw [if_pos h1] at hx
      obtain ⟨rfl, rfl, rfl⟩ : 0 = r1 ∧ 0 = r2 ∧ 2 = x := by simpa using hx
      have e1 : openE es 0 = es := by unfold openE; rw [if_pos rfl, hn, if_pos h1]
      have e2 : openM es (vs.map (·.m)) 0 = vs.map (·.m) := by unfold openM; rw [if_pos rfl]
      rw [e1, e2]
      have t1 : (n : Int) ≥ 32 := by omega
      clear hx hn h1 e1 e2
      go_enter Try.func10, Try.ntmps10
      go_wp2_with fail
      go_ret3
      exact ⟨rfl, RTurned.same h.out (Below.refl _ _)⟩
    · rw [if_neg h1] at hx
      obtain ⟨rfl, rfl, rfl⟩ : (n : Int) + 1 = r1 ∧ 0 = r2 ∧ 0 = x := by simpa using hx
      have e1 : openE es 0 = es ++ [0] := by unfold openE; rw [if_pos rfl, hn, if_neg h1]
      have e2 : openM es (vs.map (·.m)) 0 = vs.map (·.m) := by unfold openM; rw [if_pos rfl]
      rw [e1, e2]
      obtain ⟨i0, hi0, hz0, hz1, hz2⟩ := info_parts numInfo
      have t1 : ¬ (n : Int) ≥ 32 := by omega
      have f0 := h.out.froz 0
      have HO := Lib.hid h.out.eown
      rw [hn] at HO
      have HN := Lib.hid hn
      have HG := Lib.hid h.out.kE
      have HLT := Lib.hid h.out.lt
      have HR := Lib.hid h.out.row
      clear hx hn h1 e1 e2
      go_enter Try.func10, Try.ntmps10
      go_wp2_with (at_builtin; refine wpList_append_lies _ rfl _ _ 26 (by rfl) B 3 i0 _ 1 8 Try.underlying26 hi0 hz0 hz1 hz2 rfl (by omega) (.slice AE n cE) n (rowN es) (by rfl) (HO.out.alloc _) ⟨w.heap.size, 0, none⟩ 1 1 [.int .i64 0] (by rfl) (by rfl) (cell_one_new _ _ _) (by simp [Value.oneCell']) (by omega) (by unfold maxLen; omega) (by omega) (by have := HB.out; simp; omega) _ rfl ?_; intro kb c' w1 hown hgrow hor hlt; have hg1 : w1.heap[k]? = _ := ((hgrow.block k (by have := HLT.out; simp; omega) (fun e => HG.out (mem_bk.2 (by rw [blk_own] at e; exact e.symm)))).trans (Below.heap_alloc _ _ _ HLT.out)).trans HR.out; have d0 : w1.cell? ⟨k, 0, none⟩ = _ := cell_of_row _ _ 0 _ _ _ hg1; have e0 := frozen_of_row w1 k 0 _ _ hg1; have HG1 := Lib.hid hg1; clear hg1)
      go_ret3
      refine ⟨rfl, ?_⟩
      have hw : Only (bk AE) w w1 := (Only.ofBelow (one_box' _)).grown hgrow (fun j e => .inl (mem_bk.2 (by rw [blk_own] at e; exact e)))
      have hown' : w1.ownsRow B 3 1 (.slice (some ⟨kb, 0, none⟩) (n + 1) c') (n + 1) (rowN (es ++ [0])) := by simpa [rowN] using hown
      have hk : kb ∈ bk AE ∨ w.heap.size ≤ kb := by
        rcases hor with e | e
        · exact .inl (mem_bk.2 (by rw [blk_own] at e; exact e))
        · right; rw [e]; simp
      obtain ⟨q1, q2⟩ := h.out.grownE hw hown' (by simp [HN.out]) hk
      exact ⟨_, c', AL, cL, vs, q1, rfl, q2, fun j hj => by simp [bk] at hj; subst hj; exact hk, fun j hj => .inl hj⟩
  · rw [if_neg h0] at hx
    have d0 : (id == 0) = false := by simpa using h0
    by_cases h1 : ¬ (1 ≤ id ∧ id ≤ n)
    · rw [if_pos h1] at hx
      obtain ⟨rfl, rfl, rfl⟩ : 0 = r1 ∧ 0 = r2 ∧ 80 = x := by simpa using hx
      have e1 : openE es id = es := by unfold openE; rw [if_neg h0, hn, if_pos h1]
      have e2 : openM es (vs.map (·.m)) id = vs.map (·.m) := by unfold openM; rw [if_neg h0, hn, if_pos h1]
      rw [e1, e2]
      have HV : Hid (decide (1 ≤ id ∧ id ≤ es.length) = false) := Lib.hid (by rw [hn]; exact decide_eq_false h1)
      clear hx hn h1 e1 e2 h0 c0
      go_enter Try.func10, Try.ntmps10
      go_wp2_with (go_at_call 28; refine (ris_is id false h HV).mono ?_; rintro e w' ⟨rfl, hw'⟩; obtain rfl := hw'.symm)
      go_ret3
      exact ⟨rfl, RTurned.same h.out (Below.refl _ _)⟩
    · rw [if_neg h1] at hx
      have h2 : 1 ≤ id ∧ id ≤ n := by omega
      obtain ⟨j, hj⟩ : ∃ j : Nat, (id - 1).toNat = j := ⟨_, rfl⟩
      have hj' : id = (j : Int) + 1 := by omega
      have hat : es[j]? = some (es.getD j 0) := at_getD (by omega)
      obtain ⟨kb, rfl, _, _, _, hc, hf⟩ := own_num h.out.eown hat
      rw [hj] at hx
      obtain ⟨y, hy⟩ : ∃ y, es.getD j 0 = y := ⟨_, rfl⟩
      have hyb := G.out.at (i := j) (by omega)
      rw [hy] at hx hc hyb
      by_cases hz : y = 1099511627776
      · rw [if_pos hz] at hx
        obtain ⟨rfl, rfl, rfl⟩ : 0 = r1 ∧ 0 = r2 ∧ 2 = x := by simpa using hx
        have e1 : openE es id = es := by unfold openE; rw [if_neg h0, hn, if_neg h1, hj, hy, if_pos hz]
        have e2 : openM es (vs.map (·.m)) id = vs.map (·.m) := by unfold openM; rw [if_neg h0, hn, if_neg h1, hj, hy, if_pos hz]
        rw [e1, e2]
        have HV : Hid (decide (1 ≤ id ∧ id ≤ es.length) = true) := Lib.hid (by rw [hn]; exact decide_eq_true h2)
        have w1 : wrap64 (id - 1) = (j : Int) := by simp only [wrap64]; omega
        have w2 : id - 1 = (j : Int) := by omega
        have j0 : (0 : Int) ≤ (j : Int) := by omega
        have j1 : (j : Int) < (n : Int) := by omega
        subst hz
        clear hx hn h1 e1 e2 h0 h2 hj hj' hat hf hy hyb
        go_enter Try.func10, Try.ntmps10
        go_wp2_with (go_at_call 28; refine (ris_is id true h HV).mono ?_; rintro e w' ⟨rfl, hw'⟩; obtain rfl := hw'.symm)
        go_ret3
        exact ⟨rfl, RTurned.same h.out (Below.refl _ _)⟩
      · rw [if_neg hz] at hx
        obtain ⟨rfl, rfl, rfl⟩ : id = r1 ∧ y + 1 = r2 ∧ 0 = x := by simpa using hx
        have e1 : openE es id = es.set j (y + 1) := by unfold openE; rw [if_neg h0, hn, if_neg h1, hj, hy, if_neg hz]
        have e2 : openM es (vs.map (·.m)) id = (vs.map (·.m)).filter (fun m => decide (m.id ≠ id)) := by unfold openM; rw [if_neg h0, hn, if_neg h1, hj, hy, if_neg hz]
        rw [e1, e2]
        exact ropen_up id y j n h HB hm hml (Lib.hid hn) hl (Lib.hid hj') (by omega) hc hf hyb.1 (by omega)
end Go.Proofs.Ytcmlopflandlgaa.L8
