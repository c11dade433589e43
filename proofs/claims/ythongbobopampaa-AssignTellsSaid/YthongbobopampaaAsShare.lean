/-
  Contracts: who has which partitions: the program's.
-/
import Derived.Test.YthongbobopampaaAsCheck
import Derived.Test.YthongbobopampaaAsRange1
import Derived.Laws.MakeOwn
import Derived.Laws.OwnMore
namespace Go.Proofs.Ythongbobopampaa.L10
open Go.RowKit
open L3 L4 L9

/-- rows that are no lists stay, but some blocks -/
def KO (S : List Nat) (w w' : World) : Prop := w.heap.size ≤ w'.heap.size ∧ ∀ (j : Nat) cs (T : TypeId) fr, w.heap[j]? = some (.cells cs T fr) → T ≠ 36 → T ≠ 27 → j ∉ S → w'.heap[j]? = some (.cells cs T fr)
theorem KO.refl (S : List Nat) (w : World) : KO S w w := ⟨Nat.le_refl _, fun _ _ _ _ h _ _ _ => h⟩
theorem KO.trans {S : List Nat} {w w1 w2 : World} (h : KO S w w1) (h' : KO S w1 w2) : KO S w w2 := ⟨Nat.le_trans h.1 h'.1, fun j cs T fr q q1 q2 q3 => h'.2 j cs T fr (h.2 j cs T fr q q1 q2 q3) q1 q2 q3⟩
theorem KO.only {S : List Nat} {w w' : World} (o : Only S w w') : KO S w w' := ⟨o.size, fun j _ _ _ q _ _ h => (o.block j (Array.getElem?_eq_some_iff.1 q).1 h).trans q⟩
theorem KO.below {S : List Nat} {w w' : World} (b : Below w.heap.size w w') : KO S w w' := KO.only (Only.ofBelow b)
theorem KO.wide {S : List Nat} {w w' : World} (h : KO [] w w') : KO S w w' := ⟨h.1, fun j cs T fr q q1 q2 _ => h.2 j cs T fr q q1 q2 (by simp)⟩
/-- lists under way -/
def ShI (w wr : World) (S : List Nat) (g nm : Nat) (sq : List (Nat × Pt)) : Prop := ∃ sl, Lists wr w.heap.size (.slice (some ⟨g, 0, none⟩) nm nm) sl ∧ sl.map (·.x) = listsL nm sq ∧ Only S w wr
theorem ShI.only {w wr : World} {S : List Nat} {g nm : Nat} {sq : List (Nat × Pt)} (h : ShI w wr S g nm sq) : Only S w wr := by obtain ⟨_, _, _, h⟩ := h; exact h
theorem ShI.kl {w wr w2 : World} {S : List Nat} {g nm : Nat} {sq : List (Nat × Pt)} (h : ShI w wr S g nm sq) (k : KL wr w2) (o : Only S wr w2) : ShI w w2 S g nm sq := by
  obtain ⟨sl, h1, h2, h3⟩ := h
  exact ⟨sl, h1.kl k, h2, h3.trans o (fun _ q => .inl q)⟩
theorem ShI.below {w wr w2 : World} {S : List Nat} {g nm : Nat} {sq : List (Nat × Pt)} (h : ShI w wr S g nm sq) (b : Below wr.heap.size wr w2) : ShI w w2 S g nm sq := h.kl (KL.below b) (Only.ofBelow b)
theorem ShI.box {w wr w2 : World} {S : List Nat} {g nm pb p : Nat} {sq : List (Nat × Pt)} (h : ShI w wr S g nm sq) (hb : Box wr pb p) (o : Only [pb] wr w2) (hp : pb ∈ S) : ShI w w2 S g nm sq :=
  h.kl (fun j cs T fr q hT => by
    refine (o.block j (Array.getElem?_eq_some_iff.1 q).1 (fun e => ?_)).trans q
    have e' : j = pb := by simpa using e
    rw [e', hb] at q
    injection q with q; injection q with _ q
    rcases hT with hT | hT <;> (rw [hT] at q; exact absurd q (by decide))) (o.mono (fun k hk => .inl ((show k = pb by simpa using hk) ▸ hp)))
theorem ShI.lt {w wr : World} {S : List Nat} {g nm : Nat} {sq : List (Nat × Pt)} (h : ShI w wr S g nm sq) : w.heap.size ≤ g ∧ g < wr.heap.size := by
  obtain ⟨sl, h1, _, _⟩ := h
  obtain ⟨_, a, b, _⟩ := own_bk' h1.out (k := g) rfl
  exact ⟨a, b⟩
theorem ShI.row {w wr : World} {S : List Nat} {g nm k : Nat} {sq : List (Nat × Pt)} (h : ShI w wr S g nm sq) (hk : k < nm) :
    ∃ A n c, wr.cell? ⟨g, k, none⟩ = some (.slice A n c) ∧ wr.ownsRow w.heap.size 27 2 (.slice A n c) n (rowP (ownL sq k)) ∧ n ≤ sq.length := by
  obtain ⟨sl, h1, h2, _⟩ := h
  have hl : sl.length = nm := by have := congrArg List.length h2; simpa [listsL] using this
  obtain ⟨s, hs⟩ : ∃ s, sl[k]? = some s := ⟨_, List.getElem?_eq_getElem (by omega)⟩
  have hx := (map_put (g' := 0) (c' := 0) (y := ⟨⟨#[]⟩, 0⟩) h2 hs).2
  refine ⟨s.A, s.x.length, s.c, h1.cell hs, ?_, ?_⟩
  · rw [← hx]; exact h1.inn s (List.mem_of_getElem? hs)
  · rw [hx]; unfold ownL; rw [List.length_map]; exact List.length_filter_le _ _
/-- one more -/
theorem ShI.put {w wr w3 : World} {S : List Nat} {g nm k n c g' c' : Nat} {A : Option Addr} {sq : List (Nat × Pt)} {o : Obj} {t : ByteArray} {i : Int} (h : ShI w wr S g nm sq) (hk : k < nm) (hc : wr.cell? ⟨g, k, none⟩ = some (.slice A n c))
    (ho : w3.ownsRow w.heap.size 27 2 (.slice (some ⟨g', 0, none⟩) (n + 1) c') (n + 1) (rowP (ownL sq k) ++ [.string t, .int .i64 i])) (hg : (wr.alloc o).grownBy w3 (Value.slice A n c).ownBlock) (hat : (Value.slice A n c).ownBlock = some g' ∨ g' = wr.heap.size + 1) :
    w3.cell? ⟨g, k, none⟩ = some (.slice A n c) ∧ (∃ cs, w3.heap[g]? = some (.cells cs 36 (0, 0))) ∧ ShI w (w3.setCell ⟨g, k, none⟩ (.slice (some ⟨g', 0, none⟩) (n + 1) c')) S g nm (sq ++ [(k, ⟨t, i⟩)]) ∧ KO [] wr (w3.setCell ⟨g, k, none⟩ (.slice (some ⟨g', 0, none⟩) (n + 1) c')) := by
  obtain ⟨sl, h1, h2, h3⟩ := h
  have hl : sl.length = nm := by have := congrArg List.length h2; simpa [listsL] using this
  obtain ⟨s, hs⟩ : ∃ s, sl[k]? = some s := ⟨_, List.getElem?_eq_getElem (by omega)⟩
  have hsm := List.mem_of_getElem? hs
  have hv : s.v = .slice A n c := by have := h1.cell hs; rw [hc] at this; injection this with this; exact this.symm
  have hn : s.x.length = n := by unfold Sl.v at hv; injection hv
  obtain ⟨hmp, hx⟩ := map_put (g' := g') (c' := c') (y := ⟨t, i⟩) h2 hs
  have ha : Below wr.heap.size wr (wr.alloc o) := one_box' o
  have h1' := h1.below ha
  rw [← hv] at hg hat
  obtain ⟨cs, hgb, hgl, hgr⟩ := own_bk' h1.out (k := g) rfl
  have hb3 : w3.heap[g]? = wr.heap[g]? := (hg.block g (Nat.lt_of_lt_of_le hgl ha.size) (fun e => h1.ne hsm g e.symm rfl)).trans (ha.block g hgl)
  have hP := Lists.put (c' := c') (y := ⟨t, i⟩) h1' hs (by
    rw [hn, rowP_app, hx]
    exact ho) hg (hat.imp id (fun e => by rw [e]; simp))
  rw [hn] at hP
  have hrow : ∀ b, s.v.ownBlock = some b → w.heap.size ≤ b := fun b hb => by obtain ⟨_, q, _, _⟩ := own_bk' (h1.inn s hsm) hb; exact q
  refine ⟨(World.cell?_of_block (w := wr) hb3).trans hc, ⟨cs, hb3.trans hgr⟩, ⟨_, hP, hmp, ?_⟩, ?_⟩
  · exact (((h3.alloc o).grown hg (fun b hb => .inr (hrow b hb))).setCell (.inr hgb) _)
  · refine ⟨?_, fun j cs' T fr q q1 q2 _ => ?_⟩
    · have := hg.size; have := ha.size; simp [World.setCell]; omega
    · have hj := (Array.getElem?_eq_some_iff.1 q).1
      refine (Below.heap_setCell _ _ _ _ (fun e => ?_)).trans ((hg.block j (Nat.lt_of_lt_of_le hj ha.size) (fun e => ?_)).trans ((ha.block j hj).trans q))
      · have e' : j = g := by first | exact e | exact e.symm
        rw [e', hgr] at q; injection q with q; injection q with _ q; exact q1 q.symm
      · obtain ⟨cs2, _, _, q'⟩ := own_bk' (h1.inn s hsm) e.symm
        rw [q'] at q; injection q with q; injection q with _ q; exact q2 q.symm
theorem slInfo : (Try.prog.info? 36).map (fun i => (i.zero, i.size, i.bytes)) = some (some (.slice none 0 0), 1, 24) := by kernel_rfl
theorem ptInfo : (Try.prog.info? 27).map (fun i => (i.zero, i.size, i.bytes)) = some (some (.agg #[.string ⟨#[]⟩, .int .i64 0]), 2, 24) := by kernel_rfl
theorem make_lists (nm : Nat) (h : nm ≤ 1000) (W : World) : (Instr.makeSlice 29 (.int .i64 (nm : Int)) (.int .i64 (nm : Int))).run Try.prog W = .ok (.slice (some ⟨W.heap.size, 0, none⟩) nm nm) (W.alloc (.cells (madeCells #[.slice none 0 0] nm) 36)) := by
  obtain ⟨i0, hi0, hz0, hz1, hz2⟩ := info_parts slInfo
  have := run_make (P := Try.prog) W 29 36 i0 _ Try.underlying29 hi0 hz0 .i64 .i64 (nm : Int) (nm : Int) (by omega) (Int.le_refl _) (by rw [hz2]; omega) (by omega)
  rw [Int.toNat_natCast, hz1, Nat.mul_one] at this
  exact this
theorem made_rep (nm : Nat) : (madeCells #[Value.slice none 0 0] nm).toList = List.replicate nm (.slice none 0 0) := by
  unfold madeCells
  apply List.ext_getElem
  · simp
  · intro i h1 h2
    simp [Nat.mod_one]
theorem ShI.start {w w1 : World} {S : List Nat} {nm : Nat} (hb : Below w.heap.size w w1) (h : nm ≤ 1000) : ShI w (w1.alloc (.cells (madeCells #[.slice none 0 0] nm) 36)) S w1.heap.size nm [] := by
  refine ⟨List.replicate nm ⟨none, 0, []⟩, ⟨?_, fun s hs => ?_, ?_⟩, ?_, (Only.ofBelow hb).alloc _⟩
  · have := World.ownsRow_lit (size := 1) (e := 36) w1 (madeCells #[.slice none 0 0] nm) nm hb.size (by unfold maxLen; omega) (by rw [size_madeCells, Nat.mul_one])
    rw [made_rep] at this
    simpa [Sl.v] using this
  · obtain ⟨_, rfl⟩ := List.mem_replicate.1 hs
    exact World.ownsRow_nil _ _ _ _
  · refine List.pairwise_replicate.2 (.inr ?_)
    intro k hk; simp [bk] at hk
  · apply List.ext_getElem
    · simp [listsL]
    · intro i h1 h2
      simp [listsL, ownL]
theorem one_len (ch : Ch) (ab : List Nat) (t : ByteArray) (n p : Nat) : ∀ i, (oneT ch ab t n p i).1.length = i
  | 0 => rfl
  | i + 1 => by show ((oneT ch ab t n p i).1 ++ [_]).length = _; rw [List.length_append, one_len ch ab t n p i]; rfl
theorem top_len (ch : Ch) (ms : List Mb) (x : Pt) (p : Nat) (h : x.n ≤ 8) : (topT ch ms x p).1.length ≤ 8 := by
  unfold topT
  split
  · simp
  · rw [one_len]; omega
theorem seq_len (ch : Ch) (ms : List Mb) : ∀ (l : List Pt) (p : Nat), (∀ x ∈ l, x.n ≤ 8) → (seqT ch ms l p).1.length ≤ 8 * l.length
  | [], _, _ => by simp [seqT]
  | x :: l, p, h => by
    have h1 := top_len ch ms x p (h x List.mem_cons_self)
    have h2 := seq_len ch ms l (topT ch ms x p).2 (fun y hy => h y (List.mem_cons_of_mem _ hy))
    show ((topT ch ms x p).1 ++ (seqT ch ms l (topT ch ms x p).2).1).length ≤ _
    rw [List.length_append, List.length_cons]; omega
theorem top_one {ch : Ch} {ms : List Mb} {x : Pt} {p N : Nat} {ab : List Nat} (h : able ms x.t = ab) (hn : ab ≠ []) (hN : x.n = (N : Int)) : topT ch ms x p = oneT ch ab x.t N p N := by
  unfold topT
  rw [h, if_neg hn, hN]; rfl
theorem top_nil {ch : Ch} {ms : List Mb} {x : Pt} {p : Nat} (h : able ms x.t = []) : topT ch ms x p = ([], p) := by
  unfold topT
  rw [if_pos h]
set_option maxRecDepth 100000 in
set_option maxHeartbeats 4000000 in
theorem share_norange (w : World) (A Am : Option Addr) (n c nm cm : Nat) (l : List Pt) (ms : List Mb) (x : Int) (hx : x ≠ 0) (hL : Hid (IsL w w.heap.size A n c l)) (hM : Hid (IsM w w.heap.size Am nm cm ms)) (HX : Hid (chkE l ms x)) :
    Calls Try.prog 17 #[.slice A n c, .slice Am nm cm, .func (.func 18) #[] #[]] w fun e w' => e = .returned (.tuple #[.slice none 0 0, .int .i64 x]) ∧ Below w.heap.size w w' := by
  have q := ne_zero hx
  go_enter Try.func17, Try.ntmps17
  go_wp2_with (go_at_call 10; refine (check_is w A Am n c nm cm l ms x hL hM HX).mono ?_; rintro e w1 ⟨rfl, hb1⟩; have HB1 := Lib.hid hb1; clear hb1)
  go_ret2
  exact ⟨rfl, HB1.out⟩
set_option maxRecDepth 100000 in
set_option maxHeartbeats 4000000 in
theorem share_norobin (w : World) (A Am : Option Addr) (n c nm cm pb : Nat) (l : List Pt) (ms : List Mb) (x : Int) (hx : x ≠ 0) (hL : Hid (IsL w w.heap.size A n c l)) (hM : Hid (IsM w w.heap.size Am nm cm ms)) (HX : Hid (chkE l ms x)) :
    Calls Try.prog 17 #[.slice A n c, .slice Am nm cm, .func (.func 20) #[] #[.pointer (some ⟨pb, 0, none⟩)]] w fun e w' => e = .returned (.tuple #[.slice none 0 0, .int .i64 x]) ∧ Below w.heap.size w w' := by
  have q := ne_zero hx
  go_enter Try.func17, Try.ntmps17
  go_wp2_with (go_at_call 10; refine (check_is w A Am n c nm cm l ms x hL hM HX).mono ?_; rintro e w1 ⟨rfl, hb1⟩; have HB1 := Lib.hid hb1; clear hb1)
  go_ret2
  exact ⟨rfl, HB1.out⟩
set_option maxRecDepth 100000 in
set_option maxHeartbeats 4000000 in
theorem share_range (w : World) (B : Nat) (A Am : Option Addr) (n c nm cm : Nat) (l : List Pt) (ms : List Mb) (hL : Hid (IsL w B A n c l)) (hM : Hid (IsM w B Am nm cm ms)) (hB : B ≤ w.heap.size) (HX : Hid (chkE l ms 0)) (SQ : List (Nat × Pt)) (HS : Hid ((seqT chR ms l 0).1 = SQ)) :
    Calls Try.prog 17 #[.slice A n c, .slice Am nm cm, .func (.func 18) #[] #[]] w fun e w' => ∃ g, e = .returned (.tuple #[.slice (some ⟨g, 0, none⟩) nm nm, .int .i64 0]) ∧ ShI w w' [] g nm SQ := by
  obtain ⟨hG, hm8, -⟩ := chk_ok HX.out
  have hn8 := hG.len
  have HG := Lib.hid hG
  have hml := hM.out.len
  have hll := hL.out.len
  rw [hml] at hm8
  rw [hll] at hn8
  have HML := Lib.hid hml
  have HLL := Lib.hid hll
  have hL0 : Hid (IsL w w.heap.size A n c l) := Lib.hid (hL.out.keep (fun _ _ q _ => q) hB)
  have hM0 : Hid (IsM w w.heap.size Am nm cm ms) := Lib.hid (hM.out.keep (fun _ _ q _ => q) hB)
  have HKEEP : Hid (∀ wr, Only [] w wr → IsL wr B A n c l ∧ IsM wr B Am nm cm ms) := Lib.hid (fun wr o => by
    have k : ∀ (a : Addr) (v : Value), w.cell? a = some v → a.block < B → wr.cell? a = some v := fun a v q hq => o.cell q (by simp)
    exact ⟨hL.out.keep k (Nat.le_refl _), hM.out.keep k (Nat.le_refl _)⟩)
  obtain ⟨i0, hi0, hz0, hz1, hz2⟩ := info_parts ptInfo
  clear hG hml hll
  go_enter Try.func17, Try.ntmps17
  go_wp2_with (go_at_call 10; refine (check_is w A Am n c nm cm l ms 0 hL0 hM0 HX).mono ?_; rintro e w1 ⟨rfl, hb1⟩; have HB1 := Lib.hid hb1; have hmk := make_lists nm (by omega) w1; clear hb1)
  obtain ⟨g, hgg⟩ : ∃ g, w1.heap.size = g := ⟨_, rfl⟩
  have HI0 : ShI w (w1.alloc (.cells (madeCells #[.slice none 0 0] nm) 36)) [] w1.heap.size nm [] := ShI.start HB1.out (by omega)
  have hbA : Below w.heap.size w (w1.alloc (.cells (madeCells #[.slice none 0 0] nm) 36)) := HB1.out.alloc HB1.out.size _
  rw [hgg] at HI0 ⊢
  obtain ⟨w2, hw2⟩ : ∃ w2, w1.alloc (.cells (madeCells #[.slice none 0 0] nm) 36) = w2 := ⟨_, rfl⟩
  rw [hw2] at HI0 hbA ⊢
  have HI2 := Lib.hid HI0
  clear HI0 hbA hw2 hgg hmk
  go_loopw [27] (fun s wr => ∃ j : Nat, j ≤ n ∧ s = .int .i64 j ∧ Hid (ShI w wr [] g nm (seqT chR ms (l.take j) 0).1)) (fun s _ => n - (intOf s).toNat)
  case atStart => exact ⟨0, by omega, rfl, HI2⟩
  case round =>
    obtain ⟨j, hj, rfl, HI⟩ := hrel
    by_cases hlt : j < n
    · obtain ⟨gl, hA, hgl, hc⟩ := (HKEEP.out wr HI.out.only).1.rd (by rw [HLL.out]; omega)
      subst hA
      obtain ⟨⟨t, N0⟩, hs⟩ : ∃ s, l[j]? = some s := ⟨_, List.getElem?_eq_getElem (by rw [HLL.out]; omega)⟩
      have hfit := HG.out.fit _ (List.mem_of_getElem? hs)
      dsimp only at hfit
      obtain ⟨N, rfl⟩ : ∃ N : Nat, N0 = (N : Int) := ⟨N0.toNat, by omega⟩
      obtain ⟨d0, d1⟩ := hc j _ hs
      dsimp only at d0 d1
      have k0 : (0 : Int) ≤ (j : Int) := by omega
      have k1 : (j : Int) < (n : Int) := by omega
      have hN8 : N ≤ 8 := by omega
      have HTS : Hid (t.size ≤ 281474976710656) := Lib.hid (by omega)
      have HNX := Lib.hid (seqT_next chR ms l 0 j ⟨t, N⟩ hs)
      have HLEN : Hid ((seqT chR ms (l.take j) 0).1.length ≤ 64) := Lib.hid (by
        have := seq_len chR ms (l.take j) 0 (fun x hx => (HG.out.fit x (List.mem_of_mem_take hx)).2.2)
        rw [List.length_take, HLL.out] at this; omega)
      obtain ⟨sq, hsq⟩ : ∃ sq, (seqT chR ms (l.take j) 0).1 = sq := ⟨_, rfl⟩
      obtain ⟨p, hp⟩ : ∃ p, (seqT chR ms (l.take j) 0).2 = p := ⟨_, rfl⟩
      rw [hsq, hp] at HNX
      rw [hsq] at HI HLEN
      obtain ⟨ab, hab⟩ : ∃ ab, able ms t = ab := ⟨_, rfl⟩
      have HAB := Lib.hid hab
      have HRI : Hid (ab.Pairwise (· < ·)) := Lib.hid (by rw [← hab]; exact able_rise ms t)
      have HA8 : Hid (ab.length ≤ 8) := Lib.hid (by rw [← hab]; unfold able; have := ableTo_len ms t ms.length; rw [HML.out] at this ⊢; omega)
      have HLT : Hid (∀ k ∈ ab, k < nm) := Lib.hid (fun k hk => by rw [← hab] at hk; have := able_lt hk; rwa [HML.out] at this)
      have hbw : Below wr.heap.size wr (wr.alloc (.cells #[.string t, .int .i64 (N : Int)] 44)) := one_box' _
      have hrw := heap_alloc_new wr (.cells #[.string t, .int .i64 (N : Int)] 44)
      obtain ⟨bt, hbt⟩ : ∃ b, wr.heap.size = b := ⟨_, rfl⟩
      have HIA := Lib.hid (HI.out.below hbw)
      have HMA := Lib.hid ((HKEEP.out _ HIA.out.only).2)
      have HZA : Hid (B ≤ (wr.alloc (.cells #[.string t, .int .i64 (N : Int)] 44)).heap.size) := Lib.hid (Nat.le_trans hB HIA.out.only.size)
      have HBA := Lib.hid hbw
      have HRW := Lib.hid hrw
      clear hc hs hsq hp hab hbw hrw hbt hfit
      by_cases hemp : ab = []
      · have HNIL := Lib.hid hemp
        have HT := Lib.hid (top_nil (ch := chR) (p := p) (x := ⟨t, (N : Int)⟩) (HAB.out.trans hemp))
        have hl0 : ab.length = 0 := by rw [hemp]; rfl
        have HL0 := Lib.hid hl0
        clear hemp hl0
        go_wp2_with (go_at_call 28; refine (wanting_is Am cm nm B ms t ab _ HMA HZA.out HAB).mono ?_; rintro e w3 ⟨A3, c3, rfl, -, hb3⟩; have HI3 := Lib.hid (HIA.out.below hb3); have hl0 := HL0.out; clear hb3)
        go_roundw
        case rel => exact ⟨j + 1, by omega, by go_num, Lib.hid (by rw [HNX.out, HT.out]; simpa using HI3.out)⟩
        case measure => simp [intOf]; omega
      · have HT := Lib.hid (top_one (ch := chR) (p := p) (x := ⟨t, (N : Int)⟩) HAB.out hemp rfl)
        have hl0 : 0 < ab.length := List.length_pos_iff.2 hemp
        have HEM := Lib.hid hemp
        obtain ⟨K, hK⟩ : ∃ K, ab.length = K := ⟨_, rfl⟩
        rw [hK] at hl0
        have HA8' : K ≤ 8 := by rw [← hK]; exact HA8.out
        have HK := Lib.hid hK
        have hz : ((K : Int) == 0) = false := nz hl0
        have TC0 : (wr.alloc (.cells #[.string t, .int .i64 (N : Int)] 44)).heap[wr.heap.size]? = _ := HRW.out
        clear hemp hK TC0
        go_upto_region 11 with (first
          | (go_at_call 28; refine (wanting_is Am cm nm B ms t ab _ HMA HZA.out HAB).mono ?_; rw [HK.out]; rintro e w3 ⟨A3, c3, rfl, ho3, hb3⟩; have HI3 := Lib.hid (HIA.out.below hb3); have HO3 := Lib.hid ho3; have HR3 := Lib.hid ((hb3.block wr.heap.size (by have := HBA.out.size; simp)).trans HRW.out); have t0 := (cell_of_row _ _ 0 _ _ _ HR3.out).trans rfl; have HZ3 : Hid (w.heap.size ≤ (wr.alloc (.cells #[.string t, .int .i64 (N : Int)] 44)).heap.size) := Lib.hid HIA.out.only.size; clear hb3 ho3)
          | (go_at_call 29; refine (clone_any t _ HTS.out).mono ?_; rintro e w4 ⟨rfl, hb4⟩; have HI4 := Lib.hid (HI3.out.below hb4); have HO4 := Lib.hid (own_below HO3.out hb4); have HR4 := Lib.hid ((hb4.block wr.heap.size (Array.getElem?_eq_some_iff.1 HR3.out).1).trans HR3.out); have t1 := (cell_of_row _ _ 1 _ _ _ HR4.out).trans rfl; clear hb4))
        obtain ⟨bt, hbt⟩ : ∃ b, wr.heap.size = b := ⟨_, rfl⟩
        have HBT : Hid (w.heap.size ≤ bt) := Lib.hid (by rw [← hbt]; exact HI.out.only.size)
        rw [hbt] at HR4 t1 ⊢
        go_wp2_with fail
        clear t1
        go_loopw [43] (fun s wx => ∃ i : Nat, i ≤ N ∧ s = .int .i64 i ∧ Hid (ShI w wx [] g nm (sq ++ (oneT chR ab t N p i).1)) ∧ Hid (KO [] w4 wx)) (fun s _ => N - (intOf s).toNat)
        case atStart => exact ⟨0, by omega, rfl, Lib.hid (by simpa [oneT] using HI4.out), Lib.hid (KO.refl _ _)⟩
        case round =>
          obtain ⟨i, hi, rfl, HIX, HKO⟩ := hrel
          by_cases hil : i < N
          · obtain ⟨s1, hs1⟩ : ∃ s1, (oneT chR ab t N p i).1 = s1 := ⟨_, rfl⟩
            obtain ⟨r, hr⟩ : ∃ r, pickR ab i N = r := ⟨_, rfl⟩
            have HR := Lib.hid hr
            have hrm : r ∈ ab := by rw [← hr]; exact pickR_mem HEM.out hil
            have HRM : Hid (r < nm) := Lib.hid (HLT.out r hrm)
            have HR8 : Hid (r ≤ 1000000) := Lib.hid (by have := HRM.out; omega)
            have HN1 : Hid ((oneT chR ab t N p (i + 1)).1 = s1 ++ [(r, ⟨t, (i : Int)⟩)]) := Lib.hid (by
              rw [← hs1, ← hr]
              rfl)
            have HLQ : Hid ((sq ++ s1).length ≤ 72) := Lib.hid (by
              have := HLEN.out
              rw [List.length_append, ← hs1, one_len]; omega)
            rw [hs1] at HIX
            have HRN : Hid (ReadsN wr wr.heap.size A3 ab) := Lib.hid (own_readsN (own_at HO4.out (fun b hb => by
              obtain ⟨cs, q1, q2, q3⟩ := own_bk' HO4.out hb
              have hz := HZ3.out
              rw [q3]
              exact HKO.out.2 b _ _ _ q3 (by decide) (by decide) (by simp))) HK.out)
            have hrx : wr.heap[bt]? = some (.cells #[.string t, .int .i64 (N : Int)] 44 (0, 0)) := HKO.out.2 bt _ _ _ HR4.out (by decide) (by decide) (by
              have hz := HBT.out
              exact by simp)
            have t1 := (cell_of_row _ _ 1 _ _ _ hrx).trans rfl
            have HRX := Lib.hid hrx
            have k2 : (0 : Int) ≤ (i : Int) := by omega
            have k3 : (i : Int) < (N : Int) := by omega
            have k4 : (0 : Int) ≤ (r : Int) := Int.natCast_nonneg r
            have k5 : (r : Int) < (nm : Int) := Int.ofNat_lt.2 HRM.out
            clear hs1 hr hrm hrx
            go_wp2_with (first
              | (at_builtin; have _q := HI5; refine wpList_append_lies _ rfl _ _ 36 (by rfl) w.heap.size 27 i0 _ 2 24 Try.underlying36 hi0 hz0 hz1 hz2 rfl (by decide) (.slice Ak nk ck) nk (rowP (ownL (sq ++ s1) r)) (by rfl) (HOK.out.alloc _) ⟨w5.heap.size, 0, none⟩ 1 1 [.string t, .int .i64 (i : Int)] (by rfl) (by rfl) (World.news_of_block (cs := #[.string t, .int .i64 (i : Int)]) (t := 27) (fr := (0, 0)) (heap_alloc_new w5 _)) (by simp [Value.oneCell']) (by decide) (by have := HLK.out; unfold maxLen; omega) (by have := HLK.out; omega) (by have := HI5.out.only.size; simp; omega) (w5.heap.size + 1) (by simp) ?_; intro g6 c6 w6 hown6 hgrow6 hat6 hlt6; obtain ⟨e6, ⟨cs6, hr6⟩, hI6, hK6⟩ := HI5.out.put HRM.out HDK.out hown6 hgrow6 hat6; have f6 := frozen_of_row _ g r _ _ hr6; have HI6 := Lib.hid hI6; have HK6 := Lib.hid (HK5.out.trans hK6.wide); clear hr6 hI6 hK6 hown6 hgrow6 hat6 hlt6)
              | (go_at_call 18; refine (range1_is A3 K c3 i N r ab wr HRN HK hl0 HA8' hN8 hil HR).mono ?_; rintro e w5 ⟨rfl, hb5⟩; have HI5 := Lib.hid (HIX.out.below hb5); have HK5 := Lib.hid (HKO.out.trans (KO.below hb5)); obtain ⟨Ak, nk, ck, dk, hok, hlk⟩ := HI5.out.row HRM.out; have HOK := Lib.hid hok; have HLK : Hid (nk ≤ 72) := Lib.hid (Nat.le_trans hlk HLQ.out); have HDK := Lib.hid dk; clear hok hlk hb5))
            go_roundw
            case rel => exact ⟨i + 1, by omega, by go_num, Lib.hid (by rw [HN1.out, ← List.append_assoc]; exact HI6.out), HK6⟩
            case measure => simp [intOf]; omega
          · obtain rfl : i = N := by omega
            go_wp2_with fail
            go_roundw
            case rel => exact ⟨j + 1, by omega, by go_num, Lib.hid (by rw [HNX.out, HT.out]; exact HIX.out)⟩
            case measure => simp [intOf]; omega
    · obtain rfl : j = n := by omega
      go_wp2_with fail
      go_ret2
      exact ⟨g, rfl, by have := HI.out; rwa [List.take_of_length_le (by rw [HLL.out]; exact Nat.le_refl _), HS.out] at this⟩
set_option maxRecDepth 100000 in
set_option maxHeartbeats 4000000 in
theorem share_robin (w : World) (B : Nat) (A Am : Option Addr) (n c nm cm pb : Nat) (l : List Pt) (ms : List Mb) (hL : Hid (IsL w B A n c l)) (hM : Hid (IsM w B Am nm cm ms)) (hB : B ≤ w.heap.size) (hpb : Hid (Box w pb 0)) (hpB : B ≤ pb) (HX : Hid (chkE l ms 0)) (SQ : List (Nat × Pt)) (HS : Hid ((seqT chB ms l 0).1 = SQ)) :
    Calls Try.prog 17 #[.slice A n c, .slice Am nm cm, .func (.func 20) #[] #[.pointer (some ⟨pb, 0, none⟩)]] w fun e w' => ∃ g, e = .returned (.tuple #[.slice (some ⟨g, 0, none⟩) nm nm, .int .i64 0]) ∧ ShI w w' [pb] g nm SQ := by
  obtain ⟨hG, hm8, -⟩ := chk_ok HX.out
  have hn8 := hG.len
  have HG := Lib.hid hG
  have hml := hM.out.len
  have hll := hL.out.len
  rw [hml] at hm8
  rw [hll] at hn8
  have HML := Lib.hid hml
  have HLL := Lib.hid hll
  have hL0 : Hid (IsL w w.heap.size A n c l) := Lib.hid (hL.out.keep (fun _ _ q _ => q) hB)
  have hM0 : Hid (IsM w w.heap.size Am nm cm ms) := Lib.hid (hM.out.keep (fun _ _ q _ => q) hB)
  have HKEEP : Hid (∀ wr, Only [pb] w wr → IsL wr B A n c l ∧ IsM wr B Am nm cm ms) := Lib.hid (fun wr o => by
    have k : ∀ (a : Addr) (v : Value), w.cell? a = some v → a.block < B → wr.cell? a = some v := fun a v q hq => o.cell q (fun e => by have : a.block = pb := (by simpa using e); omega)
    exact ⟨hL.out.keep k (Nat.le_refl _), hM.out.keep k (Nat.le_refl _)⟩)
  obtain ⟨i0, hi0, hz0, hz1, hz2⟩ := info_parts ptInfo
  clear hG hml hll
  go_enter Try.func17, Try.ntmps17
  go_wp2_with (go_at_call 10; refine (check_is w A Am n c nm cm l ms 0 hL0 hM0 HX).mono ?_; rintro e w1 ⟨rfl, hb1⟩; have HB1 := Lib.hid hb1; have hmk := make_lists nm (by omega) w1; clear hb1)
  obtain ⟨g, hgg⟩ : ∃ g, w1.heap.size = g := ⟨_, rfl⟩
  have HI0 : ShI w (w1.alloc (.cells (madeCells #[.slice none 0 0] nm) 36)) [pb] w1.heap.size nm [] := ShI.start HB1.out (by omega)
  have hbA : Below w.heap.size w (w1.alloc (.cells (madeCells #[.slice none 0 0] nm) 36)) := HB1.out.alloc HB1.out.size _
  rw [hgg] at HI0 ⊢
  obtain ⟨w2, hw2⟩ : ∃ w2, w1.alloc (.cells (madeCells #[.slice none 0 0] nm) 36) = w2 := ⟨_, rfl⟩
  rw [hw2] at HI0 hbA ⊢
  have HI2 := Lib.hid HI0
  have HP2 := Lib.hid (hpb.out.below hbA)
  clear HI0 hbA hw2 hgg hmk
  go_loopw [27] (fun s wr => ∃ j : Nat, j ≤ n ∧ s = .int .i64 j ∧ Hid (ShI w wr [pb] g nm (seqT chB ms (l.take j) 0).1) ∧ Hid (Box wr pb (seqT chB ms (l.take j) 0).2)) (fun s _ => n - (intOf s).toNat)
  case atStart => exact ⟨0, by omega, rfl, HI2, HP2⟩
  case round =>
    obtain ⟨j, hj, rfl, HI, HP⟩ := hrel
    by_cases hlt : j < n
    · obtain ⟨gl, hA, hgl, hc⟩ := (HKEEP.out wr HI.out.only).1.rd (by rw [HLL.out]; omega)
      subst hA
      obtain ⟨⟨t, N0⟩, hs⟩ : ∃ s, l[j]? = some s := ⟨_, List.getElem?_eq_getElem (by rw [HLL.out]; omega)⟩
      have hfit := HG.out.fit _ (List.mem_of_getElem? hs)
      dsimp only at hfit
      obtain ⟨N, rfl⟩ : ∃ N : Nat, N0 = (N : Int) := ⟨N0.toNat, by omega⟩
      obtain ⟨d0, d1⟩ := hc j _ hs
      dsimp only at d0 d1
      have k0 : (0 : Int) ≤ (j : Int) := by omega
      have k1 : (j : Int) < (n : Int) := by omega
      have hN8 : N ≤ 8 := by omega
      have HTS : Hid (t.size ≤ 281474976710656) := Lib.hid (by omega)
      have HNX := Lib.hid (seqT_next chB ms l 0 j ⟨t, N⟩ hs)
      have HLEN : Hid ((seqT chB ms (l.take j) 0).1.length ≤ 64) := Lib.hid (by
        have := seq_len chB ms (l.take j) 0 (fun x hx => (HG.out.fit x (List.mem_of_mem_take hx)).2.2)
        rw [List.length_take, HLL.out] at this; omega)
      obtain ⟨sq, hsq⟩ : ∃ sq, (seqT chB ms (l.take j) 0).1 = sq := ⟨_, rfl⟩
      obtain ⟨p, hp⟩ : ∃ p, (seqT chB ms (l.take j) 0).2 = p := ⟨_, rfl⟩
      rw [hsq, hp] at HNX
      rw [hsq] at HI HLEN
      rw [hp] at HP
      obtain ⟨ab, hab⟩ : ∃ ab, able ms t = ab := ⟨_, rfl⟩
      have HAB := Lib.hid hab
      have HRI : Hid (ab.Pairwise (· < ·)) := Lib.hid (by rw [← hab]; exact able_rise ms t)
      have HA8 : Hid (ab.length ≤ 8) := Lib.hid (by rw [← hab]; unfold able; have := ableTo_len ms t ms.length; rw [HML.out] at this ⊢; omega)
      have HLT : Hid (∀ k ∈ ab, k < nm) := Lib.hid (fun k hk => by rw [← hab] at hk; have := able_lt hk; rwa [HML.out] at this)
      have hbw : Below wr.heap.size wr (wr.alloc (.cells #[.string t, .int .i64 (N : Int)] 44)) := one_box' _
      have hrw := heap_alloc_new wr (.cells #[.string t, .int .i64 (N : Int)] 44)
      obtain ⟨bt, hbt⟩ : ∃ b, wr.heap.size = b := ⟨_, rfl⟩
      have HIA := Lib.hid (HI.out.below hbw)
      have HPA := Lib.hid (HP.out.below hbw)
      have HMA := Lib.hid ((HKEEP.out _ HIA.out.only).2)
      have HZA : Hid (B ≤ (wr.alloc (.cells #[.string t, .int .i64 (N : Int)] 44)).heap.size) := Lib.hid (Nat.le_trans hB HIA.out.only.size)
      have HBA := Lib.hid hbw
      have HRW := Lib.hid hrw
      clear hc hs hsq hp hab hbw hrw hbt hfit
      by_cases hemp : ab = []
      · have HNIL := Lib.hid hemp
        have HT := Lib.hid (top_nil (ch := chB) (p := p) (x := ⟨t, (N : Int)⟩) (HAB.out.trans hemp))
        have hl0 : ab.length = 0 := by rw [hemp]; rfl
        have HL0 := Lib.hid hl0
        clear hemp hl0
        go_wp2_with (go_at_call 28; refine (wanting_is Am cm nm B ms t ab _ HMA HZA.out HAB).mono ?_; rintro e w3 ⟨A3, c3, rfl, -, hb3⟩; have HI3 := Lib.hid (HIA.out.below hb3); have HP3 := Lib.hid (HPA.out.below hb3); have hl0 := HL0.out; clear hb3)
        go_roundw
        case rel => exact ⟨j + 1, by omega, by go_num, Lib.hid (by rw [HNX.out, HT.out]; simpa using HI3.out), Lib.hid (by rw [HNX.out, HT.out]; exact HP3.out)⟩
        case measure => simp [intOf]; omega
      · have HT := Lib.hid (top_one (ch := chB) (p := p) (x := ⟨t, (N : Int)⟩) HAB.out hemp rfl)
        have hl0 : 0 < ab.length := List.length_pos_iff.2 hemp
        have HEM := Lib.hid hemp
        obtain ⟨K, hK⟩ : ∃ K, ab.length = K := ⟨_, rfl⟩
        rw [hK] at hl0
        have HA8' : K ≤ 8 := by rw [← hK]; exact HA8.out
        have HK := Lib.hid hK
        have hz : ((K : Int) == 0) = false := nz hl0
        have TC0 : (wr.alloc (.cells #[.string t, .int .i64 (N : Int)] 44)).heap[wr.heap.size]? = _ := HRW.out
        clear hemp hK TC0
        go_upto_region 11 with (first
          | (go_at_call 28; refine (wanting_is Am cm nm B ms t ab _ HMA HZA.out HAB).mono ?_; rw [HK.out]; rintro e w3 ⟨A3, c3, rfl, ho3, hb3⟩; have HI3 := Lib.hid (HIA.out.below hb3); have HP3 := Lib.hid (HPA.out.below hb3); have HO3 := Lib.hid ho3; have HR3 := Lib.hid ((hb3.block wr.heap.size (by have := HBA.out.size; simp)).trans HRW.out); have t0 := (cell_of_row _ _ 0 _ _ _ HR3.out).trans rfl; have HZ3 : Hid (w.heap.size ≤ (wr.alloc (.cells #[.string t, .int .i64 (N : Int)] 44)).heap.size) := Lib.hid HIA.out.only.size; clear hb3 ho3)
          | (go_at_call 29; refine (clone_any t _ HTS.out).mono ?_; rintro e w4 ⟨rfl, hb4⟩; have HI4 := Lib.hid (HI3.out.below hb4); have HP4 := Lib.hid (HP3.out.below hb4); have HO4 := Lib.hid (own_below HO3.out hb4); have HR4 := Lib.hid ((hb4.block wr.heap.size (Array.getElem?_eq_some_iff.1 HR3.out).1).trans HR3.out); have t1 := (cell_of_row _ _ 1 _ _ _ HR4.out).trans rfl; clear hb4))
        obtain ⟨bt, hbt⟩ : ∃ b, wr.heap.size = b := ⟨_, rfl⟩
        have HBT : Hid (w.heap.size ≤ bt) := Lib.hid (by rw [← hbt]; exact HI.out.only.size)
        rw [hbt] at HR4 t1 ⊢
        go_wp2_with fail
        clear t1
        go_loopw [43] (fun s wx => ∃ i : Nat, i ≤ N ∧ s = .int .i64 i ∧ Hid (ShI w wx [pb] g nm (sq ++ (oneT chB ab t N p i).1)) ∧ Hid (KO [pb] w4 wx) ∧ Hid (Box wx pb (oneT chB ab t N p i).2)) (fun s _ => N - (intOf s).toNat)
        case atStart => exact ⟨0, by omega, rfl, Lib.hid (by simpa [oneT] using HI4.out), Lib.hid (KO.refl _ _), HP4⟩
        case round =>
          obtain ⟨i, hi, rfl, HIX, HKO, HP⟩ := hrel
          by_cases hil : i < N
          · obtain ⟨s1, hs1⟩ : ∃ s1, (oneT chB ab t N p i).1 = s1 := ⟨_, rfl⟩
            obtain ⟨px, hpx⟩ : ∃ px, (oneT chB ab t N p i).2 = px := ⟨_, rfl⟩
            rw [hpx] at HP
            obtain ⟨r, hr⟩ : ∃ r, pickB ab px = r := ⟨_, rfl⟩
            have HR := Lib.hid hr
            have hrm : r ∈ ab := by rw [← hr]; exact pick_mem HEM.out px
            have HRM : Hid (r < nm) := Lib.hid (HLT.out r hrm)
            have HR8 : Hid (r ≤ 1000000) := Lib.hid (by have := HRM.out; omega)
            have HN1 : Hid ((oneT chB ab t N p (i + 1)).1 = s1 ++ [(r, ⟨t, (i : Int)⟩)]) := Lib.hid (by
              rw [← hs1, ← hr]
              rw [← hpx]; rfl)
            have HN2 : Hid ((oneT chB ab t N p (i + 1)).2 = r + 1) := Lib.hid (by rw [← hr, ← hpx]; rfl)
            have HLQ : Hid ((sq ++ s1).length ≤ 72) := Lib.hid (by
              have := HLEN.out
              rw [List.length_append, ← hs1, one_len]; omega)
            rw [hs1] at HIX
            have HRN : Hid (ReadsN wr wr.heap.size A3 ab) := Lib.hid (own_readsN (own_at HO4.out (fun b hb => by
              obtain ⟨cs, q1, q2, q3⟩ := own_bk' HO4.out hb
              have hz := HZ3.out
              rw [q3]
              exact HKO.out.2 b _ _ _ q3 (by decide) (by decide) (fun e => by have h1 : b = pb := (by simpa using e); have h2 := hpb.out.lt; omega))) HK.out)
            have hrx : wr.heap[bt]? = some (.cells #[.string t, .int .i64 (N : Int)] 44 (0, 0)) := HKO.out.2 bt _ _ _ HR4.out (by decide) (by decide) (by
              have hz := HBT.out
              exact fun e => by have h1 : bt = pb := (by simpa using e); have h2 := hpb.out.lt; omega)
            have t1 := (cell_of_row _ _ 1 _ _ _ hrx).trans rfl
            have HRX := Lib.hid hrx
            have k2 : (0 : Int) ≤ (i : Int) := by omega
            have k3 : (i : Int) < (N : Int) := by omega
            have k4 : (0 : Int) ≤ (r : Int) := Int.natCast_nonneg r
            have k5 : (r : Int) < (nm : Int) := Int.ofNat_lt.2 HRM.out
            clear hs1 hr hrm hrx
            go_wp2_with (first
              | (at_builtin; have _q := HI5; refine wpList_append_lies _ rfl _ _ 36 (by rfl) w.heap.size 27 i0 _ 2 24 Try.underlying36 hi0 hz0 hz1 hz2 rfl (by decide) (.slice Ak nk ck) nk (rowP (ownL (sq ++ s1) r)) (by rfl) (HOK.out.alloc _) ⟨w5.heap.size, 0, none⟩ 1 1 [.string t, .int .i64 (i : Int)] (by rfl) (by rfl) (World.news_of_block (cs := #[.string t, .int .i64 (i : Int)]) (t := 27) (fr := (0, 0)) (heap_alloc_new w5 _)) (by simp [Value.oneCell']) (by decide) (by have := HLK.out; unfold maxLen; omega) (by have := HLK.out; omega) (by have := HI5.out.only.size; simp; omega) (w5.heap.size + 1) (by simp) ?_; intro g6 c6 w6 hown6 hgrow6 hat6 hlt6; obtain ⟨e6, ⟨cs6, hr6⟩, hI6, hK6⟩ := HI5.out.put HRM.out HDK.out hown6 hgrow6 hat6; have f6 := frozen_of_row _ g r _ _ hr6; have HI6 := Lib.hid hI6; have HP6 : Hid (Box _ pb (r + 1)) := Lib.hid (hK6.2 pb _ _ _ HP5.out (by decide) (by decide) (by simp)); have HK6 := Lib.hid (HK5.out.trans hK6.wide); clear hr6 hI6 hK6 hown6 hgrow6 hat6 hlt6)
              | (go_at_call 20; refine (robin1_is A3 K c3 i N r pb px ab wr HRN HK hl0 HA8' HRI HP HR HR8.out).mono ?_; rintro e w5 ⟨rfl, hbx5, ho5⟩; have HI5 := Lib.hid (HIX.out.box HP.out ho5 (by simp)); have HK5 := Lib.hid (HKO.out.trans (KO.only ho5)); have HP5 := Lib.hid hbx5; obtain ⟨Ak, nk, ck, dk, hok, hlk⟩ := HI5.out.row HRM.out; have HOK := Lib.hid hok; have HLK : Hid (nk ≤ 72) := Lib.hid (Nat.le_trans hlk HLQ.out); have HDK := Lib.hid dk; clear hok hlk hbx5 ho5))
            go_roundw
            case rel => exact ⟨i + 1, by omega, by go_num, Lib.hid (by rw [HN1.out, ← List.append_assoc]; exact HI6.out), HK6, Lib.hid (by have := HP6.out; rw [HN2.out]; exact this)⟩
            case measure => simp [intOf]; omega
          · obtain rfl : i = N := by omega
            go_wp2_with fail
            go_roundw
            case rel => exact ⟨j + 1, by omega, by go_num, Lib.hid (by rw [HNX.out, HT.out]; exact HIX.out), Lib.hid (by rw [HNX.out, HT.out]; exact HP.out)⟩
            case measure => simp [intOf]; omega
    · obtain rfl : j = n := by omega
      go_wp2_with fail
      go_ret2
      exact ⟨g, rfl, by have := HI.out; rwa [List.take_of_length_le (by rw [HLL.out]; exact Nat.le_refl _), HS.out] at this⟩
end Go.Proofs.Ythongbobopampaa.L10
