/-
  Contracts: records are let go whose key comes again behind them.
-/
import Derived.Test.YtflcggpeflagiaaPlCmid
namespace Go.Proofs.Ytflcggpeflagiaa.L6
open Go.RowKit Go.Shelf
open Go.Maps
open L3 L4 L5

attribute [local go_sem] Oper.semAt_some

theorem last_any (w : World) (A : Option Addr) (L : List L4.Fd) (m cap bm nn : Nat) (keys : List (List UInt8)) (hm : L.length = m) (hl : m ≤ 64) (hnn : nn ≤ 1000000) (ho : Hid (∃ base, w.ownsRow base 43 5 (.slice A m cap) m (rowF L))) (hS : Hid (∀ f ∈ L, f.r.key.size ≤ maxLen)) (hK : Hid (IsKeys w bm nn keys)) :
    Calls Try.prog 40 #[.slice A m cap, .map (some bm)] w fun e W' => ∃ A' c' n, e = .returned (.slice A' (lastL L keys).2.length c') ∧ W'.ownsRow w.heap.size 3 1 (.slice A' (lastL L keys).2.length c') (lastL L keys).2.length (rowI (lastL L keys).2) ∧ n ≤ nn + 64 ∧ IsKeys W' bm n (lastL L keys).1 ∧ Only [bm] w W' := by
  subst hm
  obtain ⟨base, ho⟩ := ho.out
  refine (callsIn_wide.1 (last_in w A L L.length cap bm nn keys rfl (by omega) hnn (ReadsF.own ho) hS hK.out (fun k e => (own_blk ho k e).2))).mono ?_
  rintro e W' ⟨A', c', he, h1, ⟨n, h2, h3⟩, h4⟩
  exact ⟨A', c', n, he, h1, by omega, h3, h4⟩

theorem lastL_mem (f : L4.Fd → Prop) (L : List L4.Fd) (keys : List (List UInt8)) (h : ∀ x ∈ L, f x) : ∀ o ∈ (lastL L keys).2, ∃ x, f x ∧ x.o = o := by
  have key : ∀ (l : List L4.Fd) (d : List (List UInt8) × List Int), (∀ x ∈ l, f x) → (∀ o ∈ d.2, ∃ x, f x ∧ x.o = o) → ∀ o ∈ (l.foldl stepL d).2, ∃ x, f x ∧ x.o = o := by
    intro l
    induction l with
    | nil => intro d _ hd; exact hd
    | cons a t ih =>
      intro d hl hd
      refine ih (stepL d a) (fun x hx => hl x (List.mem_cons_of_mem _ hx)) (fun o ho => ?_)
      unfold stepL at ho
      split at ho
      · split at ho
        · exact hd o ho
        · rcases List.mem_append.1 ho with ho | ho
          · exact hd o ho
          · exact ⟨a, hl a (by simp), (List.mem_singleton.1 ho).symm⟩
      · rcases List.mem_append.1 ho with ho | ho
        · exact hd o ho
        · exact ⟨a, hl a (by simp), (List.mem_singleton.1 ho).symm⟩
  exact key L.reverse (keys, []) (fun x hx => h x (List.mem_reverse.1 hx)) (fun o ho => by simp at ho)
theorem lastL_len (L : List L4.Fd) (keys : List (List UInt8)) : (lastL L keys).2.length ≤ L.length := by
  have := foldK_len L keys (downF L)
  rw [foldK_all, downF_len] at this
  exact this
theorem stepC_good {N : Nat} {d : List Sg × List (List UInt8) × Nat} {i : Nat} (h : ∀ s ∈ d.1, L5.Good s.b s.n s.L) : ∀ s ∈ (stepC N d i).1, L5.Good s.b s.n s.L := by
  unfold stepC
  split
  · exact h
  · rename_i s hs
    split
    · intro t ht
      rcases List.mem_or_eq_of_mem_set ht with ht | rfl
      · exact h t ht
      · exact keep_good (h s (List.mem_of_getElem? hs)) _
    · exact h
theorem reads_ints {w : World} {base n c : Nat} {A : Option Addr} {l : List Int} (hn : l.length = n) (h : w.ownsRow base 3 1 (.slice A n c) n (rowI l)) : ReadsI w w.heap.size A l := by
  subst hn; exact ReadsI.own h

/-- the rounds' invariant -/
def CInv (w : World) (room g cap : Nat) (P : Option Addr) (ps : List Pl) (L : List Nat) (pre : List (Fin L.length)) (W : World) : Prop :=
  ∃ ps' n ks gone, CMid w W room g cap ps.length P ps ps' n ks gone ∧ (ps'.map (·.s), ks, gone) = foldC L (ps.map (·.s)) pre ∧ n ≤ 64 * pre.length ∧ gone ≤ 64 * pre.length ∧ ∀ s ∈ ps'.map (·.s), L5.Good s.b s.n s.L
theorem cinv_own {w : World} {room g cap : Nat} {P : Option Addr} {ps : List Pl} {L : List Nat} {B : Nat} (hB : w.heap.size + 5 ≤ B) : OwnFrom B (CInv w room g cap P ps L) := fun pre X Y row hs hg hr => by
  obtain ⟨ps', n, ks, gone, h1, h2, h3, h4, h5⟩ := hs
  exact ⟨ps', n, ks, gone, h1.grown hg (fun r e => ⟨by have := (hr r e).1; omega, (hr r e).2⟩), h2, h3, h4, h5⟩

theorem stepC_more {N i : Nat} {a c : List Pl} {p p' : Pl} {ks : List (List UInt8)} {gone : Nat} (hal : a.length = i) (h : i + 1 < N) (hs : p'.s = ⟨p.s.b, p.s.n, keepL p.s.L (lastL p.s.L ks).2⟩) :
    stepC N ((a ++ p :: c).map (·.s), ks, gone) i = ((a ++ p' :: c).map (·.s), (lastL p.s.L ks).1, gone + (p.s.L.length - (keepL p.s.L (lastL p.s.L ks).2).length)) := by
  have hat : ((a ++ p :: c).map (·.s))[i]? = some p.s := by rw [List.getElem?_map, List.getElem?_append_right (by omega), hal, Nat.sub_self]; rfl
  unfold stepC
  rw [hat]
  dsimp only
  rw [if_pos h]
  congr 1
  rw [List.map_append, List.set_append_right _ _ (by rw [List.length_map]; omega), List.length_map, hal, Nat.sub_self, List.map_append]
  simp [hs]
theorem stepC_last {N i : Nat} {a c : List Pl} {p : Pl} {ks : List (List UInt8)} {gone : Nat} (hal : a.length = i) (h : ¬ i + 1 < N) :
    stepC N ((a ++ p :: c).map (·.s), ks, gone) i = ((a ++ p :: c).map (·.s), (lastL p.s.L ks).1, gone) := by
  have hat : ((a ++ p :: c).map (·.s))[i]? = some p.s := by rw [List.getElem?_map, List.getElem?_append_right (by omega), hal, Nat.sub_self]; rfl
  unfold stepC
  rw [hat]
  dsimp only
  rw [if_neg h]
theorem keepseg_is {T : TypeId} {w : World} {g : Nat} {A : Option Addr} {cap : Nat} {base next : Int} {L : List L4.Fd} (X : Option Addr) (s : List Int) (m xc k3 : Nat) (h : Hid (Seg T w g A cap base next L)) (hl : L.length ≤ 64) (ho : Hid (∀ f ∈ L, 0 ≤ f.o ∧ f.o ≤ 1099511627776))
    (hR : Hid (∃ w0, Below w0.heap.size w0 w ∧ ReadsI w0 w0.heap.size X s)) (hm : s.length = m) (hs : m ≤ 1000000) (hwf : Hid (∀ x ∈ s, (Lit.int .i64 x).wf = true)) (hk : L.length - (keepL L s).length = k3) :
    Calls Try.prog 42 #[.pointer (some ⟨g, 0, none⟩), .slice X m xc] w fun e w' => e = .returned (.int .i64 (k3 : Nat)) ∧ Step T w g A base next (keepL L s) w' := by
  subst hm hk
  obtain ⟨w0, hb, hr⟩ := hR.out
  exact keep_is X s xc w0.heap.size L.length h rfl hl ho (Lib.hid (hr.below hb)) hb.size hs hwf
/-- what a round of the loop owes -/
theorem cround {w W w1 w2 w3 W4 : World} {room g cap N B0 pb n n2 n4 : Nat} {ps a c : List Pl} {p p' : Pl} {ks ks2 ks4 : List (List UInt8)} {gone gone2 : Nat} (hB : w.heap.size + 5 ≤ B0) (hpb : pb < w.heap.size)
    (hM : CMid w W room g cap N (some ⟨pb, 0, none⟩) ps (a ++ p :: c) n ks gone) (hb1 : Below W.heap.size W w1) (hon2 : Only [w.heap.size + 2] w1 w2) (hM2 : CMid w w2 room g cap N (some ⟨pb, 0, none⟩) ps (a ++ p :: c) n2 ks2 gone) (hon3 : Only p.bs w2 w3)
    (hM4 : CMid w W4 room g cap N (some ⟨pb, 0, none⟩) ps (a ++ p' :: c) n4 ks4 gone2) (h4 : KeepsFrom B0 w3 W4 ∧ W4.heap[pb]? = w3.heap[pb]?) :
    KeepsFrom B0 W W4 ∧ Keeps ((w.heap.size + 1 + 1 + 1 + 1) :: (blk (some ⟨pb, 0, none⟩)).toList) W W4 := by
  have hz := hM.only.size
  have hz1 := hb1.size
  have hz2 := hon2.size
  have hpm : pb ∈ blocks g (some ⟨pb, 0, none⟩) (a ++ c) := mem_blocks.2 (.inr (.inl rfl))
  refine ⟨((keepsFrom_only (S := []) (Only.ofBelow hb1) (fun k hk => by cases hk)).trans ((keepsFrom_only hon2 (fun k hk => .inl (by rw [List.mem_singleton.1 hk]; omega))).trans (keepsFrom_only hon3 (fun k hk => .inr (hM2.cellsOf k hk))))).trans h4.1, fun k hk => ?_⟩
  rcases List.mem_cons.1 hk with rfl | hk
  · exact hM4.b4.trans hM.b4.symm
  · have : k = pb := by simpa [blk] using hk
    subst this
    exact h4.2.trans ((hon3.block k (by omega) (fun e => hM2.log.apart k e hpm)).trans ((hon2.block k (by omega) (by simp; omega)).trans (hb1.block k (by omega))))

set_option maxRecDepth 100000 in
set_option maxHeartbeats 4000000 in
theorem compact_in {w : World} {room g cap : Nat} {P : Option Addr} {ps : List Pl} (N : Nat) (HL : Hid (PLog w room g P cap ps)) (G : Hid (GoodL room (ps.map (·.s)))) (hN : ps.length = N) (hN1 : N ≤ 1000) :
    CallsIn Fence.wide 8 Try.prog 15 #[.pointer (some ⟨g, 0, none⟩)] w fun e W' => e = .returned (.int .i64 (comp (ps.map (·.s))).2.2) ∧ LStep w room g (blocks g P ps) (comp (ps.map (·.s))).1 W' := by
  subst hN
  have hro : (Fence.wide).round = none := rfl
  have h1 : 1 ≤ 8 := by decide
  have hmm := @run_makeMap Try.prog
  have h0 : 0 < ps.length := by have := G.out.ne; rw [List.length_map] at this; exact this
  obtain ⟨pb, rfl, hpb, hnc, hcells⟩ := HL.out.form h0
  have c1 := HL.out.c1
  have hg := HL.out.lt g (mem_blocks.2 (.inl rfl))
  have HCE := Lib.hid hcells
  clear hcells
  have hB4 : Below w.heap.size w ((((w.alloc (.cells #[.pointer (some ⟨g, 0, none⟩)] 23)).alloc (.cells #[.int .i64 0] 3)).alloc (.map #[] 0)).alloc (.cells #[.map (some (w.heap.size + 1 + 1))] 77)) := (((one_box _).alloc (by simp) _).alloc (by simp; omega) _).alloc (by simp; omega) _
  have cW := keep_cell c1 hB4
  have HB4 := Lib.hid hB4
  clear hB4
  refine callsIn_of_wp_marks Try.func15 rfl trivial ?_ hro
  simp only [Try.ntmps15, List.size_toArray, List.length_cons, List.length_nil, Nat.reduceAdd, Nat.reduceSub, Array.replicate_succ, Array.replicate_zero, List.push_toArray, List.append_toArray, List.nil_append, List.cons_append]
  gi_wp2_with (refine ⟨trivial, ?_⟩; gi_at_call 39; refine (callsIn_wide.2 (backG_any (some ⟨pb, 0, none⟩) ps.length cap _)).mono ?_; rintro e w' ⟨rfl, rfl⟩)
  obtain ⟨W0, hW0⟩ : ∃ W0, ((((w.alloc (.cells #[.pointer (some ⟨g, 0, none⟩)] 23)).alloc (.cells #[.int .i64 0] 3)).alloc (.map #[] 0)).alloc (.cells #[.map (some (w.heap.size + 1 + 1))] 77)).alloc (.cells #[.slice (some ⟨pb, 0, none⟩) ps.length cap] 63) = W0 := ⟨_, rfl⟩
  have bG := Boxed.new w 23 (.pointer (some ⟨g, 0, none⟩))
  have bC := Boxed.new (w.alloc (.cells #[.pointer (some ⟨g, 0, none⟩)] 23)) 3 (.int .i64 0)
  have bMm : IsKeys (((w.alloc (.cells #[.pointer (some ⟨g, 0, none⟩)] 23)).alloc (.cells #[.int .i64 0] 3)).alloc (.map #[] 0)) (w.heap.size + 1 + 1) 0 [] := by
    have := World.ownsMap_made ((w.alloc (.cells #[.pointer (some ⟨g, 0, none⟩)] 23)).alloc (.cells #[.int .i64 0] 3)) Try.prog 9 (unitElem (H := Unit))
    simp only [World.size_alloc] at this
    exact this
  have bM := Boxed.new (((w.alloc (.cells #[.pointer (some ⟨g, 0, none⟩)] 23)).alloc (.cells #[.int .i64 0] 3)).alloc (.map #[] 0)) 77 (.map (some (w.heap.size + 1 + 1)))
  have bS := Boxed.new ((((w.alloc (.cells #[.pointer (some ⟨g, 0, none⟩)] 23)).alloc (.cells #[.int .i64 0] 3)).alloc (.map #[] 0)).alloc (.cells #[.map (some (w.heap.size + 1 + 1))] 77)) 63 (.slice (some ⟨pb, 0, none⟩) ps.length cap)
  simp only [World.size_alloc] at bC bM bS
  have hB0 : Below w.heap.size w W0 := by rw [← hW0]; exact HB4.out.alloc HB4.out.size _
  have hsz : W0.heap.size = w.heap.size + 5 := by rw [← hW0]; simp
  have hM0 : CMid w W0 room g cap ps.length (some ⟨pb, 0, none⟩) ps ps 0 [] 0 := by
    refine ⟨?_, ?_, ?_, ?_, ?_, HL.out.below hB0, rfl, Only.ofBelow hB0, New.refl _ _⟩
    · rw [← hW0]; exact (((bG.alloc _).alloc _).alloc _).alloc _
    · rw [← hW0]; exact ((bC.alloc _).alloc _).alloc _
    · rw [← hW0]; exact bM.alloc _
    · rw [← hW0]; exact bS
    · rw [← hW0]; exact (bMm.alloc _).alloc _
  rw [hW0]
  clear hW0 bG bC bM bMm bS cW
  have hRG : ReadsG W0 w.heap.size (some ⟨pb, 0, none⟩) (ps.map (·.g)) := fun _ => ⟨pb, rfl, hpb, fun i q hq => by
    rw [List.getElem?_map] at hq
    obtain ⟨p, hp, rfl⟩ := Option.map_eq_some_iff.1 hq
    exact keep_cell (HCE.out i p hp) hB0⟩
  have hLL : (ps.map (·.g)).length = ps.length := List.length_map _
  have hinv0 : CInv w room g cap (some ⟨pb, 0, none⟩) ps (ps.map (·.g)) [] W0 := ⟨ps, 0, [], 0, hM0, rfl, by simp, by simp, fun s hs => G.out.good s hs⟩
  refine wpIn_rangeFunc_ownG hro h1 (gf := 58) (lb := #[.pointer (some ⟨w.heap.size + 1 + 1 + 1 + 1, 0, none⟩)]) rfl trivial (enters_of Try.func58 (by kernel_rfl) rfl)
    (backG_stops Fence.wide (8 - 1) trivial hro (by decide) (w.heap.size + 1 + 1 + 1 + 1) w.heap.size ps.length cap (some ⟨pb, 0, none⟩) (ps.map (·.g)) hLL hN1 W0 (by omega) hM0.b4.cell (by omega) hRG) Keeps.trans (keeps_b (w := W0) (fun k hk => by
      rcases List.mem_cons.1 hk with rfl | hk
      · omega
      · have : k = pb := by simpa [blk] using hk
        omega)) (Below.refl _ _) (fun _ => rfl)
    (CInv w room g cap (some ⟨pb, 0, none⟩) ps (ps.map (·.g)))
    (fun _ _ _ => False)
    (cinv_own (by omega))
    (fun _ _ _ _ _ hs _ _ => hs)
    hinv0
    (fun x => { tmps := #[.pointer (some ⟨g, 0, none⟩), .pointer (some ⟨w.heap.size, 0, none⟩), .int .i64 0, .pointer (some ⟨w.heap.size + 1, 0, none⟩), .pointer (some ⟨w.heap.size + 1 + 1 + 1, 0, none⟩), .int .i64 (x.1 : Int), .pointer (some ⟨(ps.map (·.g))[x], 0, none⟩), undef, .map (some (w.heap.size + 1 + 1)), .pointer (some ⟨g, 0, none⟩), .pointer (some ⟨g, 0, none⟩), .pointer (some ⟨g, 1, none⟩), .slice (some ⟨pb, 0, none⟩) ps.length cap, .func (.func 58) #[] #[.pointer (some ⟨w.heap.size + 1 + 1 + 1 + 1, 0, none⟩)], .int .i64 (x.1 : Int), .pointer (some ⟨(ps.map (·.g))[x], 0, none⟩), undef, undef, undef, undef, undef, undef, undef, undef, undef, undef, undef, undef, undef, undef, undef, undef, undef, undef], defers := [] }) ?assign ?body ?done ?stop
  case assign =>
    intro l x W K hK
    gi_wp2
    simpa using hK
  case body =>
    rintro l pre x W ⟨ps', n, ks, gone, hM, hF, hn, hgn, hgood⟩ hlt
    obtain ⟨i, hi⟩ : ∃ i, x.1 = i := ⟨_, rfl⟩
    have hiN : i < ps.length := by have h2 := x.2; rw [hi] at h2; omega
    have hlen := hM.lenEq
    obtain ⟨p, hp⟩ : ∃ p, ps'[i]? = some p := ⟨_, List.getElem?_eq_getElem (by omega)⟩
    have hpg : (ps.map (·.g))[x] = p.g := by
      have h1 : (ps'.map (·.g))[i]? = some p.g := by rw [List.getElem?_map, hp]; rfl
      rw [hM.gs] at h1
      have h2 := (List.getElem?_eq_some_iff.1 h1).2
      subst hi
      exact h2
    have hsplit : ps' = ps'.take i ++ p :: ps'.drop (i + 1) := by
      have h1 := (List.getElem?_eq_some_iff.1 hp)
      rw [← h1.2, ← List.drop_eq_getElem_cons h1.1, List.take_append_drop]
    obtain ⟨a, ha⟩ : ∃ a, ps'.take i = a := ⟨_, rfl⟩
    obtain ⟨c, hc⟩ : ∃ c, ps'.drop (i + 1) = c := ⟨_, rfl⟩
    rw [ha, hc] at hsplit
    have hal : a.length = i := by rw [← ha, List.length_take]; omega
    clear ha hc hp
    subst hsplit
    have hpgood := hgood p.s (by simp)
    have hsn : foldC (ps.map (·.g)) (ps.map (·.s)) (pre ++ [x]) = stepC ps.length ((a ++ p :: c).map (·.s), ks, gone) i := by
      rw [foldC_snoc, ← hF, hi]
      exact congrArg (fun z => stepC z _ i) hLL
    have hat : ((a ++ p :: c).map (·.s))[i]? = some p.s := by rw [List.getElem?_map, List.getElem?_append_right (by omega), hal, Nat.sub_self]; rfl
    have hgs2 := stepC_good (N := ps.length) (d := ((a ++ p :: c).map (·.s), ks, gone)) (i := i) hgood
    have HG2 := Lib.hid hgs2
    have HSN := Lib.hid hsn
    have HAT := Lib.hid hat
    have HAL := Lib.hid hal
    have SP := Lib.hid (hM.log.segs p (by simp))
    have HM := Lib.hid hM
    have HLEN := Lib.hid hpgood.len
    have HSM : Hid (∀ f ∈ p.s.L, f.r.key.size ≤ maxLen) := Lib.hid (fun f hf => by have := hpgood.small f hf; unfold maxLen; omega)
    have HOF : Hid (∀ f ∈ p.s.L, 0 ≤ f.o ∧ f.o ≤ 1099511627776) := Lib.hid (fun f hf => by have := rise_mem hpgood.rise f hf; have := hpgood.b0; have := hpgood.n1; omega)
    have hnn : n ≤ 64000 := by omega
    have hgg : gone ≤ 64000 := by omega
    have cM : W.cell? ⟨w.heap.size + 1 + 1 + 1, 0, none⟩ = some (.map (some (w.heap.size + 1 + 1))) := hM.b3.cell
    have cB : W.cell? ⟨w.heap.size, 0, none⟩ = some (.pointer (some ⟨g, 0, none⟩)) := hM.b1.cell
    have cC := hM.b2.cell
    have e1 : wrap64 ((ps.length : Int) - 1) = (ps.length : Int) - 1 := by simp only [wrap64]; omega
    rw [hpg, hi]
    clear hpg hi hsn hat hal hM hF hgood hgs2 hpgood hlen
    gi_wp2
    gi_region_with (first
      | (refine ⟨trivial, ?_⟩; gi_at_call 40; refine (CallsIn.inRound l (callsIn_wide.2 (last_any w1 A1 p.s.L p.s.L.length cc1 (w.heap.size + 1 + 1) n ks rfl HLEN.out (by omega) O1 HSM KY1))).mono ?_; rintro e w2 ⟨A2, cc2, n2, rfl, ho2, hn2, hk2, hon2⟩)
      | (refine ⟨trivial, ?_⟩; gi_at_call 41; refine (CallsIn.inRound l (callsIn_wide.2 (all_is (Lib.hid (SP.out.below (Below.refl _ _).drew)) HLEN.out))).mono ?_; rintro e w1 ⟨A1, cc1, rfl, ho1, hb1⟩; have O1 : Hid (∃ base, w1.ownsRow base 43 5 (.slice A1 p.s.L.length cc1) p.s.L.length (rowF p.s.L)) := Lib.hid ⟨_, ho1⟩; have cM1 := keep_cell cM ((Below.refl _ _).drew.trans hb1); have HM1 := Lib.hid (HM.out.below ((Below.refl _ _).drew.trans hb1)); have KY1 := Lib.hid HM1.out.keys; clear ho1))
    all_goals
      have hb1' : Below W.heap.size W w1 := (Below.refl _ _).drew.trans hb1
      have HB1 := Lib.hid hb1'
      have HM2 : Hid (CMid w w2 room g cap ps.length (some ⟨pb, 0, none⟩) ps (a ++ p :: c) n2 (lastL p.s.L ks).1 gone) := Lib.hid (HM1.out.keyed hon2 hk2)
      have HON2 := Lib.hid hon2
      have O2 := Lib.hid (reads_ints rfl ho2)
      have hle := lastL_len p.s.L ks
      have HWF : Hid (∀ x ∈ (lastL p.s.L ks).2, (Lit.int .i64 x).wf = true) := Lib.hid (fun o hx => by
        obtain ⟨f, ⟨hf0, hf1⟩, rfl⟩ := lastL_mem (fun f => 0 ≤ f.o ∧ f.o ≤ 1099511627776) p.s.L ks HOF.out o hx
        exact WalkArith.wf_i64 (by omega))
      obtain ⟨m2, hm2⟩ : ∃ m2, (lastL p.s.L ks).2.length = m2 := ⟨_, rfl⟩
      rw [hm2] at hle ⊢
      have HM22 := Lib.hid hm2
      have hm264 : m2 ≤ 64 := Nat.le_trans hle HLEN.out
      have x0 : w2.cell? ⟨w.heap.size, 0, none⟩ = some (.pointer (some ⟨g, 0, none⟩)) := HM2.out.b1.cell
      have x1 : w2.cell? ⟨g, 1, none⟩ = some (.slice (some ⟨pb, 0, none⟩) ps.length cap) := by have := HM2.out.log.c1; rwa [HM2.out.lenEq] at this
      have x2 := HM2.out.b2.cell
      have SP2 := Lib.hid (HM2.out.log.segs p (by simp))
      clear hk2 hon2 ho2 hb1 hb1' hm2 hle cM cB cC cM1
      by_cases hlast : i + 1 < ps.length
      · have t1 : (i : Int) < (ps.length : Int) - 1 := by omega
        obtain ⟨k3, hk3⟩ : ∃ k3, p.s.L.length - (keepL p.s.L (lastL p.s.L ks).2).length = k3 := ⟨_, rfl⟩
        obtain ⟨y, hy⟩ : ∃ y, gone + k3 = y := ⟨_, rfl⟩
        have hk64 : k3 ≤ 64 := by have := HLEN.out; omega
        have u1 : IntKind.i64.wrap ((gone : Int) + (k3 : Int)) = (y : Int) := by rw [IntKind.wrap_i64]; omega
        have HK3 := Lib.hid hk3
        have HY := Lib.hid hy
        clear hk3 hy
        gi_wp2
        gi_region_with (refine ⟨trivial, ?_⟩; gi_at_call 42; refine (CallsIn.inRound l (callsIn_wide.2 (keepseg_is A2 (lastL p.s.L ks).2 m2 cc2 k3 (Lib.hid (SP2.out.below (Below.refl _ _).drew)) HLEN.out HOF (Lib.hid ⟨w2, (Below.refl _ _).drew, O2.out⟩) HM22.out (by omega) HWF HK3.out))).mono ?_; rintro e w3 ⟨rfl, hst⟩; obtain ⟨A3, c3, hM3, hon3⟩ := (HM2.out.below (Below.refl _ _).drew).turned hst; have y2 := hM3.b2.cell; have y3 := hM3.b2.frozen)
        all_goals gi_wp2
        all_goals
          have hM4 := hM3.counted y
          have hpl : (pre ++ [x]).length = pre.length + 1 := by simp
          obtain ⟨r1, r2⟩ := cround (B0 := w.heap.size + 5) (Nat.le_refl _) hpb HM.out HB1.out HON2.out HM2.out ((Only.ofBelow (S := p.bs) (Below.refl _ _).drew).trans hon3 (fun k hk => .inl hk)) hM4 ⟨(KeepsOthers.setCell _ _ _).from _, Below.heap_setCell _ _ _ _ (fun e => by have e' : pb = w.heap.size + 1 := e; omega)⟩
          have hst3 := stepC_more (N := ps.length) (c := c) (gone := gone) (p' := ⟨p.g, A3, c3, ⟨p.s.b, p.s.n, keepL p.s.L (lastL p.s.L ks).2⟩⟩) HAL.out hlast rfl
          rw [HK3.out, HY.out] at hst3
          refine ⟨by first | exact r1 | (rw [hsz]; exact r1), r2, _, n2, _, y, hM4, ?_, by rw [hpl]; omega, by rw [hpl]; have := HY.out; omega, ?_⟩
          · rw [HSN.out, hst3]
          · have := HG2.out; rw [hst3] at this; exact this
      · have t1 : ¬ (i : Int) < (ps.length : Int) - 1 := by omega
        gi_wp2
        have hpl : (pre ++ [x]).length = pre.length + 1 := by simp
        obtain ⟨r1, r2⟩ := cround (p' := p) (B0 := w.heap.size + 5) (Nat.le_refl _) hpb HM.out HB1.out HON2.out HM2.out (Only.refl _ _) HM2.out ⟨KeepsFrom.refl _ _, rfl⟩
        have hst3 := stepC_last (N := ps.length) (c := c) (p := p) (ks := ks) (gone := gone) HAL.out hlast
        refine ⟨by first | exact r1 | (rw [hsz]; exact r1), r2, _, n2, _, gone, HM2.out, ?_, by rw [hpl]; omega, by rw [hpl]; omega, ?_⟩
        · rw [HSN.out, hst3]
        · have := HG2.out; rw [hst3] at this; exact this
  case done =>
    rintro D ys W hD rfl ⟨ps', n, ks, gone, hM, hF, hn, hgn, hgood⟩ hKd
    have cC := hM.b2.cell
    gi_wp2
    refine ⟨by simp, .inl ⟨_, _, rfl, run_takeDeferred hKd, ?_⟩⟩
    rw [foldC_all _ _ (by simp)] at hF
    have hz := hM.only.size
    have hM2 := hM.grown (grownBy_putObj' W D (.deferred none)) (fun r e => by injection e with e; subst e; exact ⟨by omega, _, hKd, rfl⟩)
    refine ⟨_, results_tmp rfl _ _ _, ?_, _, _, ps', hM2.log, ?_, hM2.only, hM2.new⟩
    · rw [← hF]; rfl
    · rw [← hF]
  case stop =>
    rintro D c pre W _ _ h _
    exact h.elim
end Go.Proofs.Ytflcggpeflagiaa.L6
