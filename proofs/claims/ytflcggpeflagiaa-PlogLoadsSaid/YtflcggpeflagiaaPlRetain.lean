/-
  Contracts: segments that end ahead of an offset are let go.
-/
import Derived.Test.YtflcggpeflagiaaPlRead
namespace Go.Proofs.Ytflcggpeflagiaa.L6
open Go.RowKit
open L3 L4 L5

/-- how many go -/
def retainN (l : List Sg) (a : Int) : Nat := min (ended l a) (l.length - 1)
theorem retain_lt {l : List Sg} (a : Int) (h : 0 < l.length) : retainN l a < l.length := by
  unfold retainN; omega
theorem drop_good {room : Nat} {l : List Sg} (g : GoodL room l) {d : Nat} (h : d < l.length) : GoodL room (l.drop d) := by
  obtain ⟨q, hq⟩ := chained_drop d g.chain
  exact ⟨g.r1, g.r64, by rw [List.length_drop]; omega, fun s hs => g.good s (List.mem_of_mem_drop hs), fun s hs => g.few s (List.mem_of_mem_drop hs), chained_none hq⟩
theorem ptrs_one (ps : List Pl) : ∀ u ∈ ptrs ps, u.oneCell' = true := fun u hu => by
  obtain ⟨p, _, rfl⟩ := List.mem_map.1 hu
  rfl

set_option maxRecDepth 100000 in
set_option maxHeartbeats 1000000 in
theorem cloneptrs_is (g o : Nat) (xs : List Value) (n cap : Nat) (w : World) (hn : xs.length = n) (hl : n ≤ 1000) (hg : g < w.heap.size) (hc : Hid (At w g o xs)) (h1 : Hid (∀ u ∈ xs, u.oneCell' = true)) :
    Calls Try.prog 38 #[.slice (some ⟨g, o, none⟩) n cap] w fun e w' => ∃ A c, e = .returned (.slice A n c) ∧ w'.ownsRow w.heap.size 67 1 (.slice A n c) n xs ∧ Below w.heap.size w w' := by
  obtain ⟨i0, hi0, hz0, hz1, hz2⟩ := info_parts ptrInfo
  have HL : Hid (xs.length = n * 1) := Lib.hid (by rw [hn, Nat.mul_one])
  have HN := Lib.hid hn
  have hq := fun (wx : World) => Lib.run_eql_slice_nil (P := Try.prog) wx 63 67 (some ⟨g, o, none⟩) n cap 0 0 Try.underlying63
  clear hn
  go_enter Try.func38, Try.ntmps38
  go_wp2_with (at_builtin; refine wpList_append_own _ rfl (.tmp 5) (.tmp 6) 63 (by rfl) w.heap.size 67 i0 _ 1 8 Try.underlying63 hi0 hz0 hz1 hz2 rfl (by omega) _ 0 [] (by rfl) (World.ownsRow_made w #[] 0 (Nat.le_refl _) (by unfold maxLen; omega) rfl) ⟨g, o, none⟩ n cap xs (by rfl) HL.out (hc.out.below (one_box _) hg) h1.out (by unfold maxLen; omega) (by omega) (by simp) ?_; intro v1 w1 hown hgrow hnil)
  go_ret
  have hown' : w1.ownsRow w.heap.size 67 1 v1 n xs := by simpa using hown
  obtain ⟨A, c, rfl⟩ := own_form hown'
  exact ⟨A, c, rfl, hown', (one_box _).grown hgrow (by simp) (fun j e => by simp [Value.ownBlock] at e; omega)⟩

theorem PLog.dropped {W W1 : World} {room g cap d n c' : Nat} {P A : Option Addr} {ps : List Pl} (h : PLog W room g P cap ps) (hb : Below W.heap.size W W1) (hn : (ps.drop d).length = n) (ho : W1.ownsRow W.heap.size 67 1 (.slice A n c') n (ptrs (ps.drop d))) :
    PLog (W1.setCell ⟨g, 1, none⟩ (.slice A n c')) room g A c' (ps.drop d) ∧ Only (blocks g P ps) W (W1.setCell ⟨g, 1, none⟩ (.slice A n c')) ∧ New (blocks g P ps) W (blocks g A (ps.drop d)) := by
  subst hn
  have hlt := h.lt
  have hg := hlt g (mem_blocks.2 (.inl rfl))
  have hA : ∀ k, blk A = some k → W.heap.size ≤ k := fun k e => (own_blk ho k e).1
  have hgA : ∀ k, blk A = some k → k ≠ g := fun k e => by have := hA k e; omega
  have hon : Only (blocks g P ps) W (W1.setCell ⟨g, 1, none⟩ (.slice A (ps.drop d).length c')) := (Only.ofBelow hb).setCell (p := ⟨g, 1, none⟩) (.inl (mem_blocks.2 (.inl rfl))) _
  have hon1 : Only [g] W (W1.setCell ⟨g, 1, none⟩ (.slice A (ps.drop d).length c')) := (Only.ofBelow hb).setCell (p := ⟨g, 1, none⟩) (.inl (by simp)) _
  have hnd := h.nodup
  unfold blocks at hnd
  obtain ⟨n1, n2⟩ := List.nodup_cons.1 hnd
  have hsub : (ps.drop d).flatMap Pl.bs <:+ ps.flatMap Pl.bs := ⟨(ps.take d).flatMap Pl.bs, by rw [← List.flatMap_append, List.take_append_drop]⟩
  refine ⟨⟨?_, ?_, fun q hq => ?_, ?_⟩, hon, fun k hk => ?_⟩
  · have hrow := (hb.block g hg).trans h.row
    exact heap_setCell_same W1 g 1 _ _ _ hrow
  · refine own_at (own_low ho (Nat.zero_le _)) (fun k e => Below.heap_setCell _ _ _ _ ?_)
    rw [ownBlock_blk] at e
    exact fun q => hgA k e q
  · have hq' := List.mem_of_mem_drop hq
    have hqg : ∀ k ∈ q.bs, k ∉ [g] := fun k hk hm => n1 (List.mem_append_right _ (List.mem_flatMap.2 ⟨q, hq', by rw [List.mem_singleton.1 hm] at hk; exact hk⟩))
    have hqb := bs_sub (g := g) (P := P) hq'
    exact (h.segs q hq').kept (hon1.block q.g (hlt q.g (hqb q.g (by simp [Pl.bs]))) (hqg q.g (by simp [Pl.bs]))) (fun k e => hon1.block k (hlt k (hqb k (by simp [Pl.bs, e]))) (hqg k (by simp [Pl.bs, e])))
  · unfold blocks
    refine List.nodup_cons.2 ⟨fun hm => ?_, List.nodup_append.2 ⟨by cases A <;> simp [blk], hsub.sublist.nodup (List.nodup_append.1 n2).2.1, fun x hx y hy e => ?_⟩⟩
    · rcases List.mem_append.1 hm with hm | hm
      · exact hgA g (by simpa [Option.mem_toList] using hm) rfl
      · exact n1 (List.mem_append_right _ (hsub.sublist.subset hm))
    · subst e
      have h1 := hA x (by simpa [Option.mem_toList] using hx)
      have h2 := hlt x (by unfold blocks; exact List.mem_cons_of_mem _ (List.mem_append_right _ (hsub.sublist.subset hy)))
      omega
  · rcases mem_blocks.1 hk with rfl | e | ⟨q, hq, e⟩
    · exact .inl (mem_blocks.2 (.inl rfl))
    · exact .inr (hA k e)
    · exact .inl (mem_blocks.2 (.inr (.inr ⟨q, List.mem_of_mem_drop hq, e⟩)))

set_option maxRecDepth 100000 in
set_option maxHeartbeats 4000000 in
theorem retain6_is {W : World} {room g cap : Nat} {P : Option Addr} {ps : List Pl} (a : Int) (N d : Nat) (HL : Hid (PLog W room g P cap ps)) (G : Hid (GoodL room (ps.map (·.s)))) (hN : ps.length = N) (hN1 : N ≤ 1000) (hd : retainN (ps.map (·.s)) a = d) :
    Calls Try.prog 13 #[.pointer (some ⟨g, 0, none⟩), .int .i64 a] W fun e W' => e = .returned (.int .i64 d) ∧ LStep W room g (blocks g P ps) ((ps.map (·.s)).drop d) W' := by
  have h0 : 0 < N := by have := G.out.ne; rw [List.length_map, hN] at this; exact this
  obtain ⟨m, hm⟩ : ∃ m, ended (ps.map (·.s)) a = m := ⟨_, rfl⟩
  have hmN : m ≤ N := by rw [← hm]; have := ended_le (ps.map (·.s)) a; rw [List.length_map, hN] at this; exact this
  obtain ⟨k, hk⟩ : ∃ k, k + 1 = N := ⟨N - 1, by omega⟩
  have hmin : min m k = d := by rw [← hd]; unfold retainN; rw [hm, List.length_map, hN]; congr 1; omega
  have e1 : IntKind.i64.wrap (k : Int) = (k : Int) := by rw [IntKind.wrap_i64]; omega
  have e2 : (N : Int) - 1 = (k : Int) := by omega
  have e3 : min (m : Int) (k : Int) = (d : Int) := by omega
  have hdN : d < N := by omega
  have HM := Lib.hid hm
  have HN := Lib.hid hN
  obtain ⟨pb, rfl, hpb, hnc, hcells⟩ := HL.out.form (by omega)
  rw [hN] at hnc
  have c1 := HL.out.c1
  rw [hN] at c1
  have hg := HL.out.lt g (mem_blocks.2 (.inl rfl))
  clear hN hm hcells hd hmin hk
  go_enter Try.func13, Try.ntmps13
  go_wp2_with fail
  go_region_held3 (fun w' => (w'.cell? ⟨g, 1, none⟩ = some (.slice (some ⟨pb, 0, none⟩) N cap)) ∧ Below W.heap.size W w')
    (first | assumption | exact ⟨c1, (Below.refl _ _).drew⟩ | exact (Below.refl _ _).drew | exact keep_one (by assumption) (by assumption) | exact keep_one (by assumption) ((Below.refl _ _).drew) | exact keep_one (keep_one (by assumption) ((Below.refl _ _).drew)) (by assumption))
    ((go_at_call 34; refine (ended_any a N m (Lib.hid (HL.out.below (by first | assumption | (rename_i hh; exact hh.2) | exact (Below.refl _ _).drew))) G HN.out hN1 HM).mono ?_; rintro e w2 ⟨rfl, hb2⟩))
  rename_i hh
  obtain ⟨d1, hb⟩ := hh
  have HB := Lib.hid hb
  clear c1 e1 e2 e3
  by_cases hd0 : d = 0
  · subst hd0
    clear hb
    go_wp2_with fail
    go_ret
    exact ⟨rfl, _, _, _, HL.out.below HB.out, rfl, Only.ofBelow HB.out, New.refl _ _⟩
  · have q1 : 0 < d := by omega
    have q2 : (0 : Int) < (d : Int) := by omega
    have q3 : (d : Int) ≤ (N : Int) := by omega
    have q4 : d < cap := by omega
    have q5 : ¬ cap = d := by omega
    have q6 : d ≤ N := by omega
    have q7 : (0 : Int) ≤ (d : Int) := by omega
    obtain ⟨r, hr⟩ : ∃ r, N - d = r := ⟨_, rfl⟩
    have hdl : (ps.drop d).length = r := by rw [List.length_drop, HN.out, hr]
    have hAt : At W pb d (ptrs (ps.drop d)) := fun j u hu => by
      have h1 : (ptrs ps)[d + j]? = some u := by
        rw [← List.getElem?_drop]
        have : (ptrs ps).drop d = ptrs (ps.drop d) := by simp [ptrs, List.map_drop]
        rw [this]; exact hu
      have := HL.out.own.cells (g := pb) rfl (d + j) u h1
      rw [addr_add] at this
      rw [Addr.add_lit]
      exact this
    have HAT := Lib.hid hAt
    have HDL := Lib.hid hdl
    have hr1 : r ≤ 1000 := by omega
    have hgz := Nat.lt_of_lt_of_le hg hb.size
    have y1 : ∀ v, W.frozen? ⟨g, v, none⟩ = false := HL.out.froz
    have HFZ := Lib.hid y1
    clear hd0 hb hAt hdl y1
    go_wp2_with (go_at_call 38; (try rw [hr]); refine (cloneptrs_is pb d (ptrs (ps.drop d)) r _ _ (by rw [ptrs_len, HDL.out]) hr1 (Nat.lt_of_lt_of_le hpb HB.out.size) (Lib.hid (HAT.out.below HB.out hpb)) (Lib.hid (ptrs_one _))).mono ?_; rintro e w3 ⟨A3, c3, rfl, ho3, hb3⟩; have O3 := Lib.hid ho3; have z1 := keep_cell d1 hb3; have z2 := (hb3.frozen (p := ⟨g, 1, none⟩) hgz).trans ((HB.out.frozen (p := ⟨g, 1, none⟩) hg).trans (HFZ.out 1)); clear ho3)
    go_ret
    obtain ⟨p1, p2, p3⟩ := (HL.out.below HB.out).dropped hb3 HDL.out O3.out
    refine ⟨rfl, A3, c3, _, p1, by rw [List.map_drop], ?_, fun k hk => ?_⟩
    · exact (Only.ofBelow HB.out : Only (blocks g (some ⟨pb, 0, none⟩) ps) W _).trans p2 (fun k hk => .inl hk)
    · rcases p3 k hk with q | q
      · exact .inl q
      · exact .inr (Nat.le_trans HB.out.size q)
end Go.Proofs.Ytflcggpeflagiaa.L6
