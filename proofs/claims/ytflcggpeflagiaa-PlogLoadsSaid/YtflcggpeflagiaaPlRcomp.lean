/-
  The document's log: records go whose key comes later.
-/
import Derived.Test.YtflcggpeflagiaaMPlComp
import Derived.Test.YtflcggpeflagiaaPlRapp
namespace Go.Proofs.Ytflcggpeflagiaa.L6
open Go.RowKit
open L3 L4 L5

theorem rowS_set2 (ss : List Sa) (j : Nat) (r : Sa) (A : Option Addr) (c : Nat) (L : List L4.Fd) (h : ss[j]? = some r) : (rowS ss).set (j * 3 + 2) (.slice A L.length c) = rowS (ss.set j ⟨r.b, r.n, A, c, L⟩) := by
  induction ss generalizing j with
  | nil => simp at h
  | cons a t ih =>
    cases j with
    | zero =>
      have e : a = r := by simpa using h
      subst e; rfl
    | succ j =>
      have := ih j (by simpa using h)
      rw [show (j + 1) * 3 + 2 = j * 3 + 2 + 1 + 1 + 1 by omega]
      show Value.int .i64 a.b :: Value.int .i64 a.n :: Value.slice a.A a.L.length a.c :: (rowS t).set (j * 3 + 2) _ = _
      rw [this]; rfl
theorem comp_put {W wr w2 : World} {room kb cap qb i q c1 : Nat} {D : List Nat} {ss' : List Sa} {r : Sa} {A1 : Option Addr} {K : List L4.Fd} (h : RetI W wr room kb D (some ⟨qb, 0, none⟩) cap ss') (hi : ss'[i]? = some r) (hb : Below wr.heap.size wr w2) (ho : w2.ownsRow wr.heap.size 43 5 (.slice A1 q c1) q (rowF K)) (hq : K.length = q) :
    RetI W (w2.setCell ⟨qb, i * 3 + 2, none⟩ (.slice A1 q c1)) room kb D (some ⟨qb, 0, none⟩) cap (ss'.set i ⟨r.b, r.n, A1, c1, K⟩) := by
  subst hq
  have hqb : qb < wr.heap.size := h.log.lt qb (mem_rblocks.2 (.inr (.inl rfl)))
  have hx := own_blkLt ho
  have ho3 := (own_below h.log.own hb).stored (i * 3 + 2) (.slice A1 K.length c1)
  have ho4 := ho3.1
  rw [rowS_set2 ss' i r A1 c1 K hi] at ho4
  have o : Only [qb] wr (w2.setCell ⟨qb, i * 3 + 2, none⟩ (.slice A1 K.length c1)) := (Only.ofBelow (S := [qb]) hb).setCell (p := ⟨qb, i * 3 + 2, none⟩) (.inl (by simp)) _
  refine h.step (h.log.rowed (ss' := ss'.set i ⟨r.b, r.n, A1, c1, K⟩) o (List.length_set ..) rfl ho4 (fun u hu => ?_))
  rcases List.mem_or_eq_of_mem_set hu with e | rfl
  · exact .inl e
  · refine .inr ⟨own_at (own_low ho (Nat.zero_le _)) (fun j e => ?_), fun j e => ⟨(hx j e).1, fun e2 => ?_⟩⟩
    · rw [ownBlock_blk] at e
      have := (hx j e).1
      exact Below.heap_setCell _ _ _ _ (by show j ≠ qb; omega)
    · have q1 := (hx j e).1
      have q2 : qb = j := by injection e2
      omega
theorem own_far {w : World} {base n size qb o : Nat} {E : TypeId} {v u : Value} {xs : List Value} (h : w.ownsRow base E size v n xs) (hb : qb < base) : (w.setCell ⟨qb, o, none⟩ u).ownsRow base E size v n xs := by
  refine own_at h (fun j e => ?_)
  have := (h.lt j e).1
  exact Below.heap_setCell _ _ _ _ (by show j ≠ qb; omega)
theorem nums_round {k q y i : Nat} (hq : q ≤ k) (hk : k ≤ 64) (hy : y ≤ 64 * i) (hi : i ≤ 1000) : ∃ z yz : Nat, k = q + z ∧ y + z = yz ∧ wrap64 ((k : Int) - (q : Int)) = (z : Int) ∧ wrap64 ((y : Int) + (z : Int)) = (yz : Int) ∧ yz ≤ 64 * (i + 1) := by
  refine ⟨k - q, y + (k - q), by omega, rfl, ?_, ?_, by omega⟩ <;> simp only [wrap64] <;> omega
theorem keepD_next {M L : List L4.Fd} {k : Nat} {f : L4.Fd} (h : L[k]? = some f) : (f.r.hk = false ∨ laterB M f.o f.r.key = false → keepD M (L.take (k + 1)) = keepD M (L.take k) ++ [f]) ∧ (f.r.hk = true → laterB M f.o f.r.key = true → keepD M (L.take (k + 1)) = keepD M (L.take k)) := by
  unfold keepD
  rw [List.take_add_one, h, List.filter_append]
  refine ⟨fun hd => ?_, fun h1 h2 => by simp [h1, h2]⟩
  rcases hd with hd | hd <;> simp [hd]
theorem two_row (w : World) (o : Obj) (cs : Array Value) (T : TypeId) : ((w.alloc o).alloc (.cells cs T)).heap[w.heap.size + 1]? = some (.cells cs T (0, 0)) := by
  have := heap_alloc_new (w.alloc o) (.cells cs T)
  simpa using this
/-- what a round of the document's leaves, plain -/
theorem round_plain {room i N y z : Nat} {l l' : List Sg} {ss' : List Sa} {r : Sa} {A1 : Option Addr} {c1 : Nat} {K : List L4.Fd} (G : GoodL room l) (hl : (comp l).1 = l') (hL : l.length = N) (hlt : i + 1 < N) (hs : ss'.map Sa.s = l'.take i ++ l.drop i) (hr : ss'[i]? = some r) (hK : keepD (allL l) r.L = K) (hy : (allL (l.take i)).length = (allL (l'.take i)).length + y) (hz : r.L.length = K.length + z) :
    (ss'.set i ⟨r.b, r.n, A1, c1, K⟩).map Sa.s = l'.take (i + 1) ++ l.drop (i + 1) ∧ (allL (l.take (i + 1))).length = (allL (l'.take (i + 1))).length + (y + z) := by
  subst hl
  have hlen : ((comp l).1.take i).length = i := by rw [List.length_take, comp_len]; omega
  have hli : l[i]? = some r.s := by
    have h1 : (ss'.map Sa.s)[i]? = some r.s := by rw [List.getElem?_map, hr]; rfl
    rw [hs, List.getElem?_append_right (by omega), hlen, Nat.sub_self, List.getElem?_drop, Nat.add_zero] at h1
    exact h1
  have hrd := comp_round G hli (by omega)
  obtain ⟨hlt', hll⟩ := List.getElem?_eq_some_iff.1 hli
  have hdr : l.drop i = r.s :: l.drop (i + 1) := by rw [List.drop_eq_getElem_cons hlt', hll]
  have hK' : keepD (allL l) r.s.L = K := hK
  rw [hK'] at hrd
  constructor
  · rw [List.map_set, hs, hrd, List.set_append_right _ _ (by omega), hlen, Nat.sub_self, hdr]
    simp [Sa.s]
  · rw [hrd, all_app, List.length_append, List.take_add_one, hli, all_app, List.length_append, hy]
    have e1 : (allL (some r.s).toList).length = r.L.length := by simp [allL, Sa.s]
    have e2 : (allL [(⟨r.s.b, r.s.n, K⟩ : Sg)]).length = K.length := by simp [allL]
    rw [e1, e2, hz]
    omega

set_option maxRecDepth 100000 in
set_option maxHeartbeats 8000000 in
theorem rcompact6_is {W : World} {room kb cap : Nat} {Q : Option Addr} {ss : List Sa} (N y' : Nat) (l' : List Sg) (h : Hid (RLog W room kb Q cap ss)) (G : Hid (GoodL room (ss.map Sa.s))) (hN : ss.length = N) (hN1 : N ≤ 1000) (hl : Hid ((comp (ss.map Sa.s)).1 = l')) (hy : Hid ((comp (ss.map Sa.s)).2.2 = y')) :
    Calls Try.prog 16 #[.pointer (some ⟨kb, 0, none⟩)] W fun e W' => e = .returned (.int .i64 (y' : Nat)) ∧ RStep W room kb (rblocks kb Q ss) l' W' := by
  obtain ⟨i0, hi0, hz0, hz1, hz2⟩ := info_parts fdInfo
  have h0 : 0 < N := by have := G.out.ne; rw [List.length_map, hN] at this; exact this
  obtain ⟨qb, rfl, hqb, hnc, -⟩ := h.out.form (by omega)
  obtain ⟨D, hD⟩ : ∃ D, rblocks kb (some ⟨qb, 0, none⟩) ss = D := ⟨_, rfl⟩
  obtain ⟨l, hll⟩ : ∃ l, ss.map Sa.s = l := ⟨_, rfl⟩
  obtain ⟨M, hM⟩ : ∃ M, allS ss = M := ⟨_, rfl⟩
  obtain ⟨m, hm⟩ : ∃ m, M.length = m := ⟨_, rfl⟩
  have hm1 : m ≤ 64000 := by have := allS_len G.out hN (by rw [hM, hm] : (allS ss).length = m); omega
  have HF := Lib.hid (good64 G.out)
  rw [hD]
  have HI : Hid (RetI W W room kb D (some ⟨qb, 0, none⟩) cap ss) := Lib.hid ⟨h.out, Only.refl _ _, fun j hj => .inl (by rw [← hD]; exact hj)⟩
  have HLN : Hid (l.length = N) := Lib.hid (by rw [← hll, List.length_map, hN])
  have HML : Hid (allL l = M) := Lib.hid (by rw [← hll, ← hM]; rfl)
  rw [hll] at G hl hy
  rw [hN] at hnc
  have HN := Lib.hid hN
  have HM := Lib.hid hM
  have HMM := Lib.hid hm
  have HLL := Lib.hid hll
  clear hM hm hN hD hll
  go_enter Try.func16, Try.ntmps16
  go_wp2_with (go_at_call 37; refine (rall6_is N m M h HN.out hN1 HF HM HMM.out).mono ?_; rintro e w1 ⟨AM, cM, rfl, ho1, hb1⟩; have O1 := Lib.hid ho1; have HI1 : Hid (RetI W w1 room kb D (some ⟨qb, 0, none⟩) cap ss) := Lib.hid ⟨HI.out.log.below hb1, Only.ofBelow hb1, HI.out.new⟩; clear ho1 hb1)
  go_loopw [4, 5] (fun v iv wr => ∃ (i y : Nat) (ss' : List Sa), i < N ∧ iv = .int .i64 i ∧ v = .int .i64 y ∧ y ≤ 64 * i ∧ Hid (ss'.map Sa.s = l'.take i ++ l.drop i) ∧ Hid (ss'.length = N) ∧ Hid ((allL (l.take i)).length = (allL (l'.take i)).length + y) ∧ Hid (RetI W wr room kb D (some ⟨qb, 0, none⟩) cap ss') ∧ Hid (wr.ownsRow W.heap.size 43 5 (.slice AM m cM) m (rowF M))) (fun _ iv _ => N - (intOf iv).toNat)
  case atStart => exact ⟨0, 0, ss, h0, rfl, rfl, by omega, Lib.hid (by simpa using HLL.out), HN, Lib.hid (by simp [allL]), HI1, O1⟩
  case round =>
    obtain ⟨i, y, ss', hi, rfl, rfl, hyb, HS, HL, HY, HR, HOM⟩ := hrel
    obtain ⟨wo, rfl⟩ : ∃ x, x = wr := ⟨_, rfl⟩
    have HC1 := Lib.hid HR.out.log.c1
    rw [HL.out] at HC1
    have c1 := HC1.out
    have e1 : wrap64 ((i : Int) + 1) = (i : Int) + 1 := by simp only [wrap64]; omega
    by_cases hlt : i + 1 < N
    · have h1 : (i : Int) + 1 < (N : Int) := by omega
      obtain ⟨⟨b, n, A, c, L⟩, hsg⟩ : ∃ s, ss'[i]? = some s := ⟨_, List.getElem?_eq_getElem (by rw [HL.out]; omega)⟩
      obtain ⟨qx, hqx, _, _, hcells⟩ := HR.out.log.form (by rw [HL.out]; omega)
      have hqx' : qb = qx := by injection hqx with q; injection q
      subst hqx'
      obtain ⟨_, _, d2⟩ := hcells i _ hsg
      have hrec := (HR.out.log.recs _ (List.mem_of_getElem? hsg)).1
      dsimp only at d2 hrec
      obtain ⟨ls, hls⟩ : ∃ ls, L.length = ls := ⟨_, rfl⟩
      rw [hls] at d2 hrec
      have hls64 : ls ≤ 64 := by
        have hli : (⟨b, n, L⟩ : Sg) ∈ l := by
          have h2 : (ss'.map Sa.s)[i]? = some ⟨b, n, L⟩ := by rw [List.getElem?_map, hsg]; rfl
          rw [HS.out, List.getElem?_append_right (by rw [List.length_take]; omega), List.length_take, ← hl.out, comp_len, HLN.out, Nat.min_eq_left (by omega), Nat.sub_self, List.getElem?_drop] at h2
          exact List.mem_of_getElem? h2
        have := (G.out.good _ hli).len
        rw [← hls]; exact this
      have HLS := Lib.hid hls
      have HSG := Lib.hid hsg
      have HREC := Lib.hid hrec
      have HD2 := Lib.hid d2
      have i0' : (0 : Int) ≤ (i : Int) := by omega
      have i1 : (i : Int) < (N : Int) := by omega
      have hqw : qb < wo.heap.size := HR.out.log.lt qb (mem_rblocks.2 (.inr (.inl rfl)))
      have hkw := HR.out.log.kLt
      clear hcells hsg hls hrec hqx
      go_wp2_with fail
      go_loopw [6, 7] (fun v kv wr => ∃ (k q : Nat) (A1 : Option Addr) (c1 : Nat), k ≤ ls ∧ q ≤ k ∧ kv = .int .i64 k ∧ v = .slice A1 q c1 ∧ Hid ((keepD M (L.take k)).length = q) ∧ Hid (wr.ownsRow wo.heap.size 43 5 (.slice A1 q c1) q (rowF (keepD M (L.take k)))) ∧ Below wo.heap.size wo wr) (fun _ kv _ => ls - (intOf kv).toNat)
      case atStart => exact ⟨0, 0, some ⟨wo.heap.size, 0, none⟩, 0, by omega, by omega, rfl, rfl, Lib.hid (by simp [keepD]), Lib.hid (by simpa [keepD, rowF] using World.ownsRow_made (size := 5) wo #[] 0 (Nat.le_refl _) (by unfold maxLen; omega) rfl), one_box _⟩
      case round =>
        obtain ⟨k, q, A1, c3, hk, hq, rfl, rfl, HQL, HO1, hbel⟩ := hrel
        have x1 := (hbel.cell (p := ⟨kb, 1, none⟩) hkw).trans HC1.out
        have x2 := (hbel.cell (p := ⟨qb, i * 3 + 2, none⟩) hqw).trans HD2.out
        by_cases hkl : k < ls
        · obtain ⟨xb, xc, hv, _, hxb⟩ := HREC.out.form (by omega)
          injection hv with e1 _ e3
          subst e1 e3
          obtain ⟨⟨o, ⟨rk, key, tb, val⟩⟩, hf⟩ : ∃ s, L[k]? = some s := ⟨_, List.getElem?_eq_getElem (by rw [HLS.out]; exact hkl)⟩
          obtain ⟨d0, d1, d2', d3, d4⟩ := own_cells (own_below HREC.out hbel) hf
          have hmc := own_cap HREC.out
          obtain ⟨y1, y2⟩ := keepD_next (M := M) hf
          have Y1 := Lib.hid y1
          have Y2 := Lib.hid y2
          have k0 : (0 : Int) ≤ (k : Int) := by omega
          have k1 : (k : Int) < (ls : Int) := by omega
          have hxw : xb < wr.heap.size := Nat.lt_of_lt_of_le hxb hbel.size
          clear hf y1 y2
          dsimp only at d0 d1 d2' d3 d4
          cases rk with
          | false =>
            have HNX := Lib.hid (Y1.out (.inl rfl))
            have HOWN : Hid ((wr.alloc (.cells #[.int .i64 o, .bool false, .string key, .bool tb, .string val] 43)).ownsRow wo.heap.size 43 5 (.slice A1 q c3) q (rowF (keepD M (L.take k)))) := Lib.hid (HO1.out.alloc _)
            have HBL : Hid (Below wo.heap.size wo (wr.alloc (.cells #[.int .i64 o, .bool false, .string key, .bool tb, .string val] 43))) := Lib.hid (hbel.alloc hbel.size _)
            clear Y1 Y2
            go_wp2_with (at_builtin; refine wpList_append_own _ rfl _ _ 36 (by rfl) wo.heap.size 43 i0 _ 5 56 Try.underlying36 hi0 hz0 hz1 hz2 rfl (by omega) _ q _ (by rfl) (HOWN.out.alloc _) ⟨wr.heap.size + 1, 0, none⟩ 1 1 [.int .i64 o, .bool false, .string key, .bool tb, .string val] (by rfl) (by rfl) (World.news_of_block (cs := #[.int .i64 o, .bool false, .string key, .bool tb, .string val]) (t := 43) (fr := (0, 0)) (two_row wr _ _ _)) (by simp [Value.oneCell']) (by unfold maxLen; omega) (by omega) (by have := HBL.out.size; simp at this ⊢; omega) ?_; intro v1 w4 hown1 hgrow1 hnil1)
            obtain ⟨A2, c2, rfl⟩ := own_form hown1
            go_roundw
            case rel =>
              refine ⟨k + 1, q + 1, A2, c2, by omega, by omega, by go_num, rfl, Lib.hid ?_, Lib.hid ?_, (HBL.out.alloc HBL.out.size _).grown hgrow1 (by have := HBL.out.size; simp at this ⊢; omega) (fun j e => (HOWN.out.lt j e).1)⟩
              · rw [HNX.out, List.length_append, HQL.out]; rfl
              · rw [HNX.out, rowF_app]; exact hown1
            case measure => simp [intOf]; omega
          | true =>
            obtain ⟨v, hv⟩ : ∃ v, laterB M o key = v := ⟨_, rfl⟩
            have HV := Lib.hid hv
            cases v with
            | false =>
              have HNX := Lib.hid (Y1.out (.inr hv))
              clear Y1 Y2 hv
              go_upto_region 11 with (go_at_call 43; refine (rlater_is (w := wr.alloc (.cells #[.int .i64 o, .bool true, .string key, .bool tb, .string val] 43)) (base := W.heap.size) AM M m cM o key false (Lib.hid (own_below (own_below HOM.out hbel) (one_box _))) HMM.out hm1 HV).mono ?_; rintro e w5 ⟨rfl, hb5⟩; have HOWN : Hid (w5.ownsRow wo.heap.size 43 5 (.slice A1 q c3) q (rowF (keepD M (L.take k)))) := Lib.hid (own_below (HO1.out.alloc _) hb5); have HBL : Hid (Below wo.heap.size wo w5) := Lib.hid ((hbel.alloc hbel.size _).trans (hb5.mono (by have := hbel.size; simp; omega))); have q0 := hb5.cell (p := ⟨wr.heap.size, 0, none⟩) (by simp); have q1 := hb5.cell (p := ⟨wr.heap.size, 1, none⟩) (by simp); have q2 := hb5.cell (p := ⟨wr.heap.size, 2, none⟩) (by simp); have q3 := hb5.cell (p := ⟨wr.heap.size, 3, none⟩) (by simp); have q4 := hb5.cell (p := ⟨wr.heap.size, 4, none⟩) (by simp); simp at q0 q1 q2 q3 q4)
              go_wp2_with (at_builtin; refine wpList_append_own _ rfl _ _ 36 (by rfl) wo.heap.size 43 i0 _ 5 56 Try.underlying36 hi0 hz0 hz1 hz2 rfl (by omega) _ q _ (by rfl) (HOWN.out.alloc _) ⟨w5.heap.size, 0, none⟩ 1 1 [.int .i64 o, .bool true, .string key, .bool tb, .string val] (by rfl) (by rfl) (World.news_of_block (cs := #[.int .i64 o, .bool true, .string key, .bool tb, .string val]) (t := 43) (fr := (0, 0)) (heap_alloc_new w5 _)) (by simp [Value.oneCell']) (by unfold maxLen; omega) (by omega) (by have := HBL.out.size; simp at this ⊢; omega) ?_; intro v1 w4 hown1 hgrow1 hnil1)
              obtain ⟨A2, c2, rfl⟩ := own_form hown1
              go_roundw
              case rel =>
                refine ⟨k + 1, q + 1, A2, c2, by omega, by omega, by go_num, rfl, Lib.hid ?_, Lib.hid ?_, (HBL.out.alloc HBL.out.size _).grown hgrow1 (by have := HBL.out.size; simp at this ⊢; omega) (fun j e => (HOWN.out.lt j e).1)⟩
                · rw [HNX.out, List.length_append, HQL.out]; rfl
                · rw [HNX.out, rowF_app]; exact hown1
              case measure => simp [intOf]; omega
            | true =>
              have HNX := Lib.hid (Y2.out rfl hv)
              clear Y1 Y2 hv
              go_wp2_with (go_at_call 43; refine (rlater_is (w := wr.alloc (.cells #[.int .i64 o, .bool true, .string key, .bool tb, .string val] 43)) (base := W.heap.size) AM M m cM o key true (Lib.hid (own_below (own_below HOM.out hbel) (one_box _))) HMM.out hm1 HV).mono ?_; rintro e w5 ⟨rfl, hb5⟩)
              go_roundw
              case rel => exact ⟨k + 1, q, A1, c3, by omega, by omega, by go_num, rfl, Lib.hid (by rw [HNX.out]; exact HQL.out), Lib.hid (by rw [HNX.out]; exact own_below (HO1.out.alloc _) hb5), (hbel.alloc hbel.size _).trans (hb5.mono (by have := hbel.size; simp; omega))⟩
              case measure => simp [intOf]; omega
        · obtain rfl : k = ls := by omega
          have e : L.take k = L := List.take_of_length_le (by rw [HLS.out]; omega)
          have hq' := HQL.out
          have ho := HO1.out
          rw [e] at hq' ho
          obtain ⟨z, yz, hz, hyz0, e4, e5, hyz⟩ := nums_round hq hls64 hyb (by omega : i ≤ 1000)
          obtain ⟨p1, p2⟩ := round_plain (A1 := A1) (c1 := c3) (K := keepD M L) G.out hl.out HLN.out hlt HS.out HSG.out (by rw [HML.out]) HY.out (by rw [HLS.out, hq']; exact hz)
          have P1 := Lib.hid p1
          have P2 := Lib.hid p2
          have HNXT := Lib.hid (comp_put HR.out HSG.out hbel ho hq')
          have ho2 := own_below HR.out.log.own hbel
          have z1 := (hbel.block qb hqw)
          have y2 := ho2.frozenAt (i * 3 + 2)
          have HI2 := Lib.hid hlt
          have HL2 : Hid ((ss'.set i ⟨b, n, A1, c3, keepD M L⟩).length = N) := Lib.hid (by rw [List.length_set]; exact HL.out)
          have HOM2 : Hid ((wr.setCell ⟨qb, i * 3 + 2, none⟩ (.slice A1 q c3)).ownsRow W.heap.size 43 5 (.slice AM m cM) m (rowF M)) := Lib.hid (own_far (own_below HOM.out hbel) hqb)
          rw [hyz0] at P2
          have HZ := Lib.hid hz
          clear p1 p2 e hq' ho ho2 z1 hz hyz0 hlt h1 hyb hls64
          go_wp2_with fail
          go_roundw
          case rel => exact ⟨i + 1, yz, _, HI2.out, by go_num, by rw [e5], hyz, P1, HL2, P2, HNXT, HOM2⟩
          case measure => simp [intOf]; omega
    · have hiN : i + 1 = N := by omega
      have h1 : ¬ (i : Int) + 1 < (N : Int) := by omega
      obtain ⟨p1, p2⟩ := comp_all G.out (by rw [HLN.out]; exact hiN.symm)
      rw [hl.out] at p1 p2
      rw [hy.out] at p2
      have HYY : Hid (y = y') := Lib.hid (by
        have h2 : (allL l).length = (allL (l.take i)).length + (allL (l.drop i)).length := by
          conv => lhs; rw [← List.take_append_drop i l, all_app]
          rw [List.length_append]
        have := HY.out
        omega)
      have HSS : Hid (ss'.map Sa.s = l') := Lib.hid (by rw [HS.out, p1])
      clear p1 p2
      go_wp2_with fail
      go_ret
      obtain rfl := HYY.out
      exact ⟨rfl, _, _, ss', HSS.out, HR.out.log, HR.out.only, HR.out.new⟩
end Go.Proofs.Ytflcggpeflagiaa.L6
