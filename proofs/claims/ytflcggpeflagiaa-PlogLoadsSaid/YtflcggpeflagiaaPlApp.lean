/-
  Contracts: records are put behind all of a log's.
-/
import Derived.Test.YtflcggpeflagiaaMPlLoad
namespace Go.Proofs.Ytflcggpeflagiaa.L6
open Go.RowKit
open L3 L4 L5

theorem reads_only {S : List Nat} {w w' : World} {B : Nat} {X : Option Addr} {l : List R} (r : Reads w B X l) (o : Only S w w') (hX : ∀ k, blk X = some k → k ∉ S) : Reads w' B X l := fun h0 => by
  obtain ⟨x, e, hx, hc⟩ := r h0
  have hk := hX x (by rw [e]; rfl)
  refine ⟨x, e, hx, fun i q hq => ?_⟩
  obtain ⟨c0, c1, c2, c3⟩ := hc i q hq
  exact ⟨o.cell c0 hk, o.cell c1 hk, o.cell c2 hk, o.cell c3 hk⟩
/-- a call turned a log into this one, and nothing else -/
def LStep (W : World) (room g : Nat) (S : List Nat) (l' : List Sg) (W' : World) : Prop := ∃ P' cap' ps', PLog W' room g P' cap' ps' ∧ ps'.map (·.s) = l' ∧ Only S W W' ∧ New S W (blocks g P' ps')
theorem LogAt.turned {w W W' : World} {room g : Nat} {l l' : List Sg} {S : List Nat} (h : LogAt w W room g l S) (s : LStep W room g S l' W') (G : GoodL room l') : Turned w W room g S l' W' := by
  obtain ⟨P', cap', ps', h1, h2, h3, h4⟩ := s
  exact ⟨_, ⟨h.old.trans (h3.below h.old.size h.since), since_new h.since h.old.size h4, G, P', cap', ps', rfl, h2, h1⟩, h3, h4⟩
/-- what Append tells, and leaves -/
def AppP6 (W : World) (room g : Nat) (S : List Nat) (l l' : List Sg) (x : Int) (e : Ending) (W' : World) : Prop :=
  (x ≠ 0 ∧ e = .returned (.tuple #[.int .i64 0, .int .i64 x]) ∧ Below W.heap.size W W') ∨ (x = 0 ∧ e = .returned (.tuple #[.int .i64 (endL l), .int .i64 0]) ∧ LStep W room g S l' W')

set_option maxRecDepth 100000 in
set_option maxHeartbeats 1000000 in
theorem open_q {W : World} {room g cap q : Nat} {P : Option Addr} {ps : List Pl} {p : Pl} (n k : Nat) (h : Hid (PLog (W.drewN q) room g P cap ps)) (hn : ps.length = n) (hk : k + 1 = n) (h1 : n ≤ 1000) (hp : Hid (ps[k]? = some p)) :
    Calls Try.prog 26 #[.pointer (some ⟨g, 0, none⟩)] (W.drewN q) fun e w' => e = .returned (.pointer (some ⟨p.g, 0, none⟩)) ∧ ∃ m, w' = (W.drewN q).drewN m := by
  obtain ⟨b, rfl, hb, hnc, hcells⟩ := h.out.form (by omega)
  have c1 := h.out.c1
  rw [hn] at c1 hnc
  have ck := hcells k p hp.out
  have e1 : wrap64 ((n : Int) - 1) = (k : Int) := by simp only [wrap64]; omega
  have e2 : (n : Int) - 1 = (k : Int) := by omega
  have k0 : (0 : Int) ≤ (k : Int) := by omega
  have k1 : (k : Int) < (n : Int) := by omega
  clear hcells hn hk h
  generalize W.drewN q = W1 at *
  go_enter Try.func26, Try.ntmps26
  go_wp2_with fail
  go_quiet (fail)
  go_wp2_with fail
  go_ret
  exact ⟨rfl, _, rfl⟩

/-- the last one turned -/
theorem last_turned {W W1 W' : World} {room g cap : Nat} {P P1 : Option Addr} {ps i : List Pl} {q : Pl} {l' : List Sg} {n' : Int} {L' : List L4.Fd} (hon : Only (blocks g P ps) W W1) (hnew : New (blocks g P ps) W (blocks g P1 (i ++ [q]))) (h : PLog W1 room g P1 cap (i ++ [q])) (hst : Step 93 W1 q.g q.A q.s.b n' L' W') (hl : i.map (·.s) ++ [⟨q.s.b, n', L'⟩] = l') : LStep W room g (blocks g P ps) l' W' := by
  obtain ⟨A', c', q1, q2, q3⟩ := h.turned hst
  have hbs : ∀ k ∈ q.bs, k ∈ blocks g P1 (i ++ [q]) := bs_sub (by simp)
  refine ⟨P1, cap, _, q1, by simpa using hl, hon.trans q2 (fun k hk => hnew k (hbs k hk)), fun k hk => ?_⟩
  rcases turned_new (s' := ⟨q.s.b, n', L'⟩) (c' := c') q3 k hk with e | e
  · exact hnew k e
  · exact .inr (Nat.le_trans hon.size e)
theorem appE_ok {n : Int} {L : List L4.Fd} {rs : List R} {room : Nat} (h1 : chkL rs = 0) (h2 : L.length + rs.length ≤ room) (h3 : room ≤ 64) (h4 : n + rs.length ≤ 1099511627776) : L5.appE n L.length rs = 0 := by
  unfold L5.appE
  rw [if_neg (by rw [h1]; simp), if_neg (by omega)]
theorem segapp_yes {T : TypeId} {w : World} {g : Nat} {A : Option Addr} {cap : Nat} {base next : Int} {L : List L4.Fd} (X : Option Addr) (rs : List R) (xc B n : Nat) (h : Hid (Seg T w g A cap base next L)) (hl : L.length ≤ 64) (hn0 : 0 ≤ next) (hn1 : next ≤ 1099511627776)
    (hR : Hid (Reads w B X rs)) (hX : Hid (Apart g A X)) (hB : B ≤ w.heap.size) (hn : rs.length = n) (hrl : n ≤ maxLen) (hs : Hid (∀ r ∈ rs, r.key.size ≤ maxLen ∧ r.val.size ≤ maxLen)) (HX : Hid (L5.appE next L.length rs = 0)) :
    Calls Try.prog 29 #[.pointer (some ⟨g, 0, none⟩), .slice X n xc] w fun e w' => e = .returned (.tuple #[.int .i64 next, .int .i64 0]) ∧ Step T w g A base (next + n) (L ++ numbered next rs) w' := by
  subst hn
  refine (append_is X rs xc B 0 h hl hn0 hn1 hR hX hB hrl hs HX).mono ?_
  rintro e W' (⟨hz, _⟩ | ⟨_, he, hs⟩)
  · exact absurd rfl hz
  · exact ⟨he, hs⟩
theorem segnew_yes (b : Int) (w : World) (HX : Hid (newE b = 0)) :
    Calls Try.prog 28 #[.int .i64 b] w fun e w' => ∃ g1 A1 c1, e = .returned (.tuple #[.pointer (some ⟨g1, 0, none⟩), .int .i64 0]) ∧ Fresh 93 w g1 A1 c1 b b [] w' ∧ Below w.heap.size w w' := by
  refine (new_is b 0 w HX).mono ?_
  rintro e W' ⟨h, ⟨hx, _⟩ | ⟨_, g, A, cap, rfl, hf⟩⟩
  · exact absurd rfl hx
  · exact ⟨g, A, cap, rfl, hf, h⟩

/-- a new segment lies apart from all that was -/
theorem new_low {W W3 w4 : World} {g4 c4 : Nat} {A4 : Option Addr} {b n : Int} {L : List L4.Fd} {s : Sg} (hb : Below W.heap.size W W3) (hf : Fresh 93 W3 g4 A4 c4 b n L w4) : ∀ k ∈ (⟨g4, A4, c4, s⟩ : Pl).bs, W.heap.size ≤ k := fun k hk => by
  have hz := hb.size
  rcases List.mem_cons.1 hk with e | e
  · have : k = g4 := e
    have := hf.2.1; omega
  · have := hf.2.2 k (by simpa [Option.mem_toList] using e); omega
theorem new_apart {W W3 w4 : World} {room g cap g4 c4 : Nat} {P A4 : Option Addr} {ps : List Pl} {b n : Int} {L : List L4.Fd} {s : Sg} (h : PLog W room g P cap ps) (hb : Below W.heap.size W W3) (hf : Fresh 93 W3 g4 A4 c4 b n L w4) : ∀ k ∈ (⟨g4, A4, c4, s⟩ : Pl).bs, k ∉ blocks g P ps := fun k hk hm => by
  have := new_low (s := s) hb hf k hk
  have := h.lt k hm
  omega
theorem new_reads {W W3 w4 : World} {B g4 c4 : Nat} {X A4 : Option Addr} {rs : List R} {b n : Int} {L : List L4.Fd} (hR : Reads W B X rs) (hB : B ≤ W.heap.size) (hb : Below W.heap.size W W3) (h0 : 0 < rs.length) (hf : Fresh 93 W3 g4 A4 c4 b n L w4) : Apart g4 A4 X := fun k e => by
  obtain ⟨x, rfl, hx, _⟩ := hR h0
  have hk : x = k := by injection e
  subst hk
  have hz := hb.size
  exact ⟨by have := hf.2.1; omega, fun q => by have := hf.2.2 _ q.symm; omega⟩

set_option maxRecDepth 100000 in
set_option maxHeartbeats 16000000 in
theorem append6_is {W : World} {room g cap : Nat} {P : Option Addr} {ps : List Pl} (X : Option Addr) (rs : List R) (n xc B N : Nat) (x : Int) (HL : Hid (PLog W room g P cap ps)) (G : Hid (GoodL room (ps.map (·.s)))) (hN : ps.length = N) (hN1 : N + 1 ≤ 1000)
    (hR : Hid (Reads W B X rs)) (hX : Hid (∀ k, blk X = some k → k ∉ blocks g P ps)) (hB : B ≤ W.heap.size) (hn : rs.length = n) (hrl : n ≤ maxLen) (hs : Hid (∀ r ∈ rs, r.key.size ≤ maxLen ∧ r.val.size ≤ maxLen)) (HX : Hid (appE room (ps.map (·.s)) rs = x)) :
    Calls Try.prog 8 #[.pointer (some ⟨g, 0, none⟩), .slice X n xc] W (AppP6 W room g (blocks g P ps) (ps.map (·.s)) (appL room rs (ps.map (·.s))) x) := by
  unfold maxLen at hrl
  obtain ⟨i0, hi0, hz0, hz1, hz2⟩ := info_parts ptrInfo
  have h0 : 0 < N := by have := G.out.ne; rw [List.length_map, hN] at this; exact this
  obtain ⟨k, hk1⟩ : ∃ k, k + 1 = N := ⟨N - 1, by omega⟩
  obtain ⟨p, hp⟩ : ∃ p, ps[k]? = some p := ⟨_, List.getElem?_eq_getElem (by omega)⟩
  have hN2 : N ≤ 1000 := by omega
  obtain ⟨x1, hx1⟩ : ∃ x1, endL (ps.map (·.s)) = x1 := ⟨_, rfl⟩
  have hend : p.s.n = x1 := by rw [← hx1, end_at hp (by omega)]
  have hb01 := good_end G.out
  rw [hx1] at hb01
  obtain ⟨e0, e1⟩ := hb01
  obtain ⟨m, hm⟩ : ∃ m, p.s.L.length = m := ⟨_, rfl⟩
  have hpm : p.s ∈ ps.map (·.s) := List.mem_map_of_mem (List.mem_of_getElem? hp)
  have hmr : m ≤ room := by rw [← hm]; exact G.out.few _ hpm
  have hr64 := G.out.r64
  have hr1 := G.out.r1
  have hsplit : ps = ps.take k ++ [p] := by
    have := List.take_append_drop k ps
    rw [List.drop_eq_getElem_cons (by omega), List.drop_of_length_le (by omega)] at this
    rw [← (List.getElem?_eq_some_iff.1 hp).2]; exact this.symm
  have HSP := Lib.hid hsplit
  have SP := Lib.hid (HL.out.segs p (List.mem_of_getElem? hp))
  have HP := Lib.hid hp
  have HN := Lib.hid hN
  have HE := Lib.hid hend
  have HM := Lib.hid hm
  have HX1 := Lib.hid hx1
  have HNR := Lib.hid hn
  have c0 := HL.out.c0
  clear hp hN hend hm hx1 hsplit hpm hn
  go_enter Try.func8, Try.ntmps8
  go_wp2_with fail
  go_loopw [14] (fun i wr => ∃ j : Nat, j ≤ n ∧ i = .int .i64 j ∧ Below W.heap.size W wr ∧ Hid (chkL (rs.drop j) = chkL rs)) (fun i _ => n - (intOf i).toNat)
  case atStart => exact ⟨0, by omega, rfl, Below.refl _ _, Lib.hid (by simp)⟩
  case round =>
    obtain ⟨j, hj, rfl, hbel, hC⟩ := hrel
    by_cases hlt : j < n
    · obtain ⟨b, rfl, hb, hcells⟩ := hR.out (by rw [HNR.out]; omega)
      obtain ⟨⟨rk, key, tb, val⟩, hr⟩ : ∃ s, rs[j]? = some s := ⟨_, List.getElem?_eq_getElem (by rw [HNR.out]; exact hlt)⟩
      obtain ⟨q1, q2⟩ := hs.out _ (List.mem_of_getElem? hr)
      have Q1 := Lib.hid q1
      have Q2 := Lib.hid q2
      obtain ⟨c0', c1, c2, c3⟩ := hcells j _ hr
      have d0 := (hbel.cell (p := ⟨b, j * 4, none⟩) (by show b < _; omega)).trans c0'
      have d1 := (hbel.cell (p := ⟨b, j * 4 + 1, none⟩) (by show b < _; omega)).trans c1
      have d2 := (hbel.cell (p := ⟨b, j * 4 + 2, none⟩) (by show b < _; omega)).trans c2
      have d3 := (hbel.cell (p := ⟨b, j * 4 + 3, none⟩) (by show b < _; omega)).trans c3
      have k0 : (0 : Int) ≤ (j : Int) := by omega
      have k1 : (j : Int) < (n : Int) := by omega
      obtain ⟨y, hy⟩ : ∃ y, chk rk key tb val = y := ⟨_, rfl⟩
      have hnext := chkL_next hr hy
      have HY := Lib.hid hy
      clear c0' c1 c2 c3 hcells hr hy q1 q2
      dsimp only at d0 d1 d2 d3 Q1 Q2
      by_cases hy0 : y = 0
      · subst hy0
        have hC' : Hid (chkL (rs.drop (j + 1)) = chkL rs) := Lib.hid ((hnext.2 rfl).symm.trans hC.out)
        clear hnext
        go_wp2_with (go_at_call 24; refine (check_any _ _ _ _ _ Q1.out Q2.out).mono ?_; rw [HY.out]; rintro e w1 ⟨rfl, hb1⟩)
        go_roundw
        case rel => exact ⟨j + 1, by omega, by go_num, (hbel.alloc hbel.size _).trans (hb1.mono (by simp; exact Nat.le_succ_of_le hbel.size)), hC'⟩
        case measure => simp [intOf]; omega
      · have hy1 : (y != 0) = true := by simpa using hy0
        have hx : x = y := by
          rw [← HX.out]; unfold appE
          rw [← hC.out, hnext.1 hy0, if_pos hy0]
        subst hx
        have HN0 := Lib.hid hy0
        clear hnext hy0
        go_wp2_with (go_at_call 24; refine (check_any _ _ _ _ _ Q1.out Q2.out).mono ?_; rw [HY.out]; rintro e w1 ⟨rfl, hb1⟩)
        go_ret2
        exact .inl ⟨HN0.out, rfl, (hbel.alloc hbel.size _).trans (hb1.mono (by simp; exact Nat.le_succ_of_le hbel.size))⟩
    · obtain rfl : j = n := by omega
      have hc0 : chkL rs = 0 := by have := hC.out; rw [List.drop_of_length_le (by rw [HNR.out]; omega)] at this; exact this.symm
      have hx := HX.out
      unfold appE at hx
      rw [if_neg (by rw [hc0]; simp), HX1.out, HNR.out] at hx
      have HC0 := Lib.hid hc0
      have y0 := (HL.out.below hbel).c0
      clear hc0 hC c0
      by_cases hf1 : room < j
      · rw [if_pos hf1] at hx
        subst hx
        have t1 : (room : Int) < (j : Int) := by omega
        go_wp2_with fail
        go_ret2
        exact .inl ⟨by decide, rfl, hbel⟩
      · rw [if_neg hf1] at hx
        have t1 : ¬ (room : Int) < (j : Int) := by omega
        have w1 : wrap64 (1099511627776 - x1) = 1099511627776 - x1 := by simp only [wrap64]; omega
        by_cases hf2 : 1099511627776 < x1 + (j : Int)
        · rw [if_pos hf2] at hx
          subst hx
          have t2 : 1099511627776 - x1 < (j : Int) := by omega
          go_wp2_with (first
            | (go_at_call 25; have _q := hb1; refine (next_is (Lib.hid (SP.out.below (acc hbel hb1)))).mono ?_; rw [HE.out]; rintro e w2 ⟨rfl, hb2⟩; have hb12 := acc (acc hbel hb1) hb2; have z0 := (HL.out.below hb12).c0)
            | (go_at_call 26; refine (open_is N k (Lib.hid (HL.out.below hbel)) HN.out hk1 hN2 HP).mono ?_; rintro e w1 ⟨rfl, hb1⟩))
          go_ret2
          exact .inl ⟨by decide, rfl, hb12⟩
        · rw [if_neg hf2] at hx
          subst hx
          have t2 : ¬ 1099511627776 - x1 < (j : Int) := by omega
          obtain ⟨d, hd⟩ : ∃ d, m + d = room := ⟨room - m, by omega⟩
          have u1 : IntKind.i64.wrap ((room : Int) - (m : Int)) = (d : Int) := by rw [IntKind.wrap_i64]; omega
          have u2 : (room : Int) - (m : Int) = (d : Int) := by omega
          have HD := Lib.hid hd
          have HF2 := Lib.hid hf2
          clear hd hf2
          by_cases hfull : d < j
          · have v1 : decide ((d : Int) < (j : Int)) = true := decide_eq_true (by omega)
            have v2 : decide (d < j) = true := decide_eq_true hfull
            have NE : Hid (newE x1 = 0) := Lib.hid (by unfold newE; rw [if_pos (by simp [numB]; omega)])
            go_wp2_with (first
              | (go_at_call 25; have _q := hb1; refine (next_is (Lib.hid (SP.out.below (acc hbel hb1)))).mono ?_; rw [HE.out]; rintro e w2 ⟨rfl, hb2⟩; have hb12 := acc (acc hbel hb1) hb2; have z0 := (HL.out.below hb12).c0)
              | (go_at_call 26; refine (open_is N k (Lib.hid (HL.out.below hbel)) HN.out hk1 hN2 HP).mono ?_; rintro e w1 ⟨rfl, hb1⟩))
            go_quiet (first
              | (go_at_call 26; exact Calls.quiet_of (open_q N k (Lib.hid (HL.out.below (drewN_below hb12 _))) HN.out hk1 hN2 HP))
              | (go_at_call 27; exact Calls.quiet_of_same (len6_is (Lib.hid (SP.out.below (drewN_below hb12 _))) HM.out)))
            generalize hW3 : World.drewN w2 _ = W3
            have HB3 : Below W.heap.size W W3 := by rw [← hW3]; exact drewN_below hb12 _
            clear hW3
            go_wp2_with (first
              | (go_at_call 29; have _q := hb6; refine (segapp_yes X rs xc B j (Lib.hid (SQ5.out.below hb6)) (by simp) e0 e1 (Lib.hid (RD5.out.below (hb6.mono BZ5.out))) (Lib.hid (APT.out)) (Nat.le_trans BZ5.out hb6.size) HNR.out (by unfold maxLen; omega) hs (Lib.hid (appE_ok (room := room) HC0.out (by rw [HNR.out]; simp; omega) hr64 (by rw [HNR.out]; have := HF2.out; omega)))).mono ?_; rintro e w7 ⟨rfl, hst⟩)
              | (go_at_call 26; have _q := HA; refine (open_is (N + 1) N (Lib.hid HA.out.1) (by rw [List.length_append, HN.out]; rfl) rfl hN1 HQ).mono ?_; rintro e w6 ⟨rfl, hb6⟩)
              | (at_builtin; have _q := HB4; refine wpList_append_lies _ rfl _ _ 63 (by rfl) 0 67 i0 _ 1 8 Try.underlying63 hi0 hz0 hz1 hz2 rfl (by omega) (.slice P N cap) N (ptrs ps) (by rfl) (HO.out.alloc _) ⟨w4.heap.size, 0, none⟩ 1 1 [.pointer (some ⟨g4, 0, none⟩)] (by rfl) (by rfl) (World.news_of_block (cs := #[.pointer (some ⟨g4, 0, none⟩)]) (t := 67) (fr := (0, 0)) (heap_alloc_new w4 _)) (by simp [Value.oneCell']) (by omega) (by unfold maxLen; omega) (by omega) (Nat.zero_le _) (w4.heap.size + 1) (by simp) ?_; intro gg cc w5 hown hgrow hat hltg; have hrow := (HL.out.below HB4.out).grownRow HN.out hgrow; have y2 := (cell_of_row _ _ 1 _ _ _ hrow).trans rfl; have y3 := frozen_of_row _ _ 1 _ _ hrow; clear hrow; have hadd := PLog.added (p := ⟨g4, A4, c4, ⟨x1, x1, []⟩⟩) HN.out (HL.out.below HB4.out) HF4.out.1 HDJ.out hown hgrow hat; have HA := Lib.hid hadd; have SQ5 := Lib.hid (hadd.1.segs ⟨g4, A4, c4, ⟨x1, x1, []⟩⟩ (by simp)); have RD5 := Lib.hid (reads_only (hR.out.below (HB4.out.mono hB)) hadd.2.1 (fun k e hm => hX.out k e (by unfold blocks; rw [← List.cons_append]; exact List.mem_append_left _ hm))); have BZ5 := Lib.hid (Nat.le_trans (Nat.le_trans hB HB4.out.size) hadd.2.1.size); have HQ : Hid ((ps ++ [(⟨g4, A4, c4, ⟨x1, x1, []⟩⟩ : Pl)])[N]? = some ⟨g4, A4, c4, ⟨x1, x1, []⟩⟩) := Lib.hid (by rw [← HN.out]; simp); clear hadd)
              | (go_at_call 28; refine (segnew_yes x1 W3 NE).mono ?_; rintro e w4 ⟨g4, A4, c4, rfl, hf4, hb4⟩; have HB4 := Lib.hid (acc HB3 hb4); have HF4 := Lib.hid hf4; have HO := Lib.hid ((HL.out.below HB4.out).own); rw [HN.out] at HO; have z1 := (HL.out.below HB4.out).c1; rw [HN.out] at z1; have HDJ : Hid (∀ k ∈ (⟨g4, A4, c4, ⟨x1, x1, []⟩⟩ : Pl).bs, k ∉ blocks g P ps) := Lib.hid (new_apart HL.out HB3 hf4); have APT : Hid (Apart g4 A4 X) := Lib.hid (new_reads hR.out hB HB3 (by rw [HNR.out]; omega) hf4); clear hf4 hb4))
            go_ret2
            refine .inr ⟨rfl, by rw [HX1.out]; rfl, ?_⟩
            have hon := ((Only.ofBelow HB4.out : Only (blocks g P ps) W w4).trans HA.out.2.1 (fun k hk => .inl (by unfold blocks; rw [← List.cons_append]; exact List.mem_append_left _ hk))).trans (Only.ofBelow hb6 : Only [] _ w6) (fun k hk => by cases hk)
            refine last_turned (P1 := some ⟨gg, 0, none⟩) (i := ps) (q := ⟨g4, A4, c4, ⟨x1, x1, []⟩⟩) hon (fun k hk => ?_) (HA.out.1.below hb6) hst ?_
            · rcases added_new HA.out.2.2 k hk with q | q | q
              · exact .inl q
              · exact .inr (new_low HB3 HF4.out k q)
              · exact .inr (Nat.le_trans HB4.out.size q)
            · have hm2 : ps.map (·.s) = (ps.take k).map (·.s) ++ [p.s] := by have h := congrArg (List.map (·.s)) HSP.out; rw [List.map_append] at h; exact h
              rw [hm2, app_snoc, if_pos (by rw [HM.out, HNR.out]; have := HD.out; omega), HE.out, HNR.out]
              rfl
          · have v1 : decide ((d : Int) < (j : Int)) = false := decide_eq_false (by omega)
            have v2 : decide (d < j) = false := decide_eq_false hfull
            go_wp2_with (first
              | (go_at_call 25; have _q := hb1; refine (next_is (Lib.hid (SP.out.below (acc hbel hb1)))).mono ?_; rw [HE.out]; rintro e w2 ⟨rfl, hb2⟩; have hb12 := acc (acc hbel hb1) hb2; have z0 := (HL.out.below hb12).c0)
              | (go_at_call 26; refine (open_is N k (Lib.hid (HL.out.below hbel)) HN.out hk1 hN2 HP).mono ?_; rintro e w1 ⟨rfl, hb1⟩))
            go_quiet (first
              | (go_at_call 26; exact Calls.quiet_of (open_q N k (Lib.hid (HL.out.below (drewN_below hb12 _))) HN.out hk1 hN2 HP))
              | (go_at_call 27; exact Calls.quiet_of_same (len6_is (Lib.hid (SP.out.below (drewN_below hb12 _))) HM.out)))
            generalize hW3 : World.drewN w2 _ = W3
            have HB3 : Below W.heap.size W W3 := by rw [← hW3]; exact drewN_below hb12 _
            clear hW3
            go_wp2_with (first
              | (go_at_call 29; have _q := hb4; refine (segapp_yes X rs xc B j (Lib.hid (SP.out.below (acc HB3 hb4))) (by rw [HM.out]; omega) (by rw [HE.out]; exact e0) (by rw [HE.out]; exact e1) (Lib.hid (hR.out.below ((acc HB3 hb4).mono hB))) (Lib.hid (fun k e => ⟨fun q => hX.out k e (mem_blocks.2 (.inr (.inr ⟨p, List.mem_of_getElem? HP.out, .inl q⟩))), fun q => hX.out k e (mem_blocks.2 (.inr (.inr ⟨p, List.mem_of_getElem? HP.out, .inr q.symm⟩)))⟩)) (Nat.le_trans hB (acc HB3 hb4).size) HNR.out (by unfold maxLen; omega) hs (Lib.hid (appE_ok (room := room) HC0.out (by rw [HM.out, HNR.out]; have := HD.out; omega) hr64 (by rw [HE.out, HNR.out]; have := HF2.out; omega)))).mono ?_; rintro e w5 ⟨rfl, hst⟩)
              | (go_at_call 26; refine (open_is N k (Lib.hid (HL.out.below HB3)) HN.out hk1 hN2 HP).mono ?_; rintro e w4 ⟨rfl, hb4⟩))
            go_ret2
            refine .inr ⟨rfl, by rw [HX1.out, HE.out]; rfl, ?_⟩
            have hb34 := acc HB3 hb4
            refine last_turned (P1 := P) (i := ps.take k) (q := p) (Only.ofBelow hb34) (by rw [← HSP.out]; exact New.refl _ _) (by rw [← HSP.out]; exact HL.out.below hb34) hst ?_
            have hm2 : ps.map (·.s) = (ps.take k).map (·.s) ++ [p.s] := by have h := congrArg (List.map (·.s)) HSP.out; rw [List.map_append] at h; exact h
            rw [hm2, app_snoc, if_neg (by rw [HM.out, HNR.out]; have := HD.out; omega), HNR.out]
end Go.Proofs.Ytflcggpeflagiaa.L6
