/-
  Proved: no segment has more records than there is room; a batch stands in one segment; each segment begins where the one ahead of it ends (of at most 40 batches). No condition.
-/
import Derived.Test.YtpagoeoilkbmjaaRows
import Derived.WalkKit
import Derived.ProofKit
import Derived.OpenShut
import Derived.ShutString
import Derived.ChangeOld
import Derived.Below
import Derived.Test.YtpagoeoilkbmjaaPlFixed
import Derived.Deep.QuietTactic
import Derived.BigQuiet
import Derived.LoopTactic
namespace Go.Proofs.Ytpagoeoilkbmjaa.plogRolls
open Go.ChangeShapes Go.WideShapes Go.ChangeAt Go.RowKit
open Go.ChangeMaps (open_string shut_string)
open L3 L4 L5 L6

theorem own : ownKnob Try.prog.godebug = none := by kernel_rfl
theorem laidOut : laidOutB Try.prog = true := by kernel_rfl


theorem mask15 (x : Int) : 0 ≤ bits .and .i64 x 15 ∧ bits .and .i64 x 15 ≤ 15 := by
  have e : (BitVec.ofInt 64 x &&& BitVec.ofInt 64 15).toNat ≤ 15 := by
    rw [BitVec.toNat_and]
    exact Nat.le_trans Nat.and_le_right (by decide)
  show 0 ≤ IntKind.i64.wrap ((BitVec.ofInt 64 x &&& BitVec.ofInt 64 15).toNat : Int) ∧ IntKind.i64.wrap ((BitVec.ofInt 64 x &&& BitVec.ofInt 64 15).toNat : Int) ≤ 15
  rw [IntKind.wrap_i64]
  omega
theorem mask16 (x : Int) : 0 ≤ bits .and .i64 x 65535 ∧ bits .and .i64 x 65535 ≤ 65535 := by
  have e : (BitVec.ofInt 64 x &&& BitVec.ofInt 64 65535).toNat ≤ 65535 := by
    rw [BitVec.toNat_and]
    exact Nat.le_trans Nat.and_le_right (by decide)
  show 0 ≤ IntKind.i64.wrap ((BitVec.ofInt 64 x &&& BitVec.ofInt 64 65535).toNat : Int) ∧ IntKind.i64.wrap ((BitVec.ofInt 64 x &&& BitVec.ofInt 64 65535).toNat : Int) ≤ 65535
  rw [IntKind.wrap_i64]
  omega
def kv : R := rkv 107 118
def reps (k : Nat) : List R := List.replicate k kv
theorem reps_len (k : Nat) : (reps k).length = k := List.length_replicate
theorem reps_next (k : Nat) : rowOf (reps k) ++ [.bool true, .string ⟨#[107]⟩, .bool false, .string ⟨#[118]⟩] = rowOf (reps (k + 1)) := by
  unfold reps
  rw [List.replicate_succ', rowOf_app]
  rfl
theorem reps_chk : ∀ k : Nat, chkL (reps k) = 0
  | 0 => rfl
  | k + 1 => by
    have h : kv.chk = 0 := by decide
    show (if kv.chk ≠ 0 then kv.chk else chkL (reps k)) = 0
    rw [if_neg (by rw [h]; simp)]
    exact reps_chk k
theorem reps_small (k : Nat) : ∀ r ∈ reps k, r.key.size ≤ maxLen ∧ r.val.size ≤ maxLen := fun r hr => by
  rw [List.eq_of_mem_replicate hr]; decide
theorem app_end (room : Nat) (rs : List R) {l : List Sg} (h : 0 < l.length) : endL (appL room rs l) = endL l + rs.length := by
  obtain ⟨i, s, rfl⟩ := last_split h
  rw [app_snoc, end_snoc]
  split
  · rw [end_snoc]
  · rw [end_snoc]
theorem app_start (room : Nat) (rs : List R) {l : List Sg} (h : 0 < l.length) : startL (appL room rs l) = startL l := by
  obtain ⟨i, s, rfl⟩ := last_split h
  rw [app_snoc]
  split
  · exact start_snoc i s _
  · cases i <;> rfl
/-- the last one, behind an append -/
theorem app_last {room : Nat} {rs : List R} {l : List Sg} (g : GoodL room l) {s : Sg} (h : (appL room rs l)[(appL room rs l).length - 1]? = some s) : s.b ≤ endL l ∧ s.n = endL l + rs.length := by
  refine ⟨?_, by rw [← end_is h]; exact app_end room rs g.ne⟩
  obtain ⟨i, t, rfl⟩ := last_split g.ne
  have gt := g.good t (by simp)
  rw [end_snoc]
  rw [app_snoc] at h
  split at h
  · rw [List.length_append, List.length_singleton, Nat.add_sub_cancel, List.getElem?_append_right (Nat.le_refl _), Nat.sub_self] at h
    have e : (⟨t.n, t.n + rs.length, numbered t.n rs⟩ : Sg) = s := by simpa using h
    rw [← e]; exact Int.le_refl _
  · rw [List.length_append, List.length_singleton, Nat.add_sub_cancel, List.getElem?_append_right (Nat.le_refl _), Nat.sub_self] at h
    have e : (⟨t.b, t.n + rs.length, t.L ++ numbered t.n rs⟩ : Sg) = s := by simpa using h
    rw [← e]; exact gt.bn
/-- a segment that was told -/
theorem chained_at : ∀ {q : Option Int} {l : List Sg} {i : Nat} {s t : Sg}, chained q l → l[i]? = some s → l[i + 1]? = some t → t.b = s.n
  | _, [], i, s, t, _, h, _ => by simp at h
  | q, a :: l, 0, s, t, hc, hs, ht => by
    have ea : a = s := by simpa using hs
    subst ea
    cases l with
    | nil => simp at ht
    | cons c l =>
      have ec : c = t := by simpa using ht
      subst ec
      exact hc.2.1 _ rfl
  | q, a :: l, i + 1, s, t, hc, hs, ht => chained_at (i := i) hc.2 (by simpa using hs) (by simpa using ht)
theorem told {W : World} {B : Nat} {X : Option Addr} {ll : List Sa} {l : List Sg} {i : Nat} (hr : ReadsS W B X ll) (hl : ll.map Sa.s = l) (hi : i < l.length) : ∃ xb sb sn sA sc sL, X = some ⟨xb, 0, none⟩ ∧ xb < B ∧ l[i]? = some ⟨sb, sn, sL⟩ ∧ W.cell? ⟨xb, i * 3, none⟩ = some (.int .i64 sb) ∧ W.cell? ⟨xb, i * 3 + 1, none⟩ = some (.int .i64 sn) ∧ W.cell? ⟨xb, i * 3 + 2, none⟩ = some (.slice sA sL.length sc) := by
  have hlen : ll.length = l.length := by rw [← hl, List.length_map]
  obtain ⟨xb, e, hb, hc⟩ := hr.1 (by omega)
  obtain ⟨⟨sb, sn, sA, sc, sL⟩, hs⟩ : ∃ s, ll[i]? = some s := ⟨_, List.getElem?_eq_getElem (by omega)⟩
  obtain ⟨q0, q1, q2⟩ := hc i _ hs
  exact ⟨xb, sb, sn, sA, sc, sL, e, hb, by rw [← hl, List.getElem?_map, hs]; rfl, q0, q1, q2⟩

theorem reps_own {w : World} {base : Nat} {T : TypeId} {A : Option Addr} {m c : Nat} (h : w.ownsRow base T 4 (.slice A m c) m (rowOf (reps m))) : Reads w w.heap.size A (reps m) := by
  have e := reps_len m
  have h2 : w.ownsRow base T 4 (.slice A (reps m).length c) (reps m).length (rowOf (reps m)) := by rw [e]; exact h
  exact Reads.own h2

set_option maxRecDepth 100000 in
set_option maxHeartbeats 16000000 in
theorem walk (w : World) (a0 : Int) (_ : (Lit.int .i64 a0).wf = true) (A1 : Option Addr) (l1 : List Int) (c1 : Nat) (R1 : IsNums w A1 l1 ∧ l1.length ≤ c1) :
    Calls Try.prog 9 #[.int .i64 a0, .slice A1 l1.length c1] w fun e w' => e = .returned (.bool true) ∧ Below w.heap.size w w' := by
  obtain ⟨i0, hi0, hz0, hz1, hz2⟩ := info_parts recInfo
  obtain ⟨b, hbm⟩ : ∃ b, bits .and .i64 a0 15 = b := ⟨_, rfl⟩
  have hb := mask15 a0
  rw [hbm] at hb
  obtain ⟨rm, hrm⟩ : ∃ rm : Nat, 1 + b = (rm : Int) := ⟨(1 + b).toNat, by omega⟩
  have rm1 : 1 ≤ rm := by omega
  have rm16 : rm ≤ 16 := by omega
  obtain ⟨n, hn⟩ : ∃ n, l1.length = n := ⟨_, rfl⟩
  obtain ⟨⟨HNUM, HWF, hnm⟩, hnc⟩ := R1
  rw [hn] at hnm hnc ⊢
  unfold maxLen at hnm
  have HN := Lib.hid hn
  have NE : Hid (newE6 (rm : Int) = 0) := Lib.hid (by unfold newE6; rw [if_neg (by omega)])
  clear hn hb
  go_enter Try.func9, Try.ntmps9
  go_wp2_with (go_at_call 25; refine (m6_new rm w w (Lib.hid (Below.refl _ _)) NE).mono ?_; rintro e w1 ⟨g, S1, rfl, hm1, _, _⟩; have M1 := Lib.hid hm1; clear hm1)
  clear hbm hrm
  go_loopw [8] (fun i wr => ∃ (j : Nat) (S : List Nat) (l : List Sg), j ≤ 40 ∧ i = .int .i64 j ∧ Hid (LogAt w wr rm g l S) ∧ l.length ≤ j + 1 ∧ endL l ≤ 16 * (j : Int) ∧ Hid (startL l = 0)) (fun i _ => 40 - (intOf i).toNat)
  case atStart => exact ⟨0, S1, [sg0], by omega, rfl, M1, by decide, by decide, Lib.hid rfl⟩
  case round =>
    obtain ⟨j, S, l, hj, rfl, HL, hlen, hend, HST⟩ := hrel
    have hold := HL.out.old
    by_cases hlt : j < n ∧ j < 40
    · obtain ⟨h1, h2⟩ := hlt
      obtain ⟨og, oo, rfl, hog, hcells⟩ := HNUM.out.reads (by rw [HN.out]; omega)
      obtain ⟨x0, hx0⟩ : ∃ x, l1[j]? = some x := ⟨_, List.getElem?_eq_getElem (by rw [HN.out]; exact h1)⟩
      have d0 := (hold.cell (p := ⟨og, oo + j, none⟩) hog).trans (hcells j x0 hx0)
      obtain ⟨y, hy⟩ : ∃ y, bits .and .i64 x0 65535 = y := ⟨_, rfl⟩
      have hyb := mask16 x0
      rw [hy] at hyb
      obtain ⟨q, hq⟩ : ∃ q : Nat, y % (rm : Int) = (q : Int) := ⟨(y % (rm : Int)).toNat, by have := Int.emod_nonneg y (show (rm : Int) ≠ 0 by omega); omega⟩
      have hq1 : q < rm := by have := Int.emod_lt_of_pos y (show (0 : Int) < (rm : Int) by omega); omega
      have eq1 : y.tmod (rm : Int) = (q : Int) := by rw [Int.tmod_eq_emod_of_nonneg hyb.1]; exact hq
      have eq2 : wrap64 (y.tmod (rm : Int)) = (q : Int) := by rw [eq1]; simp only [wrap64]; omega
      have rm0 : ((rm : Int) == 0) = false := by simp; omega
      have rmp : (0 : Int) < (rm : Int) := by omega
      obtain ⟨k, hk⟩ : ∃ k, 1 + q = k := ⟨_, rfl⟩
      have ek : 1 + (q : Int) = (k : Int) := by omega
      have k1 : 1 ≤ k := by omega
      have krm : k ≤ rm := by omega
      have j0 : (0 : Int) ≤ (j : Int) := by omega
      have j1 : (j : Int) < (n : Int) := by omega
      have j2 : (j : Int) < 40 := by omega
      obtain ⟨hyb0, hyb1⟩ := hyb
      clear hcells hx0 hk hold
      go_wp2_with fail
      obtain ⟨wo, hwo⟩ : ∃ wo, wo = wr := ⟨_, rfl⟩
      rw [← hwo] at HL ⊢
      clear eq1 eq2 hq hy d0 ek rm0 rmp hwo
      go_loopw [10, 11] (fun v i wi => ∃ (t : Nat) (A : Option Addr) (c : Nat), t ≤ k ∧ i = .int .i64 t ∧ v = .slice A t c ∧ Hid (wi.ownsRow wo.heap.size 41 4 (.slice A t c) t (rowOf (reps t))) ∧ Below wo.heap.size wo wi) (fun _ i _ => k - (intOf i).toNat)
      case atStart => exact ⟨0, some ⟨wo.heap.size, 0, none⟩, 0, by omega, rfl, rfl, Lib.hid (by simpa [reps, rowOf] using World.ownsRow_made (size := 4) wo #[] 0 (Nat.le_refl _) (by unfold maxLen; omega) rfl), one_box _⟩
      case round =>
        obtain ⟨t, A, c, ht, rfl, rfl, HO, hbi⟩ := hrel
        by_cases htk : t < k
        · go_wp2_with (first
            | (at_builtin; have _q := hb2; refine wpList_append_own _ rfl _ _ 30 (by rfl) wo.heap.size 41 i0 _ 4 48 Try.underlying30 hi0 hz0 hz1 hz2 rfl (by omega) _ t _ (by rfl) (O2.out.alloc _) ⟨w2.heap.size, 0, none⟩ 1 1 [.bool true, .string ⟨#[107]⟩, .bool false, .string ⟨#[118]⟩] (by rfl) (by rfl) (World.news_of_block (cs := #[.bool true, .string ⟨#[107]⟩, .bool false, .string ⟨#[118]⟩]) (t := 41) (fr := (0, 0)) (heap_alloc_new w2 _)) (by simp [Value.oneCell']) (by unfold maxLen; omega) (by omega) (by simp; have := hbi.size; have := hb2.size; omega) ?_; intro v3 w3 hown3 hgrow3 _)
            | (go_at_call 36; refine (key_any ⟨#[107]⟩ ⟨#[118]⟩ _).mono ?_; rintro e w2 ⟨rfl, hb2⟩; have O2 := Lib.hid (own_below HO.out hb2)))
          obtain ⟨A3, c3, rfl⟩ := own_form hown3
          go_roundw
          case rel => exact ⟨t + 1, A3, c3, by omega, by go_num, rfl, Lib.hid (by rw [← reps_next]; exact hown3), ((acc hbi hb2).alloc (by have := hbi.size; have := hb2.size; omega) _).grown hgrow3 (by simp; have := hbi.size; have := hb2.size; omega) (fun z e => (HO.out.lt z e).1)⟩
          case measure => simp [intOf]; omega
        · obtain rfl : t = k := by omega
          obtain ⟨l', hl'⟩ : ∃ l', appL rm (reps t) l = l' := ⟨_, rfl⟩
          obtain ⟨n', hn'⟩ : ∃ n', l'.length = n' := ⟨_, rfl⟩
          obtain ⟨e0, he0⟩ : ∃ e0, endL l = e0 := ⟨_, rfl⟩
          have hge := good_end HL.out.good
          have AE : L6.appE rm l (reps t) = 0 := by
            unfold L6.appE
            rw [if_neg (by rw [reps_chk]; simp), if_neg (by rw [reps_len]; omega), if_neg (by rw [reps_len]; omega)]
          have G2 := L6.app_good HL.out.good AE
          have hln := app_len rm (reps t) l
          rw [hl'] at G2 hln
          rw [hn'] at hln
          have hn0 : 0 < n' := by rw [← hn']; exact G2.ne
          obtain ⟨⟨sb, sn, sL⟩, hs⟩ : ∃ s, l'[n' - 1]? = some s := ⟨_, List.getElem?_eq_getElem (by omega)⟩
          have hlast := app_last HL.out.good (rs := reps t) (s := ⟨sb, sn, sL⟩) (by rw [hl', hn']; exact hs)
          have hfew := G2.few _ (List.mem_of_getElem? hs)
          have hst2 := app_start rm (reps t) HL.out.good.ne
          have hend2 := app_end rm (reps t) HL.out.good.ne
          rw [he0] at hlast hge hend hend2
          rw [reps_len] at hlast hend2
          rw [hl'] at hst2 hend2
          dsimp only at hlast hfew
          obtain ⟨sm, hsm⟩ : ∃ sm, sL.length = sm := ⟨_, rfl⟩
          rw [hsm] at hfew
          have HAE := Lib.hid AE
          have HL' := Lib.hid hl'
          have HE0 := Lib.hid he0
          have HN' := Lib.hid hn'
          have HS := Lib.hid hs
          have HSM := Lib.hid hsm
          have HST2 : Hid (startL l' = 0) := Lib.hid (hst2.trans HST.out)
          have HED2 : Hid (endL l' ≤ 16 * ((j + 1 : Nat) : Int)) := Lib.hid (by rw [hend2]; omega)
          obtain ⟨hl1, hl2⟩ := hlast
          have f1 : ¬ e0 < sb := by omega
          have f2 : wrap64 (e0 + (t : Int)) = e0 + (t : Int) := by simp only [wrap64]; omega
          have f3 : (sn == e0 + (t : Int)) = true := by simp [hl2]
          have f3' : (sn != e0 + (t : Int)) = false := by simp [hl2]
          have f4 : ¬ (rm : Int) < (sm : Int) := by omega
          have g1 : wrap64 ((n' : Int) - 1) = ((n' - 1 : Nat) : Int) := by simp only [wrap64]; omega
          obtain ⟨n1, hn1⟩ : ∃ n1, n' - 1 = n1 := ⟨_, rfl⟩
          have HN1 := Lib.hid hn1
          rw [hn1] at g1
          have g2 : (n' : Int) - 1 = (n1 : Int) := by omega
          have g3 : (0 : Int) ≤ (n1 : Int) := by omega
          have g4 : (n1 : Int) < (n' : Int) := by omega
          have g5 : ((n' : Int) == 0) = false := by simp; omega
          have hl41 : n' ≤ 42 := by omega
          clear AE G2 hl' hn' he0 hs hsm hst2 hend2 hn1 hl2 hge
          go_wp2_with (first
            | (go_at_call 42; have _q := ML4; refine (m6_segs ML4 (by rw [HN'.out]; omega) n' HN'.out).mono ?_; rintro e w5 ⟨X5, c5, ll, rfl, hnc5, hll, hrs, _, _, hb5⟩; have M5 := Lib.hid (ML4.out.below hb5); obtain ⟨xb, sb', sn', sA', sc', sL', e1, hxb, hs', q0, q1, q2⟩ := told hrs hll (by rw [HN'.out]; omega : n1 < l'.length); subst e1; rw [← HN1.out, HS.out] at hs'; injection hs' with hs'; injection hs' with s1 s2 s3; subst s1 s2 s3; rw [HSM.out] at q2; clear hll hrs)
            | (go_at_call 27; refine (m6_append (Lib.hid (HL.out.below hbi)) (by omega) A (reps t) t c wr.heap.size (Lib.hid (reps_own HO.out)) (Lib.hid (fun z e hm => by have := (own_blk HO.out z e).1; have := HL.out.lt z hm; omega)) (Nat.le_refl _) (reps_len t) (by unfold maxLen; omega) (Lib.hid (reps_small t)) HAE).mono ?_; rw [HE0.out, HL'.out]; rintro e w4 ⟨rfl, S4, hm4, _, _⟩; have ML4 := Lib.hid hm4; clear hm4))
          go_roundw
          case rel => exact ⟨j + 1, S4, l', by omega, by go_num, Lib.hid (M5.out.below (one_box _)), by rw [HN'.out]; omega, HED2.out, HST2⟩
          case measure => simp [intOf]; omega
    · have hd : n ≤ j ∨ (j < n ∧ 40 ≤ j) := by omega
      rcases hd with hd | ⟨hd1, hd2⟩
      · obtain ⟨n', hn'⟩ : ∃ n', l.length = n' := ⟨_, rfl⟩
        have HN' := Lib.hid hn'
        have hn41 : n' ≤ 41 := by omega
        clear hn'
        go_wp2_with (go_at_call 42; refine (m6_segs HL (by rw [HN'.out]; omega) n' HN'.out).mono ?_; rintro e w2 ⟨X2, c2, ll, rfl, hnc2, hll, hrs, _, _, hb2⟩; have HLL := Lib.hid hll; have HRS := Lib.hid hrs; have MB := Lib.hid (HL.out.below hb2); clear hll hrs)
        go_loopw [17] (fun i wi => ∃ t : Nat, t ≤ n' ∧ i = .int .i64 t ∧ Below w2.heap.size w2 wi) (fun i _ => n' - (intOf i).toNat)
        case atStart => exact ⟨0, by omega, rfl, Below.refl _ _⟩
        case round =>
          obtain ⟨t, ht, rfl, hbi⟩ := hrel
          by_cases htn : t < n'
          · obtain ⟨xb, sb, sn, sA, sc, sL, rfl, hxb, hs, q0, q1, q2⟩ := told (HRS.out.below hbi) HLL.out (by rw [HN'.out]; exact htn)
            have hfew := HL.out.good.few _ (List.mem_of_getElem? hs)
            dsimp only at hfew
            obtain ⟨sm, hsm⟩ : ∃ sm, sL.length = sm := ⟨_, rfl⟩
            rw [hsm] at hfew q2
            have f1 : decide ((rm : Int) < (sm : Int)) = false := decide_eq_false (by omega)
            have f2 : decide (rm < sm) = false := decide_eq_false (by omega)
            have t0 : (0 : Int) ≤ (t : Int) := by omega
            have t1 : (t : Int) < (n' : Int) := by omega
            clear hsm hfew
            by_cases ht0 : t = 0
            · have hsb : sb = 0 := by
                have := HST.out
                rw [ht0] at hs
                rw [start_is hs] at this
                exact this
              have u1 : decide ((0 : Int) < (t : Int)) = false := decide_eq_false (by omega)
              have u2 : decide (0 < t) = false := decide_eq_false (by omega)
              have u3 : ((t : Int) == 0) = true := by simp [ht0]
              have u4 : (sb == 0) = true := by simp [hsb]
              have u5 : (sb != 0) = false := by simp [hsb]
              clear ht0 hsb hs
              go_wp2_with fail
              go_quiet (fail)
              go_wp2_with fail
              go_roundw
              case rel => exact ⟨t + 1, by omega, by go_num, drewN_below hbi _⟩
              case measure => simp [intOf]; omega
            · obtain ⟨q, hq⟩ : ∃ q, t = q + 1 := ⟨t - 1, by omega⟩
              obtain ⟨xb', pb, pn, pA, pc, pL, e1, _, hp, _, p1, _⟩ := told (HRS.out.below hbi) HLL.out (by rw [HN'.out]; omega : q < l.length)
              have exb : xb = xb' := by injection e1 with e1; injection e1
              subst exb
              have hsp : sb = pn := chained_at HL.out.good.chain hp (by rw [← hq]; exact hs)
              have u1 : decide ((0 : Int) < (t : Int)) = true := decide_eq_true (by omega)
              have u2 : decide (0 < t) = true := decide_eq_true (by omega)
              have u3 : ((t : Int) == 0) = false := by simp [ht0]
              have u4 : (sb == pn) = true := by simp [hsp]
              have u5 : (sb != pn) = false := by simp [hsp]
              have u6 : IntKind.i64.wrap (q : Int) = (q : Int) := by rw [IntKind.wrap_i64]; omega
              have u7 : (t : Int) - 1 = (q : Int) := by omega
              have u8 : (0 : Int) ≤ (q : Int) := by omega
              have u9 : (q : Int) < (n' : Int) := by omega
              clear ht0 hs hp hsp hq e1
              go_wp2_with fail
              go_quiet (fail)
              go_wp2_with fail
              go_roundw
              case rel => exact ⟨t + 1, by omega, by go_num, drewN_below hbi _⟩
              case measure => simp [intOf]; omega
          · obtain rfl : t = n' := by omega
            go_wp2_with (go_at_call 38; refine (fixed6_any _).mono ?_; rintro e wz ⟨rfl, hbz⟩)
            go_ret
            exact ⟨rfl, acc (acc MB.out.old hbi) hbz⟩
      · obtain ⟨n', hn'⟩ : ∃ n', l.length = n' := ⟨_, rfl⟩
        have HN' := Lib.hid hn'
        have hn41 : n' ≤ 41 := by omega
        clear hn'
        go_wp2_with (go_at_call 42; refine (m6_segs HL (by rw [HN'.out]; omega) n' HN'.out).mono ?_; rintro e w2 ⟨X2, c2, ll, rfl, hnc2, hll, hrs, _, _, hb2⟩; have HLL := Lib.hid hll; have HRS := Lib.hid hrs; have MB := Lib.hid (HL.out.below hb2); clear hll hrs)
        go_loopw [17] (fun i wi => ∃ t : Nat, t ≤ n' ∧ i = .int .i64 t ∧ Below w2.heap.size w2 wi) (fun i _ => n' - (intOf i).toNat)
        case atStart => exact ⟨0, by omega, rfl, Below.refl _ _⟩
        case round =>
          obtain ⟨t, ht, rfl, hbi⟩ := hrel
          by_cases htn : t < n'
          · obtain ⟨xb, sb, sn, sA, sc, sL, rfl, hxb, hs, q0, q1, q2⟩ := told (HRS.out.below hbi) HLL.out (by rw [HN'.out]; exact htn)
            have hfew := HL.out.good.few _ (List.mem_of_getElem? hs)
            dsimp only at hfew
            obtain ⟨sm, hsm⟩ : ∃ sm, sL.length = sm := ⟨_, rfl⟩
            rw [hsm] at hfew q2
            have f1 : decide ((rm : Int) < (sm : Int)) = false := decide_eq_false (by omega)
            have f2 : decide (rm < sm) = false := decide_eq_false (by omega)
            have t0 : (0 : Int) ≤ (t : Int) := by omega
            have t1 : (t : Int) < (n' : Int) := by omega
            clear hsm hfew
            by_cases ht0 : t = 0
            · have hsb : sb = 0 := by
                have := HST.out
                rw [ht0] at hs
                rw [start_is hs] at this
                exact this
              have u1 : decide ((0 : Int) < (t : Int)) = false := decide_eq_false (by omega)
              have u2 : decide (0 < t) = false := decide_eq_false (by omega)
              have u3 : ((t : Int) == 0) = true := by simp [ht0]
              have u4 : (sb == 0) = true := by simp [hsb]
              have u5 : (sb != 0) = false := by simp [hsb]
              clear ht0 hsb hs
              go_wp2_with fail
              go_quiet (fail)
              go_wp2_with fail
              go_roundw
              case rel => exact ⟨t + 1, by omega, by go_num, drewN_below hbi _⟩
              case measure => simp [intOf]; omega
            · obtain ⟨q, hq⟩ : ∃ q, t = q + 1 := ⟨t - 1, by omega⟩
              obtain ⟨xb', pb, pn, pA, pc, pL, e1, _, hp, _, p1, _⟩ := told (HRS.out.below hbi) HLL.out (by rw [HN'.out]; omega : q < l.length)
              have exb : xb = xb' := by injection e1 with e1; injection e1
              subst exb
              have hsp : sb = pn := chained_at HL.out.good.chain hp (by rw [← hq]; exact hs)
              have u1 : decide ((0 : Int) < (t : Int)) = true := decide_eq_true (by omega)
              have u2 : decide (0 < t) = true := decide_eq_true (by omega)
              have u3 : ((t : Int) == 0) = false := by simp [ht0]
              have u4 : (sb == pn) = true := by simp [hsp]
              have u5 : (sb != pn) = false := by simp [hsp]
              have u6 : IntKind.i64.wrap (q : Int) = (q : Int) := by rw [IntKind.wrap_i64]; omega
              have u7 : (t : Int) - 1 = (q : Int) := by omega
              have u8 : (0 : Int) ≤ (q : Int) := by omega
              have u9 : (q : Int) < (n' : Int) := by omega
              clear ht0 hs hp hsp hq e1
              go_wp2_with fail
              go_quiet (fail)
              go_wp2_with fail
              go_roundw
              case rel => exact ⟨t + 1, by omega, by go_num, drewN_below hbi _⟩
              case measure => simp [intOf]; omega
          · obtain rfl : t = n' := by omega
            go_wp2_with (go_at_call 38; refine (fixed6_any _).mono ?_; rintro e wz ⟨rfl, hbz⟩)
            go_ret
            exact ⟨rfl, acc (acc MB.out.old hbi) hbz⟩

set_option maxRecDepth 100000 in
set_option maxHeartbeats 1000000 in
theorem lifted (os : Os) (started : os.Started) (H : Type) (enc : TypeId × Value → H) :
    ReturnsInHanded {} Try.checked os 9 .any (Rows.plogRollsSpec.pre6 enc Try.prog Try.f9 Rows.plogRollsRow.domain false) (Rows.plogRollsSpec.post enc Try.prog Try.f9 false true false false) := by
  refine returnsInHanded_of_change (C := Try.checked) own started (by kernel_rfl) Try.func9
    (ChangeSpec.witness6 (enc := enc) (C := Try.checked) false ⟨#[], #[.int .i64 0, .slice none 0 0], []⟩ 8 (by kernel_rfl) (by kernel_rfl) (by kernel_rfl) (by kernel_rfl)) ?_
  intro W base args ds gs before hval0 hW _ _
  have hval : ∀ (j : Nat) t v, Try.f9.params[j]? = some t → args[j]? = some v → Value.okWide Try.prog W .any base t v := hval0
  have hW' := hW
  obtain ⟨p, q, hA0, hV, rfl, hfz, hnd⟩ := hW
  have hA : DataW.TrodAll enc Try.prog W 0 (fun _ => true) true Try.f9.params.toList args.toList ds p := hA0
  rw [Try.params9] at hA hval
  obtain ⟨v0, vs0, d0, ds0, p0, q0, hargs, rfl, rfl, h0, r0⟩ := trodAll_cons hA
  obtain ⟨v1, vs1, d1, ds1, p1, q1, rfl, rfl, rfl, h1, r1⟩ := trodAll_cons r0
  obtain ⟨rfl, rfl, rfl⟩ := trodAll_nil r1
  obtain rfl : args = #[v0, v1] := by cases args; simp_all
  obtain ⟨rfl, rfl⟩ := trodVars_none hV
  have k0 := h0
  have lt0 : ∀ x ∈ p0, x.block < W.heap.size := by obtain ⟨m, hm⟩ := k0; exact DataW.trod_lt m _ _ _ hm
  have k1 := h1
  have lt1 : ∀ x ∈ p1, x.block < W.heap.size := by obtain ⟨m, hm⟩ := k1; exact DataW.trod_lt m _ _ _ hm
  obtain ⟨a0, e0, _, _, w0⟩ := open_int Try.underlying3 (hval 0 3 v0 rfl rfl) h0
  subst e0
  obtain ⟨A1, l1, c1, e1, R1⟩ := L5.open_nums (hval 1 31 v1 rfl rfl) h1
  subst e1
  clear hA0 hval0
  refine (walk W a0 w0 A1 l1 c1 R1).mono fun e W' ⟨he, bel⟩ => ?_
  subst he
  exact ⟨_, rfl, _, _, _, [], _, [], hW', trodAll_mk1 (shut_bool Try.underlying4 _), (trodAll_cons_mk (Below.trod laidOut (by kernel_rfl) (of_decide_eq_true (by kernel_rfl)) k0 bel lt0) (trodAll_cons_mk (Below.trod laidOut (by kernel_rfl) (of_decide_eq_true (by kernel_rfl)) k1 bel lt1) trodAll_mk0)), rfl, bel.frame _, fun h => by cases h⟩

theorem over : Rows.plogRollsRow.holds Try.pinned (OpenSpec.ofChange Rows.plogRollsSpec) :=
  OpenClaim.holds_of_wide 9 Try.f9 rfl rfl rfl rfl rfl rfl rfl ⟨rfl, rfl, rfl, rfl, rfl⟩ rfl rfl rfl rfl rfl (by kernel_rfl) Try.func9 (by kernel_rfl)
    (of_decide_eq_true (by kernel_rfl)) (by unfold Func.isWrapper; first | (rw [if_pos (by decide +kernel)]; kernel_rfl) | (rw [if_neg (by decide +kernel)]; exact ⟨rfl, rfl⟩))
    (fun os started H enc _ => lifted os started H enc)

/-- the statement -/
theorem proved : Rows.PlogRollsSaid :=
  over
#print axioms proved
end Go.Proofs.Ytpagoeoilkbmjaa.plogRolls
