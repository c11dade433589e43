/-
  Proved: what is retained is what stands in segments that reach beyond the offset; what is read behind it is as it was (of at most 30 appends). No condition.
-/
import Derived.Test.YtnpclekckopgiaaRows
import Derived.WalkKit
import Derived.ProofKit
import Derived.OpenShut
import Derived.ShutString
import Derived.ChangeOld
import Derived.Below
import Derived.Test.YtnpclekckopgiaaPlRsegs
import Derived.Deep.QuietTactic
import Derived.BigQuiet
import Derived.LoopTactic
namespace Go.Proofs.Ytnpclekckopgiaa.plogRetains
open Go.ChangeShapes Go.WideShapes Go.ChangeAt Go.RowKit
open Go.ChangeMaps (open_string shut_string)
open L3 L4 L5 L6

theorem own : ownKnob Try.prog.godebug = none := by kernel_rfl
theorem laidOut : laidOutB Try.prog = true := by kernel_rfl


theorem retain_read {room : Nat} {l : List Sg} (g : GoodL room l) {a n : Int} : readL (allL (l.drop (retainN l a))) a n = readL (allL l) a n := by
  have h : allL l = allL (l.take (retainN l a)) ++ allL (l.drop (retainN l a)) := by rw [← all_app, List.take_append_drop]
  have h0 : readL (allL (l.take (retainN l a))) a n = [] := read_none (fun f hf => by
    obtain ⟨s, hs, hfs⟩ := List.mem_flatMap.1 hf
    obtain ⟨i, hi⟩ := List.mem_iff_getElem?.1 hs
    have hlt : i < retainN l a := by
      have := (List.getElem?_eq_some_iff.1 hi).1
      rw [List.length_take] at this
      omega
    rw [List.getElem?_take_of_lt hlt] at hi
    have h1 := ended_lt (a := a) hi (by unfold retainN at hlt; omega)
    have h2 := rise_mem (g.good s (List.mem_of_getElem? hi)).rise f hfs
    omega)
  rw [h, read_app, h0, List.nil_append]
  simp
theorem ReadsT.mono {w : World} {B B' : Nat} {X : Option Addr} {l : List Sa} (h : ReadsT w B X l) (hB : B ≤ B') : ReadsT w B' X l := by
  refine ⟨fun h0 => ?_, fun r hr => fun h0 => ?_⟩
  · obtain ⟨g, o, e, hg, hc⟩ := h.1 h0
    exact ⟨g, o, e, by omega, hc⟩
  · obtain ⟨g, e, hg, hc⟩ := h.2 r hr h0
    exact ⟨g, e, by omega, hc⟩
theorem keep_one {w w1 w2 : World} {p : Addr} {v : Value} (h : w1.cell? p = some v ∧ Below w.heap.size w w1) (hb : Below w1.heap.size w1 w2) : w2.cell? p = some v ∧ Below w.heap.size w w2 := ⟨keep_cell h.1 hb, acc h.2 hb⟩
theorem wrap_one (d : Nat) (h : d ≤ 1000) : wrap64 ((d : Int) + 1) = (d : Int) + 1 := by simp only [wrap64]; omega
theorem wrap_two (d : Nat) (h : d ≤ 1000) : IntKind.i64.wrap ((d : Int) + 1) = (d : Int) + 1 := by rw [IntKind.wrap_i64]; omega
theorem eq_one {d n : Nat} (h : d + 1 = n) : ((d : Int) + 1 == (n : Int)) = true := by simp; omega
theorem ne_one {d n : Nat} (h : ¬ d + 1 = n) : ((d : Int) + 1 == (n : Int)) = false := by simp; omega
theorem retain_start {room : Nat} {l : List Sg} (g : GoodL room l) {a : Int} (h : startL l ≤ a) : startL (l.drop (retainN l a)) ≤ a := by
  by_cases h0 : retainN l a = 0
  · rw [h0]; exact h
  · obtain ⟨t, ht⟩ : ∃ t, retainN l a = t + 1 := ⟨retainN l a - 1, by omega⟩
    have hlt := retain_lt a g.ne
    obtain ⟨s, hs⟩ : ∃ s, l[t]? = some s := ⟨_, List.getElem?_eq_getElem (by omega)⟩
    obtain ⟨u, hu⟩ : ∃ u, l[t + 1]? = some u := ⟨_, List.getElem?_eq_getElem (by omega)⟩
    have h1 := ended_lt hs (a := a) (by unfold retainN at ht; omega)
    have h2 := chained_at g.chain hs hu
    rw [ht, start_is (s := u) (by rw [List.getElem?_drop]; exact hu)]
    omega
theorem retain_next {room : Nat} {l : List Sg} (g : GoodL room l) {a : Int} {s : Sg} (h : l[retainN l a]? = some s) : retainN l a + 1 = l.length ∨ a < s.n := by
  by_cases h1 : ended l a ≤ l.length - 1
  · right
    rw [show retainN l a = ended l a by unfold retainN; omega] at h
    exact ended_at h
  · left
    have := g.ne
    unfold retainN; omega
theorem found_same (A A' : Option Addr) (M : List L4.Fd) (m c c' : Nat) (w : World) (hR : Hid (ReadsF w w.heap.size A M)) (hR' : Hid (ReadsF w w.heap.size A' M)) (hM : Hid (M.length = m)) (hl : m ≤ maxLen) :
    Calls Try.prog 14 #[.slice A m c, .slice A' m c'] w fun e w' => e = .returned (.bool true) ∧ Below w.heap.size w w' := by
  obtain rfl := hM.out
  exact rfound_is A A' M M c c' w.heap.size true w hR hR' (Nat.le_refl _) hl (Lib.hid (by simp))
theorem told {W : World} {B : Nat} {X : Option Addr} {ll : List Sa} {l : List Sg} {i : Nat} (hr : ReadsS W B X ll) (hl : ll.map Sa.s = l) (hi : i < l.length) : ∃ xb sb sn sA sc sL, X = some ⟨xb, 0, none⟩ ∧ xb < B ∧ l[i]? = some ⟨sb, sn, sL⟩ ∧ W.cell? ⟨xb, i * 3, none⟩ = some (.int .i64 sb) ∧ W.cell? ⟨xb, i * 3 + 1, none⟩ = some (.int .i64 sn) ∧ W.cell? ⟨xb, i * 3 + 2, none⟩ = some (.slice sA sL.length sc) := by
  have hlen : ll.length = l.length := by rw [← hl, List.length_map]
  obtain ⟨xb, e, hb, hc⟩ := hr.1 (by omega)
  obtain ⟨⟨sb, sn, sA, sc, sL⟩, hs⟩ : ∃ s, ll[i]? = some s := ⟨_, List.getElem?_eq_getElem (by omega)⟩
  obtain ⟨q0, q1, q2⟩ := hc i _ hs
  exact ⟨xb, sb, sn, sA, sc, sL, e, hb, by rw [← hl, List.getElem?_map, hs]; rfl, q0, q1, q2⟩

set_option maxRecDepth 100000 in
set_option maxHeartbeats 16000000 in
theorem walk (w : World) (a0 : Int) (_ : (Lit.int .i64 a0).wf = true) (A1 : Option Addr) (l1 : List L6.Scr) (c1 : Nat) (R1 : IsScr w A1 l1) (a2 : Int) (_ : (Lit.int .i64 a2).wf = true) :
    Calls Try.prog 6 #[.int .i64 a0, .slice A1 l1.length c1, .int .i64 a2] w fun e w' => e = .returned (.bool true) ∧ Below w.heap.size w w' := by
  obtain ⟨b, hbm⟩ : ∃ b, bits .and .i64 a0 15 = b := ⟨_, rfl⟩
  have hb := mask_le 15 (by decide) a0
  rw [show ((15 : Nat) : Int) = 15 from rfl, hbm] at hb
  obtain ⟨rm, hrm⟩ : ∃ rm : Nat, 1 + b = (rm : Int) := ⟨(1 + b).toNat, by omega⟩
  have NE : Hid (newE6 (rm : Int) = 0) := Lib.hid (by unfold newE6; rw [if_neg (by omega)])
  obtain ⟨n, hn⟩ : ∃ n, l1.length = n := ⟨_, rfl⟩
  obtain ⟨HOPS, HC, hnm⟩ := R1
  rw [hn] at hnm ⊢
  unfold maxLen at hnm
  have HN := Lib.hid hn
  clear hn
  go_enter Try.func6, Try.ntmps6
  go_wp2_with (go_at_call 7; refine (m6_new rm w w (Lib.hid (Below.refl _ _)) NE).mono ?_; rintro e w1 ⟨g, S1, rfl, hm1, _, _⟩; have M1 := Lib.hid hm1; clear hm1)
  clear hbm hrm hb
  go_loopw [9] (fun i wr => ∃ (j : Nat) (S : List Nat) (l : List Sg), j ≤ 30 ∧ i = .int .i64 j ∧ Hid (LogAt w wr rm g l S) ∧ l.length ≤ j + 1 ∧ Hid (startL l = 0)) (fun i _ => 30 - (intOf i).toNat)
  case atStart => exact ⟨0, S1, [sg0], by omega, rfl, M1, by decide, Lib.hid rfl⟩
  case round =>
    clear M1
    obtain ⟨j, S, l, hj, rfl, HL, hlen, HST⟩ := hrel
    by_cases hlt : j < n ∧ j < 30
    · obtain ⟨h1, h2⟩ := hlt
      obtain ⟨og, oo, rfl, hog, hcells⟩ := HOPS.out (by rw [HN.out]; omega)
      obtain ⟨⟨kd, fr, nn, RA, rl, rc⟩, hr⟩ : ∃ r, l1[j]? = some r := ⟨_, List.getElem?_eq_getElem (by rw [HN.out]; omega)⟩
      have hold := HL.out.old
      obtain ⟨_, _, _, c3⟩ := hcells j _ hr
      have d3 := (hold.cell (p := ⟨og, oo + j * 4 + 3, none⟩) hog).trans c3
      obtain ⟨⟨⟨HRR, HRS, hrm⟩, hrc⟩, _, _, _⟩ := HC.out _ (List.mem_of_getElem? hr)
      dsimp only at d3 HRR HRS hrm hrc
      obtain ⟨rn, hrn⟩ : ∃ rn, rl.length = rn := ⟨_, rfl⟩
      rw [hrn] at d3 hrm hrc
      have HRN := Lib.hid hrn
      obtain ⟨m, hm⟩ : ∃ m, (recsL rl).length = m := ⟨_, rfl⟩
      have hm70 : m ≤ 70 := by rw [← hm, recs_len]; omega
      have HM := Lib.hid hm
      have HSM : Hid (∀ r ∈ recsL rl, r.key.size ≤ maxLen ∧ r.val.size ≤ maxLen) := Lib.hid (fun r hr => by have := recs_small r hr; unfold maxLen; omega)
      have hlen' : l.length ≤ 1000 := by omega
      have j0 : (0 : Int) ≤ (j : Int) := by omega
      have j1 : (j : Int) < (n : Int) := by omega
      have j2 : (j : Int) < 30 := by omega
      obtain ⟨x, hx⟩ : ∃ x, L6.appE rm l (recsL rl) = x := ⟨_, rfl⟩
      clear hcells hr c3 hrn hm hold
      by_cases hx0' : x = 0
      · subst hx0'
        have HX := Lib.hid hx
        obtain ⟨l', hl'⟩ : ∃ l', appL rm (recsL rl) l = l' := ⟨_, rfl⟩
        have hln := app_len rm (recsL rl) l
        have hst := app_start rm (recsL rl) HL.out.good.ne
        rw [hl'] at hst hln
        have HL' := Lib.hid hl'
        have HST2 : Hid (startL l' = 0) := Lib.hid (hst.trans HST.out)
        have hlen3 : l'.length ≤ j + 1 + 1 := by omega
        clear hx hl' hln hst
        go_wp2_with (first
          | (go_at_call 10; have _q := M2; refine (m6_append M2 (by omega) RA2 (recsL rl) m rc2 w2.heap.size (Lib.hid (recs_own HM.out O2.out)) (Lib.hid (fun z e hm => by have h1 := (own_blk O2.out z e).1; have h2 := Z1.out z hm; omega)) (Nat.le_refl _) HM.out (by unfold maxLen; omega) HSM HX).mono ?_; rw [HL'.out]; rintro e w3 ⟨rfl, S3, hm3, _, _⟩; have M3 := Lib.hid hm3; clear hm3)
          | (go_at_call 9; refine (records_any RA rl rn rc w.heap.size _ (Lib.hid (HRR.out.below HL.out.old)) HL.out.old.size HRN.out hrm hrc HRS).mono ?_; rintro e w2 ⟨RA2, rc2, rfl, ho2, hb2⟩; rw [HM.out] at ho2 ⊢; have M2 := Lib.hid (HL.out.below hb2); have O2 := Lib.hid ho2; have Z1 := Lib.hid HL.out.lt; clear ho2))
        go_roundw
        case rel => exact ⟨j + 1, S3, l', by omega, by go_num, M3, hlen3, HST2⟩
        case measure => simp [intOf]; omega
      · have HX := Lib.hid hx
        have HXN := Lib.hid hx0'
        clear hx hx0'
        go_wp2_with (first
          | (go_at_call 10; have _q := M2; refine (m6_append_no M2 (by omega) RA2 (recsL rl) m rc2 w2.heap.size x (Lib.hid (recs_own HM.out O2.out)) (Lib.hid (fun z e hm => by have h1 := (own_blk O2.out z e).1; have h2 := Z1.out z hm; omega)) (Nat.le_refl _) HM.out (by unfold maxLen; omega) HSM HX HXN.out).mono ?_; rintro e w3 ⟨rfl, hb3⟩; have M3 := Lib.hid (M2.out.below hb3))
          | (go_at_call 9; refine (records_any RA rl rn rc w.heap.size _ (Lib.hid (HRR.out.below HL.out.old)) HL.out.old.size HRN.out hrm hrc HRS).mono ?_; rintro e w2 ⟨RA2, rc2, rfl, ho2, hb2⟩; rw [HM.out] at ho2 ⊢; have M2 := Lib.hid (HL.out.below hb2); have O2 := Lib.hid ho2; have Z1 := Lib.hid HL.out.lt; clear ho2))
        go_roundw
        case rel => exact ⟨j + 1, S, l, by omega, by go_num, M3, by omega, HST⟩
        case measure => simp [intOf]; omega
    · have hd : n ≤ j ∨ (j < n ∧ 30 ≤ j) := by omega
      rcases hd with hd | ⟨hd1, hd2⟩
      · obtain ⟨x1, hx1⟩ : ∃ x1, endL l = x1 := ⟨_, rfl⟩
        have hge := good_end HL.out.good
        rw [hx1] at hge
        obtain ⟨hge0, hge1⟩ := hge
        have hlen' : l.length ≤ 1000 := by omega
        have HX1 := Lib.hid hx1
        obtain ⟨y, hy⟩ : ∃ y, bits .and .i64 a2 65535 = y := ⟨_, rfl⟩
        have hyb := mask_le 65535 (by decide) a2
        rw [show ((65535 : Nat) : Int) = 65535 from rfl, hy] at hyb
        obtain ⟨k, hk⟩ : ∃ k, y % (x1 + 1) = k := ⟨_, rfl⟩
        have hk0 : 0 ≤ k := by rw [← hk]; exact Int.emod_nonneg y (by omega)
        have hk1 : k < x1 + 1 := by rw [← hk]; exact Int.emod_lt_of_pos y (by omega)
        have ew : wrap64 (x1 + 1) = x1 + 1 := by simp only [wrap64]; omega
        have ew2 : IntKind.i64.wrap (x1 + 1) = x1 + 1 := by rw [IntKind.wrap_i64]; omega
        have eq1 : y.tmod (x1 + 1) = k := by rw [Int.tmod_eq_emod_of_nonneg hyb.1]; exact hk
        have eq2 : wrap64 (y.tmod (x1 + 1)) = k := by rw [eq1]; simp only [wrap64]; omega
        have eq3 : (x1 + 1 == 0) = false := by simp; omega
        obtain ⟨d, hd⟩ : ∃ d, retainN l k = d := ⟨_, rfl⟩
        have hdl : d < l.length := by rw [← hd]; exact retain_lt k HL.out.good.ne
        obtain ⟨M, hM⟩ : ∃ M, readL (allL l) k 1048576 = M := ⟨_, rfl⟩
        obtain ⟨mm, hmm⟩ : ∃ mm, M.length = mm := ⟨_, rfl⟩
        have hrr := retain_read HL.out.good (a := k) (n := 1048576)
        have hrs := retain_start HL.out.good (a := k) (by rw [HST.out]; exact hk0)
        rw [hd] at hrr hrs
        rw [hM] at hrr
        obtain ⟨x2, hx2⟩ : ∃ x, startL (l.drop d) = x := ⟨_, rfl⟩
        rw [hx2] at hrs
        have hmm1 : mm ≤ 1048576 := by rw [← hmm, ← hM]; unfold readL; rw [List.length_take]; omega
        obtain ⟨ln, hln⟩ : ∃ ln, l.length = ln := ⟨_, rfl⟩
        have HMA := Lib.hid hM
        have HMM := Lib.hid hmm
        have HRR2 := Lib.hid hrr
        have HD := Lib.hid hd
        have HX2 := Lib.hid hx2
        have HX3 : Hid (endL (l.drop d) = x1) := Lib.hid ((drop_end hdl).trans HX1.out)
        have REA : Hid (readE l k = 0) := Lib.hid (readE_ok (by rw [HST.out]; exact hk0) (by rw [hx1]; omega))
        have REB : Hid (readE (l.drop d) k = 0) := Lib.hid (readE_ok (by rw [hx2]; exact hrs) (by rw [HX3.out]; omega))
        have HLN := Lib.hid hln
        have hlen2 : (l.drop d).length ≤ 1000 := by rw [List.length_drop]; omega
        rw [hln] at hdl
        have v1 : ¬ k < x2 := by omega
        have v2 : ¬ (d : Int) < 0 := by omega
        have v3 : ¬ (ln : Int) ≤ (d : Int) := by omega
        have v4 : (x1 != x1) = false := by simp
        have hln1000 : ln ≤ 1000 := by omega
        clear hM hmm hrr hd hx2 hln hx1 hk
        go_wp2_with (first
          | (go_at_call 14; have _q := M7; refine (found_same A3 A6 M mm c3 c6 _ (Lib.hid (reads_own HMM.out P7.out)) (Lib.hid (reads_own HMM.out Q7.out)) HMM (by unfold maxLen; omega)).mono ?_; rintro e w8 ⟨rfl, hb8⟩; have M8 := Lib.hid (M7.out.below hb8); have R8 := Lib.hid (R7.out.below (hb8.mono (Nat.le_trans Z5.out (Nat.le_trans hb6.size hb7.size)))))
          | (go_at_call 25; have _q := M6; refine (m6_span M6 hlen2 x2 x1 HX2 HX3).mono ?_; rintro e w7 ⟨rfl, hb7⟩; have M7 := Lib.hid (M6.out.below hb7); have P7 := Lib.hid (own_below P6.out hb7); have Q7 := Lib.hid (own_below Q6.out hb7); have R7 := Lib.hid (R6.out.below (hb7.mono (Nat.le_trans Z5.out hb6.size))))
          | (go_at_call 12; have _q := M5; refine (m6_read M5 hlen2 k 1048576 M mm (by decide) REB HRR2 HMM.out).mono ?_; rintro e w6 ⟨A6, c6, rfl, ho6, hb6⟩; have M6 := Lib.hid (M5.out.below hb6); have Q6 := Lib.hid ho6; have P6 := Lib.hid (own_below P5.out hb6); have R6 := Lib.hid (R5.out.below (hb6.mono Z5.out)); clear ho6)
          | (go_at_call 15; have _q := M4; refine (m6_retain M4 hlen' k d HD).mono ?_; rintro e w5 ⟨rfl, S5, hm5, ho5, hs5⟩; have M5 := Lib.hid hm5; have P5 := Lib.hid (ho5.own P4.out (fun z e hm => by have h1 := (P4.out.lt z e).1; have h2 := Z2.out z hm; omega)); have R5 := Lib.hid (readsS_only R4.out ho5 (fun z e hm => by have h1 := X4.out z e; have h2 := Z3.out z hm; omega) (fun r hr z e hm => by have h1 := Y4.out r hr z e; have h2 := Z3.out z hm; omega)); have Z5 := Lib.hid ho5.size; clear hm5 ho5)
          | (go_at_call 26; have _q := M3; refine (m6_segs M3 hlen' ln HLN.out).mono ?_; rintro e w4 ⟨X4', c4, ll, rfl, hc4, hll, hrs4, hx4, hy4, hb4⟩; have M4 := Lib.hid (M3.out.below hb4); have R4 := Lib.hid hrs4; have LL := Lib.hid hll; have X4 := Lib.hid hx4; have Y4 := Lib.hid hy4; have P4 := Lib.hid (own_below P3.out hb4); have Z3 := Lib.hid M3.out.lt; clear hrs4 hll hx4 hy4)
          | (go_at_call 12; have _q := M2; refine (m6_read M2 hlen' k 1048576 M mm (by decide) REA HMA HMM.out).mono ?_; rintro e w3 ⟨A3, c3, rfl, ho3, hb3⟩; have M3 := Lib.hid (M2.out.below hb3); have P3 := Lib.hid ho3; have Z2 := Lib.hid M2.out.lt; clear ho3)
          | (go_at_call 25; refine (m6_span HL hlen' 0 x1 HST HX1).mono ?_; rintro e w2 ⟨rfl, hb2⟩; have M2 := Lib.hid (HL.out.below hb2)))
        obtain ⟨xb, sb, sn, sA, sc, sL, hX4, hxb, hsl, q0, q1, q2⟩ := told R8.out LL.out (i := d) (by rw [HLN.out]; exact hdl)
        subst hX4
        have hnx := retain_next HL.out.good (a := k) (by rw [HD.out]; exact hsl)
        rw [HD.out, HLN.out] at hnx
        obtain ⟨ld, hld⟩ : ∃ ld, (l.drop d).length = ld := ⟨_, rfl⟩
        have hld2 : ln - d = ld := by rw [← hld, List.length_drop, HLN.out]
        have HLD := Lib.hid hld
        have HFW : Hid (∀ s ∈ l.drop d, s.L.length ≤ maxLen) := Lib.hid (fun s hs => by have h1 := HL.out.good.few s (List.mem_of_mem_drop hs); have h2 := HL.out.good.r64; exact Nat.le_trans h1 (Nat.le_trans h2 (by decide)))
        have RD4 : Hid (ReadsT w8 w4.heap.size (some ⟨xb, d * 3, none⟩) (ll.drop d)) := Lib.hid (R8.out.drop d)
        have LD : Hid ((ll.drop d).map Sa.s = l.drop d) := Lib.hid (by rw [List.map_drop, LL.out])
        have Z8 : w4.heap.size ≤ w8.heap.size := Nat.le_trans Z5.out (Nat.le_trans hb6.size (Nat.le_trans hb7.size hb8.size))
        have ews := wrap_one d (Nat.le_trans (Nat.le_of_lt hdl) hln1000)
        have EWI := Lib.hid (wrap_two d (Nat.le_trans (Nat.le_of_lt hdl) hln1000))
        have hdi : (d : Int) < (ln : Int) := Int.ofNat_lt.2 hdl
        have hdi0 : (0 : Int) ≤ (d : Int) := Int.natCast_nonneg d
        have hdi2 : d ≤ ln := Nat.le_of_lt hdl
        have hld1000 : ld ≤ 1000 := hld ▸ hlen2
        have hdc : ln ≤ c4 := hc4
        clear hld q0 q2 hsl eq1 eq2 eq3 ew ew2 hy hyb hk0 hk1 hge0 hge1 hmm1 hrs v1 v2 v3 v4 hlen hj
        have HT : Hid (∀ w', Below w8.heap.size w8 w' → w'.cell? ⟨xb, d * 3 + 1, none⟩ = some (.int .i64 sn) ∧ Below w8.heap.size w8 w') := Lib.hid (fun w' hb => ⟨(hb.cell (p := ⟨xb, d * 3 + 1, none⟩) (Nat.lt_of_lt_of_le hxb Z8)).trans q1, hb⟩)
        clear q1
        by_cases hdn : d + 1 = ln
        · have e1 : ((d : Int) + 1 == (ln : Int)) = true := eq_one hdn
          have e1n : (d + 1 == ln) = true := beq_iff_eq.2 hdn
          have e1d : decide (d + 1 = ln) = true := decide_eq_true hdn
          have e1i : (((d + 1 : Nat) : Int) == (ln : Int)) = true := eq_one hdn
          clear hnx hdn
          refine wp_region_held_drew (S := fun w' => w'.cell? ⟨xb, d * 3 + 1, none⟩ = some (.int .i64 sn) ∧ Below w8.heap.size w8 w') (by kernel_rfl) (HT.out _ (Below.refl _ _).drew) (fun hHeld => ?_)
          refine wpAnyH_take (i := 0) (oi := ?o1) (v := ?v1) ?a1 (by kernel_rfl) (by kernel_rfl) (by kernel_rfl) ?q1 (Or.inl ⟨?g1, ?y1⟩) (by assumption) ?r1; (case' a1 => (simp only [List.getElem?_toArray, List.getElem?_cons_zero]; rfl)); (case' q1 => (exact fun _ _ _ h => h)); (case' g1 => rfl); (case' y1 => (intro w hSw; (try dsimp only at hSw); go_simp; try with_reducible rfl)); (case' r1 => (try simp only [Act.put, List.setIfInBounds_toArray, List.set_cons_zero, List.set_cons_succ]))
          refine wpAnyH_take (i := 2) (oi := ?o2) (v := ?v2) ?a2 (by kernel_rfl) (by kernel_rfl) (by kernel_rfl) ?q2 (Or.inl ⟨?g2, ?y2⟩) (by assumption) ?r2; (case' a2 => (simp only [List.getElem?_toArray, List.getElem?_cons_zero, List.getElem?_cons_succ]; rfl)); (case' q2 => (exact fun _ _ _ h => h)); (case' g2 => rfl); (case' y2 => (intro w hSw; (try dsimp only at hSw); go_simp; try with_reducible rfl)); (case' r2 => (try simp only [Act.put, List.setIfInBounds_toArray, List.set_cons_zero, List.set_cons_succ]))
          refine wpAnyH_take (i := 3) (oi := ?o3) (v := ?v3) ?a3 (by kernel_rfl) (by kernel_rfl) (by kernel_rfl) ?q3 (Or.inl ⟨?g3, ?y3⟩) (by assumption) ?r3; (case' a3 => (simp only [List.getElem?_toArray, List.getElem?_cons_zero, List.getElem?_cons_succ]; rfl)); (case' q3 => (exact fun _ _ _ h => h)); (case' g3 => rfl); (case' y3 => (intro w hSw; (try dsimp only at hSw); go_simp; try with_reducible rfl)); (case' r3 => (try simp only [Act.put, List.setIfInBounds_toArray, List.set_cons_zero, List.set_cons_succ]))
          refine wpAnyH_take (i := 4) (oi := ?o4) (v := ?v4) ?a4 (by kernel_rfl) (by kernel_rfl) (by kernel_rfl) ?q4 (Or.inl ⟨?g4, ?y4⟩) (by assumption) ?r4; (case' a4 => (simp only [List.getElem?_toArray, List.getElem?_cons_zero, List.getElem?_cons_succ]; rfl)); (case' q4 => (exact fun _ _ _ h => h)); (case' g4 => rfl); (case' y4 => (intro w hSw; (try dsimp only at hSw); go_simp; try with_reducible rfl)); (case' r4 => (try simp only [Act.put, List.setIfInBounds_toArray, List.set_cons_zero, List.set_cons_succ]))
          refine wpAnyH_ready (rs := [1]) (by kernel_rfl) (by simp) ?_
          refine AllReadyH.cons (o := ?o5) ?a5 (fun K hK => ?s5) ?m5; (case' a5 => (simp only [List.getElem?_toArray, List.getElem?_cons_zero, List.getElem?_cons_succ]; rfl))
          case s5 =>
            go_simp
            go_at_call 26
            refine (m6_segs (Lib.hid (M8.out.below hHeld.2)) hlen2 ld HLD.out).mono ?_
            rintro e wn ⟨X9, c9, ll9, rfl, -, hll9, hrs9, -, -, hbn⟩
            have HR9 := Lib.hid hrs9; have HL9 := Lib.hid hll9; have E1 := Lib.hid e1; have E1N := Lib.hid e1n; have E1D := Lib.hid e1d; have E1I := Lib.hid e1i; clear e1n e1d e1i; have EW := Lib.hid ews; have HI := Lib.hid hdi; have HI0 := Lib.hid hdi0; clear hrs9 hll9 e1 hdc hdi hdi0 hdi2 hld2 ews
            go_wp2_with fail
            refine hK.out _ _ (HT.out _ (acc hHeld.2 hbn)) (fun hHeld => ?_)
            clear hK K
            (try simp only [Act.put, List.setIfInBounds_toArray, List.set_cons_zero, List.set_cons_succ])
            refine wpAnyH_ready (rs := [5]) (by kernel_rfl) (by simp) ?_
            refine AllReadyH.cons (o := ?o6) ?a6 (fun K hK => ?s6) ?m6; (case' a6 => (simp only [List.getElem?_toArray, List.getElem?_cons_zero, List.getElem?_cons_succ]; rfl))
            case s6 =>
              go_simp
              go_at_call 27
              refine (rsegs_is X9 (some ⟨xb, d * 3, none⟩) ll9 (ll.drop d) ld c9 _ wn.heap.size _ (Lib.hid HR9.out.t) (Lib.hid (ReadsT.mono (RD4.out.below (hHeld.2.mono Z8)) (Nat.le_trans Z8 hHeld.2.size))) (Nat.le_refl _) (by rw [← HLD.out, ← HL9.out, List.length_map]) hld1000 (Lib.hid (HL9.out.trans LD.out.symm)) (Lib.hid (fun r hr => HFW.out r.s (by rw [← HL9.out]; exact List.mem_map_of_mem hr)))).mono ?_
              rintro e wn ⟨rfl, hbn⟩
              go_wp2_with fail
              refine hK.out _ _ (HT.out _ (acc hHeld.2 hbn)) (fun hHeld => ?_)
              clear hK K
              (try simp only [Act.put, List.setIfInBounds_toArray, List.set_cons_zero, List.set_cons_succ])
              have e1 := E1.out; have e1n := E1N.out; have e1d := E1D.out; have e1i := E1I.out; have ews := EW.out; have ewi := EWI.out; have hdi := HI.out; have hdi0 := HI0.out
              refine wpAnyH_take (i := 6) (oi := ?o7) (v := ?v7) ?a7 (by kernel_rfl) (by kernel_rfl) (by kernel_rfl) ?q7 (Or.inl ⟨?g7, ?y7⟩) (by assumption) ?r7; (case' a7 => (simp only [List.getElem?_toArray, List.getElem?_cons_zero, List.getElem?_cons_succ]; rfl)); (case' q7 => (exact fun _ _ _ h => h)); (case' g7 => rfl); (case' y7 => (intro w hSw; (try dsimp only at hSw); go_simp; try with_reducible rfl)); (case' r7 => (try simp only [Act.put, List.setIfInBounds_toArray, List.set_cons_zero, List.set_cons_succ]))
              refine wpAnyH_take (i := 7) (oi := ?o8) (v := ?v8) ?a8 (by kernel_rfl) (by kernel_rfl) (by kernel_rfl) ?q8 (Or.inl ⟨?g8, ?y8⟩) (by assumption) ?r8; (case' a8 => (simp only [List.getElem?_toArray, List.getElem?_cons_zero, List.getElem?_cons_succ]; rfl)); (case' q8 => (exact fun _ _ _ h => h)); (case' g8 => rfl); (case' y8 => (intro w hSw; (try dsimp only at hSw); go_simp; try with_reducible rfl)); (case' r8 => (try simp only [Act.put, List.setIfInBounds_toArray, List.set_cons_zero, List.set_cons_succ]))
              refine wpAnyH_take (i := 8) (oi := ?o9) (v := ?v9) ?a9 (by kernel_rfl) (by kernel_rfl) (by kernel_rfl) ?q9 (Or.inl ⟨?g9, ?y9⟩) (by assumption) ?r9; (case' a9 => (simp only [List.getElem?_toArray, List.getElem?_cons_zero, List.getElem?_cons_succ]; rfl)); (case' q9 => (exact fun _ _ _ h => h)); (case' g9 => rfl); (case' y9 => (intro w hSw; (try dsimp only at hSw); go_simp; try with_reducible rfl)); (case' r9 => (try simp only [Act.put, List.setIfInBounds_toArray, List.set_cons_zero, List.set_cons_succ]))
              refine wpAnyH_take (i := 9) (oi := ?o10) (v := ?v10) ?a10 (by kernel_rfl) (by kernel_rfl) (by kernel_rfl) ?q10 (Or.inl ⟨?g10, ?y10⟩) (by assumption) ?r10; (case' a10 => (simp only [List.getElem?_toArray, List.getElem?_cons_zero, List.getElem?_cons_succ]; rfl)); (case' q10 => (exact fun _ _ _ h => h)); (case' g10 => rfl); (case' y10 => (intro w hSw; (try dsimp only at hSw); go_simp; try with_reducible rfl)); (case' r10 => (try simp only [Act.put, List.setIfInBounds_toArray, List.set_cons_zero, List.set_cons_succ]))
              refine wpAnyH_take (i := 10) (oi := ?o11) (v := ?v11) ?a11 (by kernel_rfl) (by kernel_rfl) (by kernel_rfl) ?q11 (Or.inl ⟨?g11, ?y11⟩) (by assumption) ?r11; (case' a11 => (simp only [List.getElem?_toArray, List.getElem?_cons_zero, List.getElem?_cons_succ]; rfl)); (case' q11 => (exact fun _ _ _ h => h)); (case' g11 => rfl); (case' y11 => (intro w hSw; (try dsimp only at hSw); go_simp; try with_reducible rfl)); (case' r11 => (try simp only [Act.put, List.setIfInBounds_toArray, List.set_cons_zero, List.set_cons_succ]))
              refine wpAnyH_take (i := 11) (oi := ?o12) (v := ?v12) ?a12 (by kernel_rfl) (by kernel_rfl) (by kernel_rfl) ?q12 (Or.inl ⟨?g12, ?y12⟩) (by assumption) ?r12; (case' a12 => (simp only [List.getElem?_toArray, List.getElem?_cons_zero, List.getElem?_cons_succ]; rfl)); (case' q12 => (exact fun _ _ _ h => h)); (case' g12 => rfl); (case' y12 => (intro w hSw; (try dsimp only at hSw); go_simp; try with_reducible rfl)); (case' r12 => (try simp only [Act.put, List.setIfInBounds_toArray, List.set_cons_zero, List.set_cons_succ]))
              refine wpAnyH_take (i := 12) (oi := ?o13) (v := ?v13) ?a13 (by kernel_rfl) (by kernel_rfl) (by kernel_rfl) ?q13 (Or.inl ⟨?g13, ?y13⟩) (by assumption) ?r13; (case' a13 => (simp only [List.getElem?_toArray, List.getElem?_cons_zero, List.getElem?_cons_succ]; rfl)); (case' q13 => (exact fun _ _ _ h => h)); (case' g13 => rfl); (case' y13 => (intro w hSw; (try dsimp only at hSw); go_simp; try with_reducible rfl)); (case' r13 => (try simp only [Act.put, List.setIfInBounds_toArray, List.set_cons_zero, List.set_cons_succ]))
              refine wpAnyH_take (i := 13) (oi := ?o14) (v := undef) ?a14 (by kernel_rfl) (by kernel_rfl) (by kernel_rfl) ?q14 (Or.inr ⟨?g14, rfl⟩) (by assumption) ?r14; (case' a14 => (simp only [List.getElem?_toArray, List.getElem?_cons_zero, List.getElem?_cons_succ]; rfl)); (case' q14 => (exact fun _ _ _ h => h)); (case' g14 => rfl); (case' r14 => (try simp only [Act.put, List.setIfInBounds_toArray, List.set_cons_zero, List.set_cons_succ]))
              refine wpAnyH_take (i := 14) (oi := ?o15) (v := undef) ?a15 (by kernel_rfl) (by kernel_rfl) (by kernel_rfl) ?q15 (Or.inr ⟨?g15, rfl⟩) (by assumption) ?r15; (case' a15 => (simp only [List.getElem?_toArray, List.getElem?_cons_zero, List.getElem?_cons_succ]; rfl)); (case' q15 => (exact fun _ _ _ h => h)); (case' g15 => rfl); (case' r15 => (try simp only [Act.put, List.setIfInBounds_toArray, List.set_cons_zero, List.set_cons_succ]))
              refine wpAnyH_take (i := 15) (oi := ?o16) (v := undef) ?a16 (by kernel_rfl) (by kernel_rfl) (by kernel_rfl) ?q16 (Or.inr ⟨?g16, rfl⟩) (by assumption) ?r16; (case' a16 => (simp only [List.getElem?_toArray, List.getElem?_cons_zero, List.getElem?_cons_succ]; rfl)); (case' q16 => (exact fun _ _ _ h => h)); (case' g16 => rfl); (case' r16 => (try simp only [Act.put, List.setIfInBounds_toArray, List.set_cons_zero, List.set_cons_succ]))
              refine wpAnyH_take (i := 16) (oi := ?o17) (v := undef) ?a17 (by kernel_rfl) (by kernel_rfl) (by kernel_rfl) ?q17 (Or.inr ⟨?g17, rfl⟩) (by assumption) ?r17; (case' a17 => (simp only [List.getElem?_toArray, List.getElem?_cons_zero, List.getElem?_cons_succ]; rfl)); (case' q17 => (exact fun _ _ _ h => h)); (case' g17 => rfl); (case' r17 => (try simp only [Act.put, List.setIfInBounds_toArray, List.set_cons_zero, List.set_cons_succ]))
              refine wpAnyH_take (i := 17) (oi := ?o18) (v := undef) ?a18 (by kernel_rfl) (by kernel_rfl) (by kernel_rfl) ?q18 (Or.inr ⟨?g18, rfl⟩) (by assumption) ?r18; (case' a18 => (simp only [List.getElem?_toArray, List.getElem?_cons_zero, List.getElem?_cons_succ]; rfl)); (case' q18 => (exact fun _ _ _ h => h)); (case' g18 => rfl); (case' r18 => (try simp only [Act.put, List.setIfInBounds_toArray, List.set_cons_zero, List.set_cons_succ]))
              refine wpAnyH_take (i := 18) (oi := ?o19) (v := undef) ?a19 (by kernel_rfl) (by kernel_rfl) (by kernel_rfl) ?q19 (Or.inr ⟨?g19, rfl⟩) (by assumption) ?r19; (case' a19 => (simp only [List.getElem?_toArray, List.getElem?_cons_zero, List.getElem?_cons_succ]; rfl)); (case' q19 => (exact fun _ _ _ h => h)); (case' g19 => rfl); (case' r19 => (try simp only [Act.put, List.setIfInBounds_toArray, List.set_cons_zero, List.set_cons_succ]))
              refine wpAnyH_take (i := 19) (oi := ?o20) (v := undef) ?a20 (by kernel_rfl) (by kernel_rfl) (by kernel_rfl) ?q20 (Or.inr ⟨?g20, rfl⟩) (by assumption) ?r20; (case' a20 => (simp only [List.getElem?_toArray, List.getElem?_cons_zero, List.getElem?_cons_succ]; rfl)); (case' q20 => (exact fun _ _ _ h => h)); (case' g20 => rfl); (case' r20 => (try simp only [Act.put, List.setIfInBounds_toArray, List.set_cons_zero, List.set_cons_succ]))
              refine wpAnyH_take (i := 20) (oi := ?o21) (v := ?v21) ?a21 (by kernel_rfl) (by kernel_rfl) (by kernel_rfl) ?q21 (Or.inl ⟨?g21, ?y21⟩) (by assumption) ?r21; (case' a21 => (simp only [List.getElem?_toArray, List.getElem?_cons_zero, List.getElem?_cons_succ]; rfl)); (case' q21 => (exact fun _ _ _ h => h)); (case' g21 => rfl); (case' y21 => (intro w hSw; (try dsimp only at hSw); go_simp; try with_reducible rfl)); (case' r21 => (try simp only [Act.put, List.setIfInBounds_toArray, List.set_cons_zero, List.set_cons_succ]))
              refine wpAnyH_take (i := 21) (oi := ?o22) (v := ?v22) ?a22 (by kernel_rfl) (by kernel_rfl) (by kernel_rfl) ?q22 (Or.inl ⟨?g22, ?y22⟩) (by assumption) ?r22; (case' a22 => (simp only [List.getElem?_toArray, List.getElem?_cons_zero, List.getElem?_cons_succ]; rfl)); (case' q22 => (exact fun _ _ _ h => h)); (case' g22 => rfl); (case' y22 => (intro w hSw; (try dsimp only at hSw); go_simp; try with_reducible rfl)); (case' r22 => (try simp only [Act.put, List.setIfInBounds_toArray, List.set_cons_zero, List.set_cons_succ]))
              refine wpAnyH_take (i := 22) (oi := ?o23) (v := ?v23) ?a23 (by kernel_rfl) (by kernel_rfl) (by kernel_rfl) ?q23 (Or.inl ⟨?g23, ?y23⟩) (by assumption) ?r23; (case' a23 => (simp only [List.getElem?_toArray, List.getElem?_cons_zero, List.getElem?_cons_succ]; rfl)); (case' q23 => (exact fun _ _ _ h => h)); (case' g23 => rfl); (case' y23 => (intro w hSw; (try dsimp only at hSw); go_simp; try with_reducible rfl)); (case' r23 => (try simp only [Act.put, List.setIfInBounds_toArray, List.set_cons_zero, List.set_cons_succ]))
              clear e1 e1n e1d e1i ews ewi hdi hdi0
              refine wpAnyH_ready (rs := [23]) (by kernel_rfl) (by simp) ?_
              refine AllReadyH.cons (o := ?o24) ?a24 (fun K hK => ?s24) ?m24; (case' a24 => (simp only [List.getElem?_toArray, List.getElem?_cons_zero, List.getElem?_cons_succ]; rfl))
              case s24 =>
                go_simp
                go_at_call 22
                refine (fixed6_any _).mono ?_
                rintro e wn ⟨rfl, hbn⟩
                go_wp2_with fail
                refine hK.out _ _ (HT.out _ (acc hHeld.2 hbn)) (fun hHeld => ?_)
                clear hK K
                (try simp only [Act.put, List.setIfInBounds_toArray, List.set_cons_zero, List.set_cons_succ])
                refine wpAnyH_take (i := 24) (oi := ?o25) (v := ?v25) ?a25 (by kernel_rfl) (by kernel_rfl) (by kernel_rfl) ?q25 (Or.inl ⟨?g25, ?y25⟩) (by assumption) ?r25; (case' a25 => (simp only [List.getElem?_toArray, List.getElem?_cons_zero, List.getElem?_cons_succ]; rfl)); (case' q25 => (exact fun _ _ _ h => h)); (case' g25 => rfl); (case' y25 => (intro w hSw; (try dsimp only at hSw); go_simp; try with_reducible rfl)); (case' r25 => (try simp only [Act.put, List.setIfInBounds_toArray, List.set_cons_zero, List.set_cons_succ]))
                refine wpAnyH_take (i := 25) (oi := ?o26) (v := ?v26) ?a26 (by kernel_rfl) (by kernel_rfl) (by kernel_rfl) ?q26 (Or.inl ⟨?g26, ?y26⟩) (by assumption) ?r26; (case' a26 => (simp only [List.getElem?_toArray, List.getElem?_cons_zero, List.getElem?_cons_succ]; rfl)); (case' q26 => (exact fun _ _ _ h => h)); (case' g26 => rfl); (case' y26 => (intro w hSw; (try dsimp only at hSw); go_simp; try with_reducible rfl)); (case' r26 => (try simp only [Act.put, List.setIfInBounds_toArray, List.set_cons_zero, List.set_cons_succ]))
                refine wpAnyH_done (by kernel_rfl) ?_ _
                go_wp2_with fail
                go_ret
                exact ⟨rfl, acc M8.out.old hHeld.2⟩
              exact AllReadyH.nil
            exact AllReadyH.nil
          exact AllReadyH.nil
        · have hkn : k < sn := by rcases hnx with h | h; exact absurd h hdn; exact h
          have e1 : ((d : Int) + 1 == (ln : Int)) = false := ne_one hdn
          have e1n : (d + 1 == ln) = false := by simpa using hdn
          have e1d : decide (d + 1 = ln) = false := decide_eq_false hdn
          have e1i : (((d + 1 : Nat) : Int) == (ln : Int)) = false := ne_one hdn
          clear hnx hdn
          refine wp_region_held_drew (S := fun w' => w'.cell? ⟨xb, d * 3 + 1, none⟩ = some (.int .i64 sn) ∧ Below w8.heap.size w8 w') (by kernel_rfl) (HT.out _ (Below.refl _ _).drew) (fun hHeld => ?_)
          refine wpAnyH_take (i := 0) (oi := ?o27) (v := ?v27) ?a27 (by kernel_rfl) (by kernel_rfl) (by kernel_rfl) ?q27 (Or.inl ⟨?g27, ?y27⟩) (by assumption) ?r27; (case' a27 => (simp only [List.getElem?_toArray, List.getElem?_cons_zero]; rfl)); (case' q27 => (exact fun _ _ _ h => h)); (case' g27 => rfl); (case' y27 => (intro w hSw; (try dsimp only at hSw); go_simp; try with_reducible rfl)); (case' r27 => (try simp only [Act.put, List.setIfInBounds_toArray, List.set_cons_zero, List.set_cons_succ]))
          refine wpAnyH_take (i := 2) (oi := ?o28) (v := ?v28) ?a28 (by kernel_rfl) (by kernel_rfl) (by kernel_rfl) ?q28 (Or.inl ⟨?g28, ?y28⟩) (by assumption) ?r28; (case' a28 => (simp only [List.getElem?_toArray, List.getElem?_cons_zero, List.getElem?_cons_succ]; rfl)); (case' q28 => (exact fun _ _ _ h => h)); (case' g28 => rfl); (case' y28 => (intro w hSw; (try dsimp only at hSw); go_simp; try with_reducible rfl)); (case' r28 => (try simp only [Act.put, List.setIfInBounds_toArray, List.set_cons_zero, List.set_cons_succ]))
          refine wpAnyH_take (i := 3) (oi := ?o29) (v := ?v29) ?a29 (by kernel_rfl) (by kernel_rfl) (by kernel_rfl) ?q29 (Or.inl ⟨?g29, ?y29⟩) (by assumption) ?r29; (case' a29 => (simp only [List.getElem?_toArray, List.getElem?_cons_zero, List.getElem?_cons_succ]; rfl)); (case' q29 => (exact fun _ _ _ h => h)); (case' g29 => rfl); (case' y29 => (intro w hSw; (try dsimp only at hSw); go_simp; try with_reducible rfl)); (case' r29 => (try simp only [Act.put, List.setIfInBounds_toArray, List.set_cons_zero, List.set_cons_succ]))
          refine wpAnyH_take (i := 4) (oi := ?o30) (v := ?v30) ?a30 (by kernel_rfl) (by kernel_rfl) (by kernel_rfl) ?q30 (Or.inl ⟨?g30, ?y30⟩) (by assumption) ?r30; (case' a30 => (simp only [List.getElem?_toArray, List.getElem?_cons_zero, List.getElem?_cons_succ]; rfl)); (case' q30 => (exact fun _ _ _ h => h)); (case' g30 => rfl); (case' y30 => (intro w hSw; (try dsimp only at hSw); go_simp; try with_reducible rfl)); (case' r30 => (try simp only [Act.put, List.setIfInBounds_toArray, List.set_cons_zero, List.set_cons_succ]))
          refine wpAnyH_ready (rs := [1]) (by kernel_rfl) (by simp) ?_
          refine AllReadyH.cons (o := ?o31) ?a31 (fun K hK => ?s31) ?m31; (case' a31 => (simp only [List.getElem?_toArray, List.getElem?_cons_zero, List.getElem?_cons_succ]; rfl))
          case s31 =>
            go_simp
            go_at_call 26
            refine (m6_segs (Lib.hid (M8.out.below hHeld.2)) hlen2 ld HLD.out).mono ?_
            rintro e wn ⟨X9, c9, ll9, rfl, -, hll9, hrs9, -, -, hbn⟩
            have HR9 := Lib.hid hrs9; have HL9 := Lib.hid hll9; have E1 := Lib.hid e1; have E1N := Lib.hid e1n; have E1D := Lib.hid e1d; have E1I := Lib.hid e1i; clear e1n e1d e1i; have EW := Lib.hid ews; have HI := Lib.hid hdi; have HI0 := Lib.hid hdi0; clear hrs9 hll9 e1 hdc hdi hdi0 hdi2 hld2 ews; have HKN := Lib.hid hkn; clear hkn
            go_wp2_with fail
            refine hK.out _ _ (HT.out _ (acc hHeld.2 hbn)) (fun hHeld => ?_)
            clear hK K
            (try simp only [Act.put, List.setIfInBounds_toArray, List.set_cons_zero, List.set_cons_succ])
            refine wpAnyH_ready (rs := [5]) (by kernel_rfl) (by simp) ?_
            refine AllReadyH.cons (o := ?o32) ?a32 (fun K hK => ?s32) ?m32; (case' a32 => (simp only [List.getElem?_toArray, List.getElem?_cons_zero, List.getElem?_cons_succ]; rfl))
            case s32 =>
              go_simp
              go_at_call 27
              refine (rsegs_is X9 (some ⟨xb, d * 3, none⟩) ll9 (ll.drop d) ld c9 _ wn.heap.size _ (Lib.hid HR9.out.t) (Lib.hid (ReadsT.mono (RD4.out.below (hHeld.2.mono Z8)) (Nat.le_trans Z8 hHeld.2.size))) (Nat.le_refl _) (by rw [← HLD.out, ← HL9.out, List.length_map]) hld1000 (Lib.hid (HL9.out.trans LD.out.symm)) (Lib.hid (fun r hr => HFW.out r.s (by rw [← HL9.out]; exact List.mem_map_of_mem hr)))).mono ?_
              rintro e wn ⟨rfl, hbn⟩
              go_wp2_with fail
              refine hK.out _ _ (HT.out _ (acc hHeld.2 hbn)) (fun hHeld => ?_)
              clear hK K
              (try simp only [Act.put, List.setIfInBounds_toArray, List.set_cons_zero, List.set_cons_succ])
              have e1 := E1.out; have e1n := E1N.out; have e1d := E1D.out; have e1i := E1I.out; have ews := EW.out; have ewi := EWI.out; have hdi := HI.out; have hdi0 := HI0.out; have hkn := HKN.out
              refine wpAnyH_take (i := 6) (oi := ?o33) (v := ?v33) ?a33 (by kernel_rfl) (by kernel_rfl) (by kernel_rfl) ?q33 (Or.inl ⟨?g33, ?y33⟩) (by assumption) ?r33; (case' a33 => (simp only [List.getElem?_toArray, List.getElem?_cons_zero, List.getElem?_cons_succ]; rfl)); (case' q33 => (exact fun _ _ _ h => h)); (case' g33 => rfl); (case' y33 => (intro w hSw; (try dsimp only at hSw); go_simp; try with_reducible rfl)); (case' r33 => (try simp only [Act.put, List.setIfInBounds_toArray, List.set_cons_zero, List.set_cons_succ]))
              refine wpAnyH_take (i := 7) (oi := ?o34) (v := ?v34) ?a34 (by kernel_rfl) (by kernel_rfl) (by kernel_rfl) ?q34 (Or.inl ⟨?g34, ?y34⟩) (by assumption) ?r34; (case' a34 => (simp only [List.getElem?_toArray, List.getElem?_cons_zero, List.getElem?_cons_succ]; rfl)); (case' q34 => (exact fun _ _ _ h => h)); (case' g34 => rfl); (case' y34 => (intro w hSw; (try dsimp only at hSw); go_simp; try with_reducible rfl)); (case' r34 => (try simp only [Act.put, List.setIfInBounds_toArray, List.set_cons_zero, List.set_cons_succ]))
              refine wpAnyH_take (i := 8) (oi := ?o35) (v := ?v35) ?a35 (by kernel_rfl) (by kernel_rfl) (by kernel_rfl) ?q35 (Or.inl ⟨?g35, ?y35⟩) (by assumption) ?r35; (case' a35 => (simp only [List.getElem?_toArray, List.getElem?_cons_zero, List.getElem?_cons_succ]; rfl)); (case' q35 => (exact fun _ _ _ h => h)); (case' g35 => rfl); (case' y35 => (intro w hSw; (try dsimp only at hSw); go_simp; try with_reducible rfl)); (case' r35 => (try simp only [Act.put, List.setIfInBounds_toArray, List.set_cons_zero, List.set_cons_succ]))
              refine wpAnyH_take (i := 9) (oi := ?o36) (v := ?v36) ?a36 (by kernel_rfl) (by kernel_rfl) (by kernel_rfl) ?q36 (Or.inl ⟨?g36, ?y36⟩) (by assumption) ?r36; (case' a36 => (simp only [List.getElem?_toArray, List.getElem?_cons_zero, List.getElem?_cons_succ]; rfl)); (case' q36 => (exact fun _ _ _ h => h)); (case' g36 => rfl); (case' y36 => (intro w hSw; (try dsimp only at hSw); go_simp; try with_reducible rfl)); (case' r36 => (try simp only [Act.put, List.setIfInBounds_toArray, List.set_cons_zero, List.set_cons_succ]))
              refine wpAnyH_take (i := 10) (oi := ?o37) (v := ?v37) ?a37 (by kernel_rfl) (by kernel_rfl) (by kernel_rfl) ?q37 (Or.inl ⟨?g37, ?y37⟩) (by assumption) ?r37; (case' a37 => (simp only [List.getElem?_toArray, List.getElem?_cons_zero, List.getElem?_cons_succ]; rfl)); (case' q37 => (exact fun _ _ _ h => h)); (case' g37 => rfl); (case' y37 => (intro w hSw; (try dsimp only at hSw); go_simp; try with_reducible rfl)); (case' r37 => (try simp only [Act.put, List.setIfInBounds_toArray, List.set_cons_zero, List.set_cons_succ]))
              refine wpAnyH_take (i := 11) (oi := ?o38) (v := ?v38) ?a38 (by kernel_rfl) (by kernel_rfl) (by kernel_rfl) ?q38 (Or.inl ⟨?g38, ?y38⟩) (by assumption) ?r38; (case' a38 => (simp only [List.getElem?_toArray, List.getElem?_cons_zero, List.getElem?_cons_succ]; rfl)); (case' q38 => (exact fun _ _ _ h => h)); (case' g38 => rfl); (case' y38 => (intro w hSw; (try dsimp only at hSw); go_simp; try with_reducible rfl)); (case' r38 => (try simp only [Act.put, List.setIfInBounds_toArray, List.set_cons_zero, List.set_cons_succ]))
              refine wpAnyH_take (i := 12) (oi := ?o39) (v := ?v39) ?a39 (by kernel_rfl) (by kernel_rfl) (by kernel_rfl) ?q39 (Or.inl ⟨?g39, ?y39⟩) (by assumption) ?r39; (case' a39 => (simp only [List.getElem?_toArray, List.getElem?_cons_zero, List.getElem?_cons_succ]; rfl)); (case' q39 => (exact fun _ _ _ h => h)); (case' g39 => rfl); (case' y39 => (intro w hSw; (try dsimp only at hSw); go_simp; try with_reducible rfl)); (case' r39 => (try simp only [Act.put, List.setIfInBounds_toArray, List.set_cons_zero, List.set_cons_succ]))
              refine wpAnyH_take (i := 13) (oi := ?o40) (v := ?v40) ?a40 (by kernel_rfl) (by kernel_rfl) (by kernel_rfl) ?q40 (Or.inl ⟨?g40, ?y40⟩) (by assumption) ?r40; (case' a40 => (simp only [List.getElem?_toArray, List.getElem?_cons_zero, List.getElem?_cons_succ]; rfl)); (case' q40 => (exact fun _ _ _ h => h)); (case' g40 => rfl); (case' y40 => (intro w hSw; (try dsimp only at hSw); go_simp; try with_reducible rfl)); (case' r40 => (try simp only [Act.put, List.setIfInBounds_toArray, List.set_cons_zero, List.set_cons_succ]))
              refine wpAnyH_take (i := 14) (oi := ?o41) (v := ?v41) ?a41 (by kernel_rfl) (by kernel_rfl) (by kernel_rfl) ?q41 (Or.inl ⟨?g41, ?y41⟩) (by assumption) ?r41; (case' a41 => (simp only [List.getElem?_toArray, List.getElem?_cons_zero, List.getElem?_cons_succ]; rfl)); (case' q41 => (exact fun _ _ _ h => h)); (case' g41 => rfl); (case' y41 => (intro w hSw; (try dsimp only at hSw); go_simp; try with_reducible rfl)); (case' r41 => (try simp only [Act.put, List.setIfInBounds_toArray, List.set_cons_zero, List.set_cons_succ]))
              refine wpAnyH_take (i := 15) (oi := ?o42) (v := ?v42) ?a42 (by kernel_rfl) (by kernel_rfl) (by kernel_rfl) ?q42 (Or.inl ⟨?g42, ?y42⟩) (by assumption) ?r42; (case' a42 => (simp only [List.getElem?_toArray, List.getElem?_cons_zero, List.getElem?_cons_succ]; rfl)); (case' q42 => (exact fun _ _ _ h => h)); (case' g42 => rfl); (case' y42 => (intro w hSw; (try dsimp only at hSw); go_simp; try with_reducible rfl)); (case' r42 => (try simp only [Act.put, List.setIfInBounds_toArray, List.set_cons_zero, List.set_cons_succ]))
              refine wpAnyH_take (i := 16) (oi := ?o43) (v := ?v43) ?a43 (by kernel_rfl) (by kernel_rfl) (by kernel_rfl) ?q43 (Or.inl ⟨?g43, ?y43⟩) (by assumption) ?r43; (case' a43 => (simp only [List.getElem?_toArray, List.getElem?_cons_zero, List.getElem?_cons_succ]; rfl)); (case' q43 => (exact fun _ _ _ h => h)); (case' g43 => rfl); (case' y43 => (intro w hSw; (try dsimp only at hSw); go_simp; try with_reducible rfl)); (case' r43 => (try simp only [Act.put, List.setIfInBounds_toArray, List.set_cons_zero, List.set_cons_succ]))
              refine wpAnyH_take (i := 17) (oi := ?o44) (v := ?v44) ?a44 (by kernel_rfl) (by kernel_rfl) (by kernel_rfl) ?q44 (Or.inl ⟨?g44, ?y44⟩) (by assumption) ?r44; (case' a44 => (simp only [List.getElem?_toArray, List.getElem?_cons_zero, List.getElem?_cons_succ]; rfl)); (case' q44 => (exact fun _ _ _ h => h)); (case' g44 => rfl); (case' y44 => (intro w hSw; (try dsimp only at hSw); go_simp; try with_reducible rfl)); (case' r44 => (try simp only [Act.put, List.setIfInBounds_toArray, List.set_cons_zero, List.set_cons_succ]))
              refine wpAnyH_take (i := 18) (oi := ?o45) (v := ?v45) ?a45 (by kernel_rfl) (by kernel_rfl) (by kernel_rfl) ?q45 (Or.inl ⟨?g45, ?y45⟩) (by assumption) ?r45; (case' a45 => (simp only [List.getElem?_toArray, List.getElem?_cons_zero, List.getElem?_cons_succ]; rfl)); (case' q45 => (exact fun _ _ _ h => h)); (case' g45 => rfl); (case' y45 => (intro w hSw; (try dsimp only at hSw); go_simp; try with_reducible rfl)); (case' r45 => (try simp only [Act.put, List.setIfInBounds_toArray, List.set_cons_zero, List.set_cons_succ]))
              refine wpAnyH_take (i := 19) (oi := ?o46) (v := ?v46) ?a46 (by kernel_rfl) (by kernel_rfl) (by kernel_rfl) ?q46 (Or.inl ⟨?g46, ?y46⟩) (by assumption) ?r46; (case' a46 => (simp only [List.getElem?_toArray, List.getElem?_cons_zero, List.getElem?_cons_succ]; rfl)); (case' q46 => (exact fun _ _ _ h => h)); (case' g46 => rfl); (case' y46 => (intro w hSw; (try dsimp only at hSw); go_simp; try with_reducible rfl)); (case' r46 => (try simp only [Act.put, List.setIfInBounds_toArray, List.set_cons_zero, List.set_cons_succ]))
              refine wpAnyH_take (i := 20) (oi := ?o47) (v := ?v47) ?a47 (by kernel_rfl) (by kernel_rfl) (by kernel_rfl) ?q47 (Or.inl ⟨?g47, ?y47⟩) (by assumption) ?r47; (case' a47 => (simp only [List.getElem?_toArray, List.getElem?_cons_zero, List.getElem?_cons_succ]; rfl)); (case' q47 => (exact fun _ _ _ h => h)); (case' g47 => rfl); (case' y47 => (intro w hSw; (try dsimp only at hSw); go_simp; try with_reducible rfl)); (case' r47 => (try simp only [Act.put, List.setIfInBounds_toArray, List.set_cons_zero, List.set_cons_succ]))
              refine wpAnyH_take (i := 21) (oi := ?o48) (v := ?v48) ?a48 (by kernel_rfl) (by kernel_rfl) (by kernel_rfl) ?q48 (Or.inl ⟨?g48, ?y48⟩) (by assumption) ?r48; (case' a48 => (simp only [List.getElem?_toArray, List.getElem?_cons_zero, List.getElem?_cons_succ]; rfl)); (case' q48 => (exact fun _ _ _ h => h)); (case' g48 => rfl); (case' y48 => (intro w hSw; (try dsimp only at hSw); go_simp; try with_reducible rfl)); (case' r48 => (try simp only [Act.put, List.setIfInBounds_toArray, List.set_cons_zero, List.set_cons_succ]))
              refine wpAnyH_take (i := 22) (oi := ?o49) (v := ?v49) ?a49 (by kernel_rfl) (by kernel_rfl) (by kernel_rfl) ?q49 (Or.inl ⟨?g49, ?y49⟩) (by assumption) ?r49; (case' a49 => (simp only [List.getElem?_toArray, List.getElem?_cons_zero, List.getElem?_cons_succ]; rfl)); (case' q49 => (exact fun _ _ _ h => h)); (case' g49 => rfl); (case' y49 => (intro w hSw; (try dsimp only at hSw); go_simp; try with_reducible rfl)); (case' r49 => (try simp only [Act.put, List.setIfInBounds_toArray, List.set_cons_zero, List.set_cons_succ]))
              clear e1 e1n e1d e1i ews ewi hdi hdi0
              refine wpAnyH_ready (rs := [23]) (by kernel_rfl) (by simp) ?_
              refine AllReadyH.cons (o := ?o50) ?a50 (fun K hK => ?s50) ?m50; (case' a50 => (simp only [List.getElem?_toArray, List.getElem?_cons_zero, List.getElem?_cons_succ]; rfl))
              case s50 =>
                go_simp
                go_at_call 22
                refine (fixed6_any _).mono ?_
                rintro e wn ⟨rfl, hbn⟩
                go_wp2_with fail
                refine hK.out _ _ (HT.out _ (acc hHeld.2 hbn)) (fun hHeld => ?_)
                clear hK K
                (try simp only [Act.put, List.setIfInBounds_toArray, List.set_cons_zero, List.set_cons_succ])
                refine wpAnyH_take (i := 24) (oi := ?o51) (v := ?v51) ?a51 (by kernel_rfl) (by kernel_rfl) (by kernel_rfl) ?q51 (Or.inl ⟨?g51, ?y51⟩) (by assumption) ?r51; (case' a51 => (simp only [List.getElem?_toArray, List.getElem?_cons_zero, List.getElem?_cons_succ]; rfl)); (case' q51 => (exact fun _ _ _ h => h)); (case' g51 => rfl); (case' y51 => (intro w hSw; (try dsimp only at hSw); go_simp; try with_reducible rfl)); (case' r51 => (try simp only [Act.put, List.setIfInBounds_toArray, List.set_cons_zero, List.set_cons_succ]))
                refine wpAnyH_take (i := 25) (oi := ?o52) (v := ?v52) ?a52 (by kernel_rfl) (by kernel_rfl) (by kernel_rfl) ?q52 (Or.inl ⟨?g52, ?y52⟩) (by assumption) ?r52; (case' a52 => (simp only [List.getElem?_toArray, List.getElem?_cons_zero, List.getElem?_cons_succ]; rfl)); (case' q52 => (exact fun _ _ _ h => h)); (case' g52 => rfl); (case' y52 => (intro w hSw; (try dsimp only at hSw); go_simp; try with_reducible rfl)); (case' r52 => (try simp only [Act.put, List.setIfInBounds_toArray, List.set_cons_zero, List.set_cons_succ]))
                refine wpAnyH_done (by kernel_rfl) ?_ _
                go_wp2_with fail
                go_ret
                exact ⟨rfl, acc M8.out.old hHeld.2⟩
              exact AllReadyH.nil
            exact AllReadyH.nil
          exact AllReadyH.nil
      · obtain ⟨x1, hx1⟩ : ∃ x1, endL l = x1 := ⟨_, rfl⟩
        have hge := good_end HL.out.good
        rw [hx1] at hge
        obtain ⟨hge0, hge1⟩ := hge
        have hlen' : l.length ≤ 1000 := by omega
        have HX1 := Lib.hid hx1
        obtain ⟨y, hy⟩ : ∃ y, bits .and .i64 a2 65535 = y := ⟨_, rfl⟩
        have hyb := mask_le 65535 (by decide) a2
        rw [show ((65535 : Nat) : Int) = 65535 from rfl, hy] at hyb
        obtain ⟨k, hk⟩ : ∃ k, y % (x1 + 1) = k := ⟨_, rfl⟩
        have hk0 : 0 ≤ k := by rw [← hk]; exact Int.emod_nonneg y (by omega)
        have hk1 : k < x1 + 1 := by rw [← hk]; exact Int.emod_lt_of_pos y (by omega)
        have ew : wrap64 (x1 + 1) = x1 + 1 := by simp only [wrap64]; omega
        have ew2 : IntKind.i64.wrap (x1 + 1) = x1 + 1 := by rw [IntKind.wrap_i64]; omega
        have eq1 : y.tmod (x1 + 1) = k := by rw [Int.tmod_eq_emod_of_nonneg hyb.1]; exact hk
        have eq2 : wrap64 (y.tmod (x1 + 1)) = k := by rw [eq1]; simp only [wrap64]; omega
        have eq3 : (x1 + 1 == 0) = false := by simp; omega
        obtain ⟨d, hd⟩ : ∃ d, retainN l k = d := ⟨_, rfl⟩
        have hdl : d < l.length := by rw [← hd]; exact retain_lt k HL.out.good.ne
        obtain ⟨M, hM⟩ : ∃ M, readL (allL l) k 1048576 = M := ⟨_, rfl⟩
        obtain ⟨mm, hmm⟩ : ∃ mm, M.length = mm := ⟨_, rfl⟩
        have hrr := retain_read HL.out.good (a := k) (n := 1048576)
        have hrs := retain_start HL.out.good (a := k) (by rw [HST.out]; exact hk0)
        rw [hd] at hrr hrs
        rw [hM] at hrr
        obtain ⟨x2, hx2⟩ : ∃ x, startL (l.drop d) = x := ⟨_, rfl⟩
        rw [hx2] at hrs
        have hmm1 : mm ≤ 1048576 := by rw [← hmm, ← hM]; unfold readL; rw [List.length_take]; omega
        obtain ⟨ln, hln⟩ : ∃ ln, l.length = ln := ⟨_, rfl⟩
        have HMA := Lib.hid hM
        have HMM := Lib.hid hmm
        have HRR2 := Lib.hid hrr
        have HD := Lib.hid hd
        have HX2 := Lib.hid hx2
        have HX3 : Hid (endL (l.drop d) = x1) := Lib.hid ((drop_end hdl).trans HX1.out)
        have REA : Hid (readE l k = 0) := Lib.hid (readE_ok (by rw [HST.out]; exact hk0) (by rw [hx1]; omega))
        have REB : Hid (readE (l.drop d) k = 0) := Lib.hid (readE_ok (by rw [hx2]; exact hrs) (by rw [HX3.out]; omega))
        have HLN := Lib.hid hln
        have hlen2 : (l.drop d).length ≤ 1000 := by rw [List.length_drop]; omega
        rw [hln] at hdl
        have v1 : ¬ k < x2 := by omega
        have v2 : ¬ (d : Int) < 0 := by omega
        have v3 : ¬ (ln : Int) ≤ (d : Int) := by omega
        have v4 : (x1 != x1) = false := by simp
        have hln1000 : ln ≤ 1000 := by omega
        clear hM hmm hrr hd hx2 hln hx1 hk
        go_wp2_with (first
          | (go_at_call 14; have _q := M7; refine (found_same A3 A6 M mm c3 c6 _ (Lib.hid (reads_own HMM.out P7.out)) (Lib.hid (reads_own HMM.out Q7.out)) HMM (by unfold maxLen; omega)).mono ?_; rintro e w8 ⟨rfl, hb8⟩; have M8 := Lib.hid (M7.out.below hb8); have R8 := Lib.hid (R7.out.below (hb8.mono (Nat.le_trans Z5.out (Nat.le_trans hb6.size hb7.size)))))
          | (go_at_call 25; have _q := M6; refine (m6_span M6 hlen2 x2 x1 HX2 HX3).mono ?_; rintro e w7 ⟨rfl, hb7⟩; have M7 := Lib.hid (M6.out.below hb7); have P7 := Lib.hid (own_below P6.out hb7); have Q7 := Lib.hid (own_below Q6.out hb7); have R7 := Lib.hid (R6.out.below (hb7.mono (Nat.le_trans Z5.out hb6.size))))
          | (go_at_call 12; have _q := M5; refine (m6_read M5 hlen2 k 1048576 M mm (by decide) REB HRR2 HMM.out).mono ?_; rintro e w6 ⟨A6, c6, rfl, ho6, hb6⟩; have M6 := Lib.hid (M5.out.below hb6); have Q6 := Lib.hid ho6; have P6 := Lib.hid (own_below P5.out hb6); have R6 := Lib.hid (R5.out.below (hb6.mono Z5.out)); clear ho6)
          | (go_at_call 15; have _q := M4; refine (m6_retain M4 hlen' k d HD).mono ?_; rintro e w5 ⟨rfl, S5, hm5, ho5, hs5⟩; have M5 := Lib.hid hm5; have P5 := Lib.hid (ho5.own P4.out (fun z e hm => by have h1 := (P4.out.lt z e).1; have h2 := Z2.out z hm; omega)); have R5 := Lib.hid (readsS_only R4.out ho5 (fun z e hm => by have h1 := X4.out z e; have h2 := Z3.out z hm; omega) (fun r hr z e hm => by have h1 := Y4.out r hr z e; have h2 := Z3.out z hm; omega)); have Z5 := Lib.hid ho5.size; clear hm5 ho5)
          | (go_at_call 26; have _q := M3; refine (m6_segs M3 hlen' ln HLN.out).mono ?_; rintro e w4 ⟨X4', c4, ll, rfl, hc4, hll, hrs4, hx4, hy4, hb4⟩; have M4 := Lib.hid (M3.out.below hb4); have R4 := Lib.hid hrs4; have LL := Lib.hid hll; have X4 := Lib.hid hx4; have Y4 := Lib.hid hy4; have P4 := Lib.hid (own_below P3.out hb4); have Z3 := Lib.hid M3.out.lt; clear hrs4 hll hx4 hy4)
          | (go_at_call 12; have _q := M2; refine (m6_read M2 hlen' k 1048576 M mm (by decide) REA HMA HMM.out).mono ?_; rintro e w3 ⟨A3, c3, rfl, ho3, hb3⟩; have M3 := Lib.hid (M2.out.below hb3); have P3 := Lib.hid ho3; have Z2 := Lib.hid M2.out.lt; clear ho3)
          | (go_at_call 25; refine (m6_span HL hlen' 0 x1 HST HX1).mono ?_; rintro e w2 ⟨rfl, hb2⟩; have M2 := Lib.hid (HL.out.below hb2)))
        obtain ⟨xb, sb, sn, sA, sc, sL, hX4, hxb, hsl, q0, q1, q2⟩ := told R8.out LL.out (i := d) (by rw [HLN.out]; exact hdl)
        subst hX4
        have hnx := retain_next HL.out.good (a := k) (by rw [HD.out]; exact hsl)
        rw [HD.out, HLN.out] at hnx
        obtain ⟨ld, hld⟩ : ∃ ld, (l.drop d).length = ld := ⟨_, rfl⟩
        have hld2 : ln - d = ld := by rw [← hld, List.length_drop, HLN.out]
        have HLD := Lib.hid hld
        have HFW : Hid (∀ s ∈ l.drop d, s.L.length ≤ maxLen) := Lib.hid (fun s hs => by have h1 := HL.out.good.few s (List.mem_of_mem_drop hs); have h2 := HL.out.good.r64; exact Nat.le_trans h1 (Nat.le_trans h2 (by decide)))
        have RD4 : Hid (ReadsT w8 w4.heap.size (some ⟨xb, d * 3, none⟩) (ll.drop d)) := Lib.hid (R8.out.drop d)
        have LD : Hid ((ll.drop d).map Sa.s = l.drop d) := Lib.hid (by rw [List.map_drop, LL.out])
        have Z8 : w4.heap.size ≤ w8.heap.size := Nat.le_trans Z5.out (Nat.le_trans hb6.size (Nat.le_trans hb7.size hb8.size))
        have ews := wrap_one d (Nat.le_trans (Nat.le_of_lt hdl) hln1000)
        have EWI := Lib.hid (wrap_two d (Nat.le_trans (Nat.le_of_lt hdl) hln1000))
        have hdi : (d : Int) < (ln : Int) := Int.ofNat_lt.2 hdl
        have hdi0 : (0 : Int) ≤ (d : Int) := Int.natCast_nonneg d
        have hdi2 : d ≤ ln := Nat.le_of_lt hdl
        have hld1000 : ld ≤ 1000 := hld ▸ hlen2
        have hdc : ln ≤ c4 := hc4
        clear hld q0 q2 hsl eq1 eq2 eq3 ew ew2 hy hyb hk0 hk1 hge0 hge1 hmm1 hrs v1 v2 v3 v4 hlen hj
        have HT : Hid (∀ w', Below w8.heap.size w8 w' → w'.cell? ⟨xb, d * 3 + 1, none⟩ = some (.int .i64 sn) ∧ Below w8.heap.size w8 w') := Lib.hid (fun w' hb => ⟨(hb.cell (p := ⟨xb, d * 3 + 1, none⟩) (Nat.lt_of_lt_of_le hxb Z8)).trans q1, hb⟩)
        clear q1
        by_cases hdn : d + 1 = ln
        · have e1 : ((d : Int) + 1 == (ln : Int)) = true := eq_one hdn
          have e1n : (d + 1 == ln) = true := beq_iff_eq.2 hdn
          have e1d : decide (d + 1 = ln) = true := decide_eq_true hdn
          have e1i : (((d + 1 : Nat) : Int) == (ln : Int)) = true := eq_one hdn
          clear hnx hdn
          refine wp_region_held_drew (S := fun w' => w'.cell? ⟨xb, d * 3 + 1, none⟩ = some (.int .i64 sn) ∧ Below w8.heap.size w8 w') (by kernel_rfl) (HT.out _ (Below.refl _ _).drew) (fun hHeld => ?_)
          refine wpAnyH_take (i := 0) (oi := ?o53) (v := ?v53) ?a53 (by kernel_rfl) (by kernel_rfl) (by kernel_rfl) ?q53 (Or.inl ⟨?g53, ?y53⟩) (by assumption) ?r53; (case' a53 => (simp only [List.getElem?_toArray, List.getElem?_cons_zero]; rfl)); (case' q53 => (exact fun _ _ _ h => h)); (case' g53 => rfl); (case' y53 => (intro w hSw; (try dsimp only at hSw); go_simp; try with_reducible rfl)); (case' r53 => (try simp only [Act.put, List.setIfInBounds_toArray, List.set_cons_zero, List.set_cons_succ]))
          refine wpAnyH_take (i := 2) (oi := ?o54) (v := ?v54) ?a54 (by kernel_rfl) (by kernel_rfl) (by kernel_rfl) ?q54 (Or.inl ⟨?g54, ?y54⟩) (by assumption) ?r54; (case' a54 => (simp only [List.getElem?_toArray, List.getElem?_cons_zero, List.getElem?_cons_succ]; rfl)); (case' q54 => (exact fun _ _ _ h => h)); (case' g54 => rfl); (case' y54 => (intro w hSw; (try dsimp only at hSw); go_simp; try with_reducible rfl)); (case' r54 => (try simp only [Act.put, List.setIfInBounds_toArray, List.set_cons_zero, List.set_cons_succ]))
          refine wpAnyH_take (i := 3) (oi := ?o55) (v := ?v55) ?a55 (by kernel_rfl) (by kernel_rfl) (by kernel_rfl) ?q55 (Or.inl ⟨?g55, ?y55⟩) (by assumption) ?r55; (case' a55 => (simp only [List.getElem?_toArray, List.getElem?_cons_zero, List.getElem?_cons_succ]; rfl)); (case' q55 => (exact fun _ _ _ h => h)); (case' g55 => rfl); (case' y55 => (intro w hSw; (try dsimp only at hSw); go_simp; try with_reducible rfl)); (case' r55 => (try simp only [Act.put, List.setIfInBounds_toArray, List.set_cons_zero, List.set_cons_succ]))
          refine wpAnyH_take (i := 4) (oi := ?o56) (v := ?v56) ?a56 (by kernel_rfl) (by kernel_rfl) (by kernel_rfl) ?q56 (Or.inl ⟨?g56, ?y56⟩) (by assumption) ?r56; (case' a56 => (simp only [List.getElem?_toArray, List.getElem?_cons_zero, List.getElem?_cons_succ]; rfl)); (case' q56 => (exact fun _ _ _ h => h)); (case' g56 => rfl); (case' y56 => (intro w hSw; (try dsimp only at hSw); go_simp; try with_reducible rfl)); (case' r56 => (try simp only [Act.put, List.setIfInBounds_toArray, List.set_cons_zero, List.set_cons_succ]))
          refine wpAnyH_ready (rs := [1]) (by kernel_rfl) (by simp) ?_
          refine AllReadyH.cons (o := ?o57) ?a57 (fun K hK => ?s57) ?m57; (case' a57 => (simp only [List.getElem?_toArray, List.getElem?_cons_zero, List.getElem?_cons_succ]; rfl))
          case s57 =>
            go_simp
            go_at_call 26
            refine (m6_segs (Lib.hid (M8.out.below hHeld.2)) hlen2 ld HLD.out).mono ?_
            rintro e wn ⟨X9, c9, ll9, rfl, -, hll9, hrs9, -, -, hbn⟩
            have HR9 := Lib.hid hrs9; have HL9 := Lib.hid hll9; have E1 := Lib.hid e1; have E1N := Lib.hid e1n; have E1D := Lib.hid e1d; have E1I := Lib.hid e1i; clear e1n e1d e1i; have EW := Lib.hid ews; have HI := Lib.hid hdi; have HI0 := Lib.hid hdi0; clear hrs9 hll9 e1 hdc hdi hdi0 hdi2 hld2 ews
            go_wp2_with fail
            refine hK.out _ _ (HT.out _ (acc hHeld.2 hbn)) (fun hHeld => ?_)
            clear hK K
            (try simp only [Act.put, List.setIfInBounds_toArray, List.set_cons_zero, List.set_cons_succ])
            refine wpAnyH_ready (rs := [5]) (by kernel_rfl) (by simp) ?_
            refine AllReadyH.cons (o := ?o58) ?a58 (fun K hK => ?s58) ?m58; (case' a58 => (simp only [List.getElem?_toArray, List.getElem?_cons_zero, List.getElem?_cons_succ]; rfl))
            case s58 =>
              go_simp
              go_at_call 27
              refine (rsegs_is X9 (some ⟨xb, d * 3, none⟩) ll9 (ll.drop d) ld c9 _ wn.heap.size _ (Lib.hid HR9.out.t) (Lib.hid (ReadsT.mono (RD4.out.below (hHeld.2.mono Z8)) (Nat.le_trans Z8 hHeld.2.size))) (Nat.le_refl _) (by rw [← HLD.out, ← HL9.out, List.length_map]) hld1000 (Lib.hid (HL9.out.trans LD.out.symm)) (Lib.hid (fun r hr => HFW.out r.s (by rw [← HL9.out]; exact List.mem_map_of_mem hr)))).mono ?_
              rintro e wn ⟨rfl, hbn⟩
              go_wp2_with fail
              refine hK.out _ _ (HT.out _ (acc hHeld.2 hbn)) (fun hHeld => ?_)
              clear hK K
              (try simp only [Act.put, List.setIfInBounds_toArray, List.set_cons_zero, List.set_cons_succ])
              have e1 := E1.out; have e1n := E1N.out; have e1d := E1D.out; have e1i := E1I.out; have ews := EW.out; have ewi := EWI.out; have hdi := HI.out; have hdi0 := HI0.out
              refine wpAnyH_take (i := 6) (oi := ?o59) (v := ?v59) ?a59 (by kernel_rfl) (by kernel_rfl) (by kernel_rfl) ?q59 (Or.inl ⟨?g59, ?y59⟩) (by assumption) ?r59; (case' a59 => (simp only [List.getElem?_toArray, List.getElem?_cons_zero, List.getElem?_cons_succ]; rfl)); (case' q59 => (exact fun _ _ _ h => h)); (case' g59 => rfl); (case' y59 => (intro w hSw; (try dsimp only at hSw); go_simp; try with_reducible rfl)); (case' r59 => (try simp only [Act.put, List.setIfInBounds_toArray, List.set_cons_zero, List.set_cons_succ]))
              refine wpAnyH_take (i := 7) (oi := ?o60) (v := ?v60) ?a60 (by kernel_rfl) (by kernel_rfl) (by kernel_rfl) ?q60 (Or.inl ⟨?g60, ?y60⟩) (by assumption) ?r60; (case' a60 => (simp only [List.getElem?_toArray, List.getElem?_cons_zero, List.getElem?_cons_succ]; rfl)); (case' q60 => (exact fun _ _ _ h => h)); (case' g60 => rfl); (case' y60 => (intro w hSw; (try dsimp only at hSw); go_simp; try with_reducible rfl)); (case' r60 => (try simp only [Act.put, List.setIfInBounds_toArray, List.set_cons_zero, List.set_cons_succ]))
              refine wpAnyH_take (i := 8) (oi := ?o61) (v := ?v61) ?a61 (by kernel_rfl) (by kernel_rfl) (by kernel_rfl) ?q61 (Or.inl ⟨?g61, ?y61⟩) (by assumption) ?r61; (case' a61 => (simp only [List.getElem?_toArray, List.getElem?_cons_zero, List.getElem?_cons_succ]; rfl)); (case' q61 => (exact fun _ _ _ h => h)); (case' g61 => rfl); (case' y61 => (intro w hSw; (try dsimp only at hSw); go_simp; try with_reducible rfl)); (case' r61 => (try simp only [Act.put, List.setIfInBounds_toArray, List.set_cons_zero, List.set_cons_succ]))
              refine wpAnyH_take (i := 9) (oi := ?o62) (v := ?v62) ?a62 (by kernel_rfl) (by kernel_rfl) (by kernel_rfl) ?q62 (Or.inl ⟨?g62, ?y62⟩) (by assumption) ?r62; (case' a62 => (simp only [List.getElem?_toArray, List.getElem?_cons_zero, List.getElem?_cons_succ]; rfl)); (case' q62 => (exact fun _ _ _ h => h)); (case' g62 => rfl); (case' y62 => (intro w hSw; (try dsimp only at hSw); go_simp; try with_reducible rfl)); (case' r62 => (try simp only [Act.put, List.setIfInBounds_toArray, List.set_cons_zero, List.set_cons_succ]))
              refine wpAnyH_take (i := 10) (oi := ?o63) (v := ?v63) ?a63 (by kernel_rfl) (by kernel_rfl) (by kernel_rfl) ?q63 (Or.inl ⟨?g63, ?y63⟩) (by assumption) ?r63; (case' a63 => (simp only [List.getElem?_toArray, List.getElem?_cons_zero, List.getElem?_cons_succ]; rfl)); (case' q63 => (exact fun _ _ _ h => h)); (case' g63 => rfl); (case' y63 => (intro w hSw; (try dsimp only at hSw); go_simp; try with_reducible rfl)); (case' r63 => (try simp only [Act.put, List.setIfInBounds_toArray, List.set_cons_zero, List.set_cons_succ]))
              refine wpAnyH_take (i := 11) (oi := ?o64) (v := ?v64) ?a64 (by kernel_rfl) (by kernel_rfl) (by kernel_rfl) ?q64 (Or.inl ⟨?g64, ?y64⟩) (by assumption) ?r64; (case' a64 => (simp only [List.getElem?_toArray, List.getElem?_cons_zero, List.getElem?_cons_succ]; rfl)); (case' q64 => (exact fun _ _ _ h => h)); (case' g64 => rfl); (case' y64 => (intro w hSw; (try dsimp only at hSw); go_simp; try with_reducible rfl)); (case' r64 => (try simp only [Act.put, List.setIfInBounds_toArray, List.set_cons_zero, List.set_cons_succ]))
              refine wpAnyH_take (i := 12) (oi := ?o65) (v := ?v65) ?a65 (by kernel_rfl) (by kernel_rfl) (by kernel_rfl) ?q65 (Or.inl ⟨?g65, ?y65⟩) (by assumption) ?r65; (case' a65 => (simp only [List.getElem?_toArray, List.getElem?_cons_zero, List.getElem?_cons_succ]; rfl)); (case' q65 => (exact fun _ _ _ h => h)); (case' g65 => rfl); (case' y65 => (intro w hSw; (try dsimp only at hSw); go_simp; try with_reducible rfl)); (case' r65 => (try simp only [Act.put, List.setIfInBounds_toArray, List.set_cons_zero, List.set_cons_succ]))
              refine wpAnyH_take (i := 13) (oi := ?o66) (v := undef) ?a66 (by kernel_rfl) (by kernel_rfl) (by kernel_rfl) ?q66 (Or.inr ⟨?g66, rfl⟩) (by assumption) ?r66; (case' a66 => (simp only [List.getElem?_toArray, List.getElem?_cons_zero, List.getElem?_cons_succ]; rfl)); (case' q66 => (exact fun _ _ _ h => h)); (case' g66 => rfl); (case' r66 => (try simp only [Act.put, List.setIfInBounds_toArray, List.set_cons_zero, List.set_cons_succ]))
              refine wpAnyH_take (i := 14) (oi := ?o67) (v := undef) ?a67 (by kernel_rfl) (by kernel_rfl) (by kernel_rfl) ?q67 (Or.inr ⟨?g67, rfl⟩) (by assumption) ?r67; (case' a67 => (simp only [List.getElem?_toArray, List.getElem?_cons_zero, List.getElem?_cons_succ]; rfl)); (case' q67 => (exact fun _ _ _ h => h)); (case' g67 => rfl); (case' r67 => (try simp only [Act.put, List.setIfInBounds_toArray, List.set_cons_zero, List.set_cons_succ]))
              refine wpAnyH_take (i := 15) (oi := ?o68) (v := undef) ?a68 (by kernel_rfl) (by kernel_rfl) (by kernel_rfl) ?q68 (Or.inr ⟨?g68, rfl⟩) (by assumption) ?r68; (case' a68 => (simp only [List.getElem?_toArray, List.getElem?_cons_zero, List.getElem?_cons_succ]; rfl)); (case' q68 => (exact fun _ _ _ h => h)); (case' g68 => rfl); (case' r68 => (try simp only [Act.put, List.setIfInBounds_toArray, List.set_cons_zero, List.set_cons_succ]))
              refine wpAnyH_take (i := 16) (oi := ?o69) (v := undef) ?a69 (by kernel_rfl) (by kernel_rfl) (by kernel_rfl) ?q69 (Or.inr ⟨?g69, rfl⟩) (by assumption) ?r69; (case' a69 => (simp only [List.getElem?_toArray, List.getElem?_cons_zero, List.getElem?_cons_succ]; rfl)); (case' q69 => (exact fun _ _ _ h => h)); (case' g69 => rfl); (case' r69 => (try simp only [Act.put, List.setIfInBounds_toArray, List.set_cons_zero, List.set_cons_succ]))
              refine wpAnyH_take (i := 17) (oi := ?o70) (v := undef) ?a70 (by kernel_rfl) (by kernel_rfl) (by kernel_rfl) ?q70 (Or.inr ⟨?g70, rfl⟩) (by assumption) ?r70; (case' a70 => (simp only [List.getElem?_toArray, List.getElem?_cons_zero, List.getElem?_cons_succ]; rfl)); (case' q70 => (exact fun _ _ _ h => h)); (case' g70 => rfl); (case' r70 => (try simp only [Act.put, List.setIfInBounds_toArray, List.set_cons_zero, List.set_cons_succ]))
              refine wpAnyH_take (i := 18) (oi := ?o71) (v := undef) ?a71 (by kernel_rfl) (by kernel_rfl) (by kernel_rfl) ?q71 (Or.inr ⟨?g71, rfl⟩) (by assumption) ?r71; (case' a71 => (simp only [List.getElem?_toArray, List.getElem?_cons_zero, List.getElem?_cons_succ]; rfl)); (case' q71 => (exact fun _ _ _ h => h)); (case' g71 => rfl); (case' r71 => (try simp only [Act.put, List.setIfInBounds_toArray, List.set_cons_zero, List.set_cons_succ]))
              refine wpAnyH_take (i := 19) (oi := ?o72) (v := undef) ?a72 (by kernel_rfl) (by kernel_rfl) (by kernel_rfl) ?q72 (Or.inr ⟨?g72, rfl⟩) (by assumption) ?r72; (case' a72 => (simp only [List.getElem?_toArray, List.getElem?_cons_zero, List.getElem?_cons_succ]; rfl)); (case' q72 => (exact fun _ _ _ h => h)); (case' g72 => rfl); (case' r72 => (try simp only [Act.put, List.setIfInBounds_toArray, List.set_cons_zero, List.set_cons_succ]))
              refine wpAnyH_take (i := 20) (oi := ?o73) (v := ?v73) ?a73 (by kernel_rfl) (by kernel_rfl) (by kernel_rfl) ?q73 (Or.inl ⟨?g73, ?y73⟩) (by assumption) ?r73; (case' a73 => (simp only [List.getElem?_toArray, List.getElem?_cons_zero, List.getElem?_cons_succ]; rfl)); (case' q73 => (exact fun _ _ _ h => h)); (case' g73 => rfl); (case' y73 => (intro w hSw; (try dsimp only at hSw); go_simp; try with_reducible rfl)); (case' r73 => (try simp only [Act.put, List.setIfInBounds_toArray, List.set_cons_zero, List.set_cons_succ]))
              refine wpAnyH_take (i := 21) (oi := ?o74) (v := ?v74) ?a74 (by kernel_rfl) (by kernel_rfl) (by kernel_rfl) ?q74 (Or.inl ⟨?g74, ?y74⟩) (by assumption) ?r74; (case' a74 => (simp only [List.getElem?_toArray, List.getElem?_cons_zero, List.getElem?_cons_succ]; rfl)); (case' q74 => (exact fun _ _ _ h => h)); (case' g74 => rfl); (case' y74 => (intro w hSw; (try dsimp only at hSw); go_simp; try with_reducible rfl)); (case' r74 => (try simp only [Act.put, List.setIfInBounds_toArray, List.set_cons_zero, List.set_cons_succ]))
              refine wpAnyH_take (i := 22) (oi := ?o75) (v := ?v75) ?a75 (by kernel_rfl) (by kernel_rfl) (by kernel_rfl) ?q75 (Or.inl ⟨?g75, ?y75⟩) (by assumption) ?r75; (case' a75 => (simp only [List.getElem?_toArray, List.getElem?_cons_zero, List.getElem?_cons_succ]; rfl)); (case' q75 => (exact fun _ _ _ h => h)); (case' g75 => rfl); (case' y75 => (intro w hSw; (try dsimp only at hSw); go_simp; try with_reducible rfl)); (case' r75 => (try simp only [Act.put, List.setIfInBounds_toArray, List.set_cons_zero, List.set_cons_succ]))
              clear e1 e1n e1d e1i ews ewi hdi hdi0
              refine wpAnyH_ready (rs := [23]) (by kernel_rfl) (by simp) ?_
              refine AllReadyH.cons (o := ?o76) ?a76 (fun K hK => ?s76) ?m76; (case' a76 => (simp only [List.getElem?_toArray, List.getElem?_cons_zero, List.getElem?_cons_succ]; rfl))
              case s76 =>
                go_simp
                go_at_call 22
                refine (fixed6_any _).mono ?_
                rintro e wn ⟨rfl, hbn⟩
                go_wp2_with fail
                refine hK.out _ _ (HT.out _ (acc hHeld.2 hbn)) (fun hHeld => ?_)
                clear hK K
                (try simp only [Act.put, List.setIfInBounds_toArray, List.set_cons_zero, List.set_cons_succ])
                refine wpAnyH_take (i := 24) (oi := ?o77) (v := ?v77) ?a77 (by kernel_rfl) (by kernel_rfl) (by kernel_rfl) ?q77 (Or.inl ⟨?g77, ?y77⟩) (by assumption) ?r77; (case' a77 => (simp only [List.getElem?_toArray, List.getElem?_cons_zero, List.getElem?_cons_succ]; rfl)); (case' q77 => (exact fun _ _ _ h => h)); (case' g77 => rfl); (case' y77 => (intro w hSw; (try dsimp only at hSw); go_simp; try with_reducible rfl)); (case' r77 => (try simp only [Act.put, List.setIfInBounds_toArray, List.set_cons_zero, List.set_cons_succ]))
                refine wpAnyH_take (i := 25) (oi := ?o78) (v := ?v78) ?a78 (by kernel_rfl) (by kernel_rfl) (by kernel_rfl) ?q78 (Or.inl ⟨?g78, ?y78⟩) (by assumption) ?r78; (case' a78 => (simp only [List.getElem?_toArray, List.getElem?_cons_zero, List.getElem?_cons_succ]; rfl)); (case' q78 => (exact fun _ _ _ h => h)); (case' g78 => rfl); (case' y78 => (intro w hSw; (try dsimp only at hSw); go_simp; try with_reducible rfl)); (case' r78 => (try simp only [Act.put, List.setIfInBounds_toArray, List.set_cons_zero, List.set_cons_succ]))
                refine wpAnyH_done (by kernel_rfl) ?_ _
                go_wp2_with fail
                go_ret
                exact ⟨rfl, acc M8.out.old hHeld.2⟩
              exact AllReadyH.nil
            exact AllReadyH.nil
          exact AllReadyH.nil
        · have hkn : k < sn := by rcases hnx with h | h; exact absurd h hdn; exact h
          have e1 : ((d : Int) + 1 == (ln : Int)) = false := ne_one hdn
          have e1n : (d + 1 == ln) = false := by simpa using hdn
          have e1d : decide (d + 1 = ln) = false := decide_eq_false hdn
          have e1i : (((d + 1 : Nat) : Int) == (ln : Int)) = false := ne_one hdn
          clear hnx hdn
          refine wp_region_held_drew (S := fun w' => w'.cell? ⟨xb, d * 3 + 1, none⟩ = some (.int .i64 sn) ∧ Below w8.heap.size w8 w') (by kernel_rfl) (HT.out _ (Below.refl _ _).drew) (fun hHeld => ?_)
          refine wpAnyH_take (i := 0) (oi := ?o79) (v := ?v79) ?a79 (by kernel_rfl) (by kernel_rfl) (by kernel_rfl) ?q79 (Or.inl ⟨?g79, ?y79⟩) (by assumption) ?r79; (case' a79 => (simp only [List.getElem?_toArray, List.getElem?_cons_zero]; rfl)); (case' q79 => (exact fun _ _ _ h => h)); (case' g79 => rfl); (case' y79 => (intro w hSw; (try dsimp only at hSw); go_simp; try with_reducible rfl)); (case' r79 => (try simp only [Act.put, List.setIfInBounds_toArray, List.set_cons_zero, List.set_cons_succ]))
          refine wpAnyH_take (i := 2) (oi := ?o80) (v := ?v80) ?a80 (by kernel_rfl) (by kernel_rfl) (by kernel_rfl) ?q80 (Or.inl ⟨?g80, ?y80⟩) (by assumption) ?r80; (case' a80 => (simp only [List.getElem?_toArray, List.getElem?_cons_zero, List.getElem?_cons_succ]; rfl)); (case' q80 => (exact fun _ _ _ h => h)); (case' g80 => rfl); (case' y80 => (intro w hSw; (try dsimp only at hSw); go_simp; try with_reducible rfl)); (case' r80 => (try simp only [Act.put, List.setIfInBounds_toArray, List.set_cons_zero, List.set_cons_succ]))
          refine wpAnyH_take (i := 3) (oi := ?o81) (v := ?v81) ?a81 (by kernel_rfl) (by kernel_rfl) (by kernel_rfl) ?q81 (Or.inl ⟨?g81, ?y81⟩) (by assumption) ?r81; (case' a81 => (simp only [List.getElem?_toArray, List.getElem?_cons_zero, List.getElem?_cons_succ]; rfl)); (case' q81 => (exact fun _ _ _ h => h)); (case' g81 => rfl); (case' y81 => (intro w hSw; (try dsimp only at hSw); go_simp; try with_reducible rfl)); (case' r81 => (try simp only [Act.put, List.setIfInBounds_toArray, List.set_cons_zero, List.set_cons_succ]))
          refine wpAnyH_take (i := 4) (oi := ?o82) (v := ?v82) ?a82 (by kernel_rfl) (by kernel_rfl) (by kernel_rfl) ?q82 (Or.inl ⟨?g82, ?y82⟩) (by assumption) ?r82; (case' a82 => (simp only [List.getElem?_toArray, List.getElem?_cons_zero, List.getElem?_cons_succ]; rfl)); (case' q82 => (exact fun _ _ _ h => h)); (case' g82 => rfl); (case' y82 => (intro w hSw; (try dsimp only at hSw); go_simp; try with_reducible rfl)); (case' r82 => (try simp only [Act.put, List.setIfInBounds_toArray, List.set_cons_zero, List.set_cons_succ]))
          refine wpAnyH_ready (rs := [1]) (by kernel_rfl) (by simp) ?_
          refine AllReadyH.cons (o := ?o83) ?a83 (fun K hK => ?s83) ?m83; (case' a83 => (simp only [List.getElem?_toArray, List.getElem?_cons_zero, List.getElem?_cons_succ]; rfl))
          case s83 =>
            go_simp
            go_at_call 26
            refine (m6_segs (Lib.hid (M8.out.below hHeld.2)) hlen2 ld HLD.out).mono ?_
            rintro e wn ⟨X9, c9, ll9, rfl, -, hll9, hrs9, -, -, hbn⟩
            have HR9 := Lib.hid hrs9; have HL9 := Lib.hid hll9; have E1 := Lib.hid e1; have E1N := Lib.hid e1n; have E1D := Lib.hid e1d; have E1I := Lib.hid e1i; clear e1n e1d e1i; have EW := Lib.hid ews; have HI := Lib.hid hdi; have HI0 := Lib.hid hdi0; clear hrs9 hll9 e1 hdc hdi hdi0 hdi2 hld2 ews; have HKN := Lib.hid hkn; clear hkn
            go_wp2_with fail
            refine hK.out _ _ (HT.out _ (acc hHeld.2 hbn)) (fun hHeld => ?_)
            clear hK K
            (try simp only [Act.put, List.setIfInBounds_toArray, List.set_cons_zero, List.set_cons_succ])
            refine wpAnyH_ready (rs := [5]) (by kernel_rfl) (by simp) ?_
            refine AllReadyH.cons (o := ?o84) ?a84 (fun K hK => ?s84) ?m84; (case' a84 => (simp only [List.getElem?_toArray, List.getElem?_cons_zero, List.getElem?_cons_succ]; rfl))
            case s84 =>
              go_simp
              go_at_call 27
              refine (rsegs_is X9 (some ⟨xb, d * 3, none⟩) ll9 (ll.drop d) ld c9 _ wn.heap.size _ (Lib.hid HR9.out.t) (Lib.hid (ReadsT.mono (RD4.out.below (hHeld.2.mono Z8)) (Nat.le_trans Z8 hHeld.2.size))) (Nat.le_refl _) (by rw [← HLD.out, ← HL9.out, List.length_map]) hld1000 (Lib.hid (HL9.out.trans LD.out.symm)) (Lib.hid (fun r hr => HFW.out r.s (by rw [← HL9.out]; exact List.mem_map_of_mem hr)))).mono ?_
              rintro e wn ⟨rfl, hbn⟩
              go_wp2_with fail
              refine hK.out _ _ (HT.out _ (acc hHeld.2 hbn)) (fun hHeld => ?_)
              clear hK K
              (try simp only [Act.put, List.setIfInBounds_toArray, List.set_cons_zero, List.set_cons_succ])
              have e1 := E1.out; have e1n := E1N.out; have e1d := E1D.out; have e1i := E1I.out; have ews := EW.out; have ewi := EWI.out; have hdi := HI.out; have hdi0 := HI0.out; have hkn := HKN.out
              refine wpAnyH_take (i := 6) (oi := ?o85) (v := ?v85) ?a85 (by kernel_rfl) (by kernel_rfl) (by kernel_rfl) ?q85 (Or.inl ⟨?g85, ?y85⟩) (by assumption) ?r85; (case' a85 => (simp only [List.getElem?_toArray, List.getElem?_cons_zero, List.getElem?_cons_succ]; rfl)); (case' q85 => (exact fun _ _ _ h => h)); (case' g85 => rfl); (case' y85 => (intro w hSw; (try dsimp only at hSw); go_simp; try with_reducible rfl)); (case' r85 => (try simp only [Act.put, List.setIfInBounds_toArray, List.set_cons_zero, List.set_cons_succ]))
              refine wpAnyH_take (i := 7) (oi := ?o86) (v := ?v86) ?a86 (by kernel_rfl) (by kernel_rfl) (by kernel_rfl) ?q86 (Or.inl ⟨?g86, ?y86⟩) (by assumption) ?r86; (case' a86 => (simp only [List.getElem?_toArray, List.getElem?_cons_zero, List.getElem?_cons_succ]; rfl)); (case' q86 => (exact fun _ _ _ h => h)); (case' g86 => rfl); (case' y86 => (intro w hSw; (try dsimp only at hSw); go_simp; try with_reducible rfl)); (case' r86 => (try simp only [Act.put, List.setIfInBounds_toArray, List.set_cons_zero, List.set_cons_succ]))
              refine wpAnyH_take (i := 8) (oi := ?o87) (v := ?v87) ?a87 (by kernel_rfl) (by kernel_rfl) (by kernel_rfl) ?q87 (Or.inl ⟨?g87, ?y87⟩) (by assumption) ?r87; (case' a87 => (simp only [List.getElem?_toArray, List.getElem?_cons_zero, List.getElem?_cons_succ]; rfl)); (case' q87 => (exact fun _ _ _ h => h)); (case' g87 => rfl); (case' y87 => (intro w hSw; (try dsimp only at hSw); go_simp; try with_reducible rfl)); (case' r87 => (try simp only [Act.put, List.setIfInBounds_toArray, List.set_cons_zero, List.set_cons_succ]))
              refine wpAnyH_take (i := 9) (oi := ?o88) (v := ?v88) ?a88 (by kernel_rfl) (by kernel_rfl) (by kernel_rfl) ?q88 (Or.inl ⟨?g88, ?y88⟩) (by assumption) ?r88; (case' a88 => (simp only [List.getElem?_toArray, List.getElem?_cons_zero, List.getElem?_cons_succ]; rfl)); (case' q88 => (exact fun _ _ _ h => h)); (case' g88 => rfl); (case' y88 => (intro w hSw; (try dsimp only at hSw); go_simp; try with_reducible rfl)); (case' r88 => (try simp only [Act.put, List.setIfInBounds_toArray, List.set_cons_zero, List.set_cons_succ]))
              refine wpAnyH_take (i := 10) (oi := ?o89) (v := ?v89) ?a89 (by kernel_rfl) (by kernel_rfl) (by kernel_rfl) ?q89 (Or.inl ⟨?g89, ?y89⟩) (by assumption) ?r89; (case' a89 => (simp only [List.getElem?_toArray, List.getElem?_cons_zero, List.getElem?_cons_succ]; rfl)); (case' q89 => (exact fun _ _ _ h => h)); (case' g89 => rfl); (case' y89 => (intro w hSw; (try dsimp only at hSw); go_simp; try with_reducible rfl)); (case' r89 => (try simp only [Act.put, List.setIfInBounds_toArray, List.set_cons_zero, List.set_cons_succ]))
              refine wpAnyH_take (i := 11) (oi := ?o90) (v := ?v90) ?a90 (by kernel_rfl) (by kernel_rfl) (by kernel_rfl) ?q90 (Or.inl ⟨?g90, ?y90⟩) (by assumption) ?r90; (case' a90 => (simp only [List.getElem?_toArray, List.getElem?_cons_zero, List.getElem?_cons_succ]; rfl)); (case' q90 => (exact fun _ _ _ h => h)); (case' g90 => rfl); (case' y90 => (intro w hSw; (try dsimp only at hSw); go_simp; try with_reducible rfl)); (case' r90 => (try simp only [Act.put, List.setIfInBounds_toArray, List.set_cons_zero, List.set_cons_succ]))
              refine wpAnyH_take (i := 12) (oi := ?o91) (v := ?v91) ?a91 (by kernel_rfl) (by kernel_rfl) (by kernel_rfl) ?q91 (Or.inl ⟨?g91, ?y91⟩) (by assumption) ?r91; (case' a91 => (simp only [List.getElem?_toArray, List.getElem?_cons_zero, List.getElem?_cons_succ]; rfl)); (case' q91 => (exact fun _ _ _ h => h)); (case' g91 => rfl); (case' y91 => (intro w hSw; (try dsimp only at hSw); go_simp; try with_reducible rfl)); (case' r91 => (try simp only [Act.put, List.setIfInBounds_toArray, List.set_cons_zero, List.set_cons_succ]))
              refine wpAnyH_take (i := 13) (oi := ?o92) (v := ?v92) ?a92 (by kernel_rfl) (by kernel_rfl) (by kernel_rfl) ?q92 (Or.inl ⟨?g92, ?y92⟩) (by assumption) ?r92; (case' a92 => (simp only [List.getElem?_toArray, List.getElem?_cons_zero, List.getElem?_cons_succ]; rfl)); (case' q92 => (exact fun _ _ _ h => h)); (case' g92 => rfl); (case' y92 => (intro w hSw; (try dsimp only at hSw); go_simp; try with_reducible rfl)); (case' r92 => (try simp only [Act.put, List.setIfInBounds_toArray, List.set_cons_zero, List.set_cons_succ]))
              refine wpAnyH_take (i := 14) (oi := ?o93) (v := ?v93) ?a93 (by kernel_rfl) (by kernel_rfl) (by kernel_rfl) ?q93 (Or.inl ⟨?g93, ?y93⟩) (by assumption) ?r93; (case' a93 => (simp only [List.getElem?_toArray, List.getElem?_cons_zero, List.getElem?_cons_succ]; rfl)); (case' q93 => (exact fun _ _ _ h => h)); (case' g93 => rfl); (case' y93 => (intro w hSw; (try dsimp only at hSw); go_simp; try with_reducible rfl)); (case' r93 => (try simp only [Act.put, List.setIfInBounds_toArray, List.set_cons_zero, List.set_cons_succ]))
              refine wpAnyH_take (i := 15) (oi := ?o94) (v := ?v94) ?a94 (by kernel_rfl) (by kernel_rfl) (by kernel_rfl) ?q94 (Or.inl ⟨?g94, ?y94⟩) (by assumption) ?r94; (case' a94 => (simp only [List.getElem?_toArray, List.getElem?_cons_zero, List.getElem?_cons_succ]; rfl)); (case' q94 => (exact fun _ _ _ h => h)); (case' g94 => rfl); (case' y94 => (intro w hSw; (try dsimp only at hSw); go_simp; try with_reducible rfl)); (case' r94 => (try simp only [Act.put, List.setIfInBounds_toArray, List.set_cons_zero, List.set_cons_succ]))
              refine wpAnyH_take (i := 16) (oi := ?o95) (v := ?v95) ?a95 (by kernel_rfl) (by kernel_rfl) (by kernel_rfl) ?q95 (Or.inl ⟨?g95, ?y95⟩) (by assumption) ?r95; (case' a95 => (simp only [List.getElem?_toArray, List.getElem?_cons_zero, List.getElem?_cons_succ]; rfl)); (case' q95 => (exact fun _ _ _ h => h)); (case' g95 => rfl); (case' y95 => (intro w hSw; (try dsimp only at hSw); go_simp; try with_reducible rfl)); (case' r95 => (try simp only [Act.put, List.setIfInBounds_toArray, List.set_cons_zero, List.set_cons_succ]))
              refine wpAnyH_take (i := 17) (oi := ?o96) (v := ?v96) ?a96 (by kernel_rfl) (by kernel_rfl) (by kernel_rfl) ?q96 (Or.inl ⟨?g96, ?y96⟩) (by assumption) ?r96; (case' a96 => (simp only [List.getElem?_toArray, List.getElem?_cons_zero, List.getElem?_cons_succ]; rfl)); (case' q96 => (exact fun _ _ _ h => h)); (case' g96 => rfl); (case' y96 => (intro w hSw; (try dsimp only at hSw); go_simp; try with_reducible rfl)); (case' r96 => (try simp only [Act.put, List.setIfInBounds_toArray, List.set_cons_zero, List.set_cons_succ]))
              refine wpAnyH_take (i := 18) (oi := ?o97) (v := ?v97) ?a97 (by kernel_rfl) (by kernel_rfl) (by kernel_rfl) ?q97 (Or.inl ⟨?g97, ?y97⟩) (by assumption) ?r97; (case' a97 => (simp only [List.getElem?_toArray, List.getElem?_cons_zero, List.getElem?_cons_succ]; rfl)); (case' q97 => (exact fun _ _ _ h => h)); (case' g97 => rfl); (case' y97 => (intro w hSw; (try dsimp only at hSw); go_simp; try with_reducible rfl)); (case' r97 => (try simp only [Act.put, List.setIfInBounds_toArray, List.set_cons_zero, List.set_cons_succ]))
              refine wpAnyH_take (i := 19) (oi := ?o98) (v := ?v98) ?a98 (by kernel_rfl) (by kernel_rfl) (by kernel_rfl) ?q98 (Or.inl ⟨?g98, ?y98⟩) (by assumption) ?r98; (case' a98 => (simp only [List.getElem?_toArray, List.getElem?_cons_zero, List.getElem?_cons_succ]; rfl)); (case' q98 => (exact fun _ _ _ h => h)); (case' g98 => rfl); (case' y98 => (intro w hSw; (try dsimp only at hSw); go_simp; try with_reducible rfl)); (case' r98 => (try simp only [Act.put, List.setIfInBounds_toArray, List.set_cons_zero, List.set_cons_succ]))
              refine wpAnyH_take (i := 20) (oi := ?o99) (v := ?v99) ?a99 (by kernel_rfl) (by kernel_rfl) (by kernel_rfl) ?q99 (Or.inl ⟨?g99, ?y99⟩) (by assumption) ?r99; (case' a99 => (simp only [List.getElem?_toArray, List.getElem?_cons_zero, List.getElem?_cons_succ]; rfl)); (case' q99 => (exact fun _ _ _ h => h)); (case' g99 => rfl); (case' y99 => (intro w hSw; (try dsimp only at hSw); go_simp; try with_reducible rfl)); (case' r99 => (try simp only [Act.put, List.setIfInBounds_toArray, List.set_cons_zero, List.set_cons_succ]))
              refine wpAnyH_take (i := 21) (oi := ?o100) (v := ?v100) ?a100 (by kernel_rfl) (by kernel_rfl) (by kernel_rfl) ?q100 (Or.inl ⟨?g100, ?y100⟩) (by assumption) ?r100; (case' a100 => (simp only [List.getElem?_toArray, List.getElem?_cons_zero, List.getElem?_cons_succ]; rfl)); (case' q100 => (exact fun _ _ _ h => h)); (case' g100 => rfl); (case' y100 => (intro w hSw; (try dsimp only at hSw); go_simp; try with_reducible rfl)); (case' r100 => (try simp only [Act.put, List.setIfInBounds_toArray, List.set_cons_zero, List.set_cons_succ]))
              refine wpAnyH_take (i := 22) (oi := ?o101) (v := ?v101) ?a101 (by kernel_rfl) (by kernel_rfl) (by kernel_rfl) ?q101 (Or.inl ⟨?g101, ?y101⟩) (by assumption) ?r101; (case' a101 => (simp only [List.getElem?_toArray, List.getElem?_cons_zero, List.getElem?_cons_succ]; rfl)); (case' q101 => (exact fun _ _ _ h => h)); (case' g101 => rfl); (case' y101 => (intro w hSw; (try dsimp only at hSw); go_simp; try with_reducible rfl)); (case' r101 => (try simp only [Act.put, List.setIfInBounds_toArray, List.set_cons_zero, List.set_cons_succ]))
              clear e1 e1n e1d e1i ews ewi hdi hdi0
              refine wpAnyH_ready (rs := [23]) (by kernel_rfl) (by simp) ?_
              refine AllReadyH.cons (o := ?o102) ?a102 (fun K hK => ?s102) ?m102; (case' a102 => (simp only [List.getElem?_toArray, List.getElem?_cons_zero, List.getElem?_cons_succ]; rfl))
              case s102 =>
                go_simp
                go_at_call 22
                refine (fixed6_any _).mono ?_
                rintro e wn ⟨rfl, hbn⟩
                go_wp2_with fail
                refine hK.out _ _ (HT.out _ (acc hHeld.2 hbn)) (fun hHeld => ?_)
                clear hK K
                (try simp only [Act.put, List.setIfInBounds_toArray, List.set_cons_zero, List.set_cons_succ])
                refine wpAnyH_take (i := 24) (oi := ?o103) (v := ?v103) ?a103 (by kernel_rfl) (by kernel_rfl) (by kernel_rfl) ?q103 (Or.inl ⟨?g103, ?y103⟩) (by assumption) ?r103; (case' a103 => (simp only [List.getElem?_toArray, List.getElem?_cons_zero, List.getElem?_cons_succ]; rfl)); (case' q103 => (exact fun _ _ _ h => h)); (case' g103 => rfl); (case' y103 => (intro w hSw; (try dsimp only at hSw); go_simp; try with_reducible rfl)); (case' r103 => (try simp only [Act.put, List.setIfInBounds_toArray, List.set_cons_zero, List.set_cons_succ]))
                refine wpAnyH_take (i := 25) (oi := ?o104) (v := ?v104) ?a104 (by kernel_rfl) (by kernel_rfl) (by kernel_rfl) ?q104 (Or.inl ⟨?g104, ?y104⟩) (by assumption) ?r104; (case' a104 => (simp only [List.getElem?_toArray, List.getElem?_cons_zero, List.getElem?_cons_succ]; rfl)); (case' q104 => (exact fun _ _ _ h => h)); (case' g104 => rfl); (case' y104 => (intro w hSw; (try dsimp only at hSw); go_simp; try with_reducible rfl)); (case' r104 => (try simp only [Act.put, List.setIfInBounds_toArray, List.set_cons_zero, List.set_cons_succ]))
                refine wpAnyH_done (by kernel_rfl) ?_ _
                go_wp2_with fail
                go_ret
                exact ⟨rfl, acc M8.out.old hHeld.2⟩
              exact AllReadyH.nil
            exact AllReadyH.nil
          exact AllReadyH.nil


set_option maxRecDepth 100000 in
set_option maxHeartbeats 1000000 in
theorem lifted (os : Os) (started : os.Started) (H : Type) (enc : TypeId × Value → H) :
    ReturnsInHanded {} Try.checked os 6 .any (Rows.plogRetainsSpec.pre6 enc Try.prog Try.f6 Rows.plogRetainsRow.domain false) (Rows.plogRetainsSpec.post enc Try.prog Try.f6 false true false false) := by
  refine returnsInHanded_of_change (C := Try.checked) own started (by kernel_rfl) Try.func6
    (ChangeSpec.witness6 (enc := enc) (C := Try.checked) false ⟨#[], #[.int .i64 0, .slice none 0 0, .int .i64 0], []⟩ 8 (by kernel_rfl) (by kernel_rfl) (by kernel_rfl) (by kernel_rfl)) ?_
  intro W base args ds gs before hval0 hW _ _
  have hval : ∀ (j : Nat) t v, Try.f6.params[j]? = some t → args[j]? = some v → Value.okWide Try.prog W .any base t v := hval0
  have hW' := hW
  obtain ⟨p, q, hA0, hV, rfl, hfz, hnd⟩ := hW
  have hA : DataW.TrodAll enc Try.prog W 0 (fun _ => true) true Try.f6.params.toList args.toList ds p := hA0
  rw [Try.params6] at hA hval
  obtain ⟨v0, vs0, d0, ds0, p0, q0, hargs, rfl, rfl, h0, r0⟩ := trodAll_cons hA
  obtain ⟨v1, vs1, d1, ds1, p1, q1, rfl, rfl, rfl, h1, r1⟩ := trodAll_cons r0
  obtain ⟨v2, vs2, d2, ds2, p2, q2, rfl, rfl, rfl, h2, r2⟩ := trodAll_cons r1
  obtain ⟨rfl, rfl, rfl⟩ := trodAll_nil r2
  obtain rfl : args = #[v0, v1, v2] := by cases args; simp_all
  obtain ⟨rfl, rfl⟩ := trodVars_none hV
  have k0 := h0
  have lt0 : ∀ x ∈ p0, x.block < W.heap.size := by obtain ⟨m, hm⟩ := k0; exact DataW.trod_lt m _ _ _ hm
  have k1 := h1
  have lt1 : ∀ x ∈ p1, x.block < W.heap.size := by obtain ⟨m, hm⟩ := k1; exact DataW.trod_lt m _ _ _ hm
  have k2 := h2
  have lt2 : ∀ x ∈ p2, x.block < W.heap.size := by obtain ⟨m, hm⟩ := k2; exact DataW.trod_lt m _ _ _ hm
  obtain ⟨a0, e0, _, _, w0⟩ := open_int Try.underlying3 (hval 0 3 v0 rfl rfl) h0
  subst e0
  obtain ⟨A1, l1, c1, e1, R1⟩ := L6.open_scr (hval 1 22 v1 rfl rfl) h1
  subst e1
  obtain ⟨a2, e2, _, _, w2⟩ := open_int Try.underlying3 (hval 2 3 v2 rfl rfl) h2
  subst e2
  clear hA0 hval0
  refine (walk W a0 w0 A1 l1 c1 R1 a2 w2).mono fun e W' ⟨he, bel⟩ => ?_
  subst he
  exact ⟨_, rfl, _, _, _, [], _, [], hW', trodAll_mk1 (shut_bool Try.underlying4 _), (trodAll_cons_mk (Below.trod laidOut (by kernel_rfl) (of_decide_eq_true (by kernel_rfl)) k0 bel lt0) (trodAll_cons_mk (Below.trod laidOut (by kernel_rfl) (of_decide_eq_true (by kernel_rfl)) k1 bel lt1) (trodAll_cons_mk (Below.trod laidOut (by kernel_rfl) (of_decide_eq_true (by kernel_rfl)) k2 bel lt2) trodAll_mk0))), rfl, bel.frame _, fun h => by cases h⟩

theorem over : Rows.plogRetainsRow.holds Try.pinned (OpenSpec.ofChange Rows.plogRetainsSpec) :=
  OpenClaim.holds_of_wide 6 Try.f6 rfl rfl rfl rfl rfl rfl rfl ⟨rfl, rfl, rfl, rfl, rfl⟩ rfl rfl rfl rfl rfl (by kernel_rfl) Try.func6 (by kernel_rfl)
    (of_decide_eq_true (by kernel_rfl)) (by unfold Func.isWrapper; first | (rw [if_pos (by decide +kernel)]; kernel_rfl) | (rw [if_neg (by decide +kernel)]; exact ⟨rfl, rfl⟩))
    (fun os started H enc _ => lifted os started H enc)

/-- the statement -/
theorem proved : Rows.PlogRetainsSaid :=
  over
#print axioms proved
end Go.Proofs.Ytnpclekckopgiaa.plogRetains
