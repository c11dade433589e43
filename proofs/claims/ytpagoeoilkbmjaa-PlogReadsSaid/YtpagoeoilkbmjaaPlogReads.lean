/-
  Proved: read in pieces of any sizes, one behind the other, a log tells all its records, each once (of at most 30 appends). No condition.
-/
import Derived.Test.YtpagoeoilkbmjaaRows
import Derived.WalkKit
import Derived.ProofKit
import Derived.OpenShut
import Derived.ShutString
import Derived.ChangeOld
import Derived.Below
import Derived.Test.YtpagoeoilkbmjaaPlLaws
import Derived.Deep.QuietTactic
import Derived.BigQuiet
import Derived.LoopTactic
namespace Go.Proofs.Ytpagoeoilkbmjaa.plogReads
open Go.ChangeShapes Go.WideShapes Go.ChangeAt Go.RowKit
open Go.ChangeMaps (open_string shut_string)
open L3 L4 L5 L6

theorem own : ownKnob Try.prog.godebug = none := by kernel_rfl
theorem laidOut : laidOutB Try.prog = true := by kernel_rfl


theorem all_rise : ∀ {q : Option Int} {l : List Sg}, chained q l → (∀ s ∈ l, L5.Good s.b s.n s.L) → 0 < l.length → riseB (startL l) (endL l) (allL l) = true
  | _, [], _, _, h => by simp at h
  | q, [s], _, hg, _ => by
    show riseB s.b s.n (s.L ++ []) = true
    rw [List.append_nil]; exact (hg s (by simp)).rise
  | q, s :: t :: r, hc, hg, _ => by
    have ih := all_rise (l := t :: r) hc.2 (fun u hu => hg u (List.mem_cons_of_mem _ hu)) (by simp)
    have hb : t.b = s.n := hc.2.1 _ rfl
    have gs := hg s (by simp)
    have he : startL (t :: r) ≤ endL (t :: r) := by
      have g2 : ∀ u ∈ t :: r, L5.Good u.b u.n u.L := fun u hu => hg u (List.mem_cons_of_mem _ hu)
      obtain ⟨u, hu⟩ : ∃ u, (t :: r)[(t :: r).length - 1]? = some u := ⟨_, List.getElem?_eq_getElem (by simp)⟩
      rw [end_is hu]
      have h1 := chained_rise hc.2 g2 0 _ t u (Nat.zero_le _) rfl hu
      have h2 := (g2 t (by simp)).bn
      show t.b ≤ u.n
      omega
    have e1 : startL (t :: r) = s.n := hb
    rw [e1] at ih he
    exact rise_app gs.rise gs.bn he ih
theorem pos_next {b n : Int} {M : List L4.Fd} (h : riseB b n M = true) {r : Nat} {f : L4.Fd} (hf : M[r]? = some f) : posF M (f.o + 1) = r + 1 := by
  have h1 := (pos_low (a := f.o + 1) h r f hf).1 (by omega)
  by_cases h2 : r + 1 < posF M (f.o + 1)
  · obtain ⟨f', hf'⟩ : ∃ f', M[r + 1]? = some f' := ⟨_, List.getElem?_eq_getElem (by have := posF_le M (f.o + 1); omega)⟩
    have h3 := (pos_low (a := f.o + 1) h (r + 1) f' hf').2 h2
    have h4 := rise_lt h r (r + 1) f f' (by omega) hf hf'
    omega
  · omega
theorem like_all {l l' : List Sg} (h : Like l l') : (allL l').length ≤ (allL l).length := by
  have key : ∀ (l l' : List Sg), l'.length = l.length → (∀ (i : Nat) (s s' : Sg), l[i]? = some s → l'[i]? = some s' → s'.L.length ≤ s.L.length) → (allL l').length ≤ (allL l).length := by
    intro l
    induction l with
    | nil => intro l' hl _; have : l' = [] := List.eq_nil_of_length_eq_zero hl; subst this; exact Nat.le_refl _
    | cons s t ih =>
      intro l' hl h
      cases l' with
      | nil => simp at hl
      | cons s' t' =>
        have h1 := h 0 s s' rfl rfl
        have h2 := ih t' (by simpa using hl) (fun i a b ha hb => h (i + 1) a b (by simpa using ha) (by simpa using hb))
        show (s'.L ++ allL t').length ≤ (s.L ++ allL t).length
        simp only [List.length_append]
        omega
  exact key l l' h.len (fun i s s' a b => (h.at_ i s s' a b).2.2.2)
theorem take_read {M : List L4.Fd} {p q k mm : Nat} (hm : M.length = mm) (hp : p ≤ mm) (hq : min k (mm - p) = q) : M.take p ++ (M.drop p).take k = M.take (p + q) := by
  rw [List.take_add]
  congr 1
  by_cases h : k ≤ mm - p
  · rw [show q = k by omega]
  · rw [List.take_of_length_le (by rw [List.length_drop]; omega), List.take_of_length_le (by rw [List.length_drop]; omega)]
theorem reads_k {W : World} {g : Nat} (h : W.heap[g]? = some (.cells #[.bool true, .string ⟨#[97]⟩, .bool false, .string ⟨#[98]⟩] 41 (0, 0))) : Reads W (g + 1) (some ⟨g, 0, none⟩) [rkv 97 98] := reads_rows h rfl
theorem found_same (A A' : Option Addr) (M : List L4.Fd) (m c c' : Nat) (w : World) (hR : Hid (ReadsF w w.heap.size A M)) (hR' : Hid (ReadsF w w.heap.size A' M)) (hm : M.length = m) (hl : m ≤ maxLen) :
    Calls Try.prog 17 #[.slice A m c, .slice A' m c'] w fun e w' => e = .returned (.bool true) ∧ Below w.heap.size w w' := by
  subst hm
  exact rfound_is A A' M M c c' w.heap.size true w hR hR' (Nat.le_refl _) hl (Lib.hid (by simp))

theorem keep_xb {w5 w6 wr : World} {b3 xb p q c5 c2 r : Nat} {A2 : Option Addr} {T T2 : TypeId} {X : List L4.Fd} {ys : List Value} {f : L4.Fd} (h : w5.ownsRow wr.heap.size T 5 (.slice (some ⟨xb, 0, none⟩) q c5) q (rowF X)) (hg : w5.grownBy w6 (Value.slice A2 p c2).ownBlock) (h2 : wr.ownsRow b3 T2 5 (.slice A2 p c2) p ys) (hx : X[r]? = some f) : w6.cell? ⟨xb, r * 5, none⟩ = some (.int .i64 f.o) := by
  have c := (own_cells h hx).1
  have hlt := h.lt xb rfl
  exact (World.cell?_of_block (a := ⟨xb, r * 5, none⟩) (hg.block xb hlt.2 (fun e => by have := (h2.lt xb e.symm).2; omega))).trans c
set_option maxRecDepth 100000 in
set_option maxHeartbeats 16000000 in
theorem walk (w : World) (a0 : Int) (_ : (Lit.int .i64 a0).wf = true) (A1 : Option Addr) (l1 : List L6.Scr) (c1 : Nat) (R1 : IsScr w A1 l1) (a2 : Int) (_ : (Lit.int .i64 a2).wf = true) :
    Calls Try.prog 10 #[.int .i64 a0, .slice A1 l1.length c1, .int .i64 a2] w fun e w' => e = .returned (.bool true) ∧ Below w.heap.size w w' := by
  obtain ⟨i0, hi0, hz0, hz1, hz2⟩ := info_parts fdInfo
  obtain ⟨b, hbm⟩ : ∃ b, bits .and .i64 a0 15 = b := ⟨_, rfl⟩
  have hb := mask_le 15 (by decide) a0
  rw [show ((15 : Nat) : Int) = 15 from rfl, hbm] at hb
  obtain ⟨rm, hrm⟩ : ∃ rm : Nat, 1 + b = (rm : Int) := ⟨(1 + b).toNat, by omega⟩
  have NE : Hid (newE6 (rm : Int) = 0) := Lib.hid (by unfold newE6; rw [if_neg (by omega)])
  obtain ⟨b2, hbm2⟩ : ∃ b, bits .and .i64 a2 7 = b := ⟨_, rfl⟩
  have hb2' := mask_le 7 (by decide) a2
  rw [show ((7 : Nat) : Int) = 7 from rfl, hbm2] at hb2'
  obtain ⟨kk, hkk⟩ : ∃ kk : Nat, 1 + b2 = (kk : Int) := ⟨(1 + b2).toNat, by omega⟩
  have kk1 : 1 ≤ kk := by omega
  have kk8 : kk ≤ 8 := by omega
  have ekk : wrap64 (1 + b2) = (kk : Int) := by rw [hkk]; simp only [wrap64]; omega
  obtain ⟨n, hn⟩ : ∃ n, l1.length = n := ⟨_, rfl⟩
  obtain ⟨HOPS, HC, hnm⟩ := R1
  rw [hn] at hnm ⊢
  unfold maxLen at hnm
  have HN := Lib.hid hn
  have SMK : Hid (∀ r ∈ [rkv 97 98], r.key.size ≤ maxLen ∧ r.val.size ≤ maxLen) := Lib.hid (by decide)
  clear hn
  go_enter Try.func10, Try.ntmps10
  go_wp2_with (go_at_call 25; refine (m6_new rm w w (Lib.hid (Below.refl _ _)) NE).mono ?_; rintro e w1 ⟨g, S1, rfl, hm1, _, _⟩; have M1 := Lib.hid hm1; clear hm1)
  clear hbm hrm hb
  go_loopw [9] (fun i wr => ∃ (j : Nat) (S : List Nat) (l : List Sg), j ≤ 30 ∧ i = .int .i64 j ∧ Hid (LogAt w wr rm g l S) ∧ l.length ≤ j + 1 ∧ endL l ≤ (j : Int) ∧ Hid (startL l = 0) ∧ (allL l).length ≤ j) (fun i _ => 30 - (intOf i).toNat)
  case atStart => exact ⟨0, S1, [sg0], by omega, rfl, M1, by decide, by decide, Lib.hid rfl, by decide⟩
  case round =>
    clear M1
    obtain ⟨j, S, l, hj, rfl, HL, hlen, hend, HST, hal⟩ := hrel
    by_cases hlt : j < n ∧ j < 30
    · obtain ⟨h1, h2⟩ := hlt
      obtain ⟨og, oo, rfl, hog, hcells⟩ := HOPS.out (by rw [HN.out]; omega)
      obtain ⟨⟨kd, fr, nn, RA, rl, rc⟩, hr⟩ : ∃ r, l1[j]? = some r := ⟨_, List.getElem?_eq_getElem (by rw [HN.out]; omega)⟩
      have hold := HL.out.old
      obtain ⟨c0, _, _, c3⟩ := hcells j _ hr
      dsimp only at c0 c3
      have d0 := (hold.cell (p := ⟨og, oo + j * 4, none⟩) hog).trans c0
      have d3 := (hold.cell (p := ⟨og, oo + j * 4 + 3, none⟩) hog).trans c3
      obtain ⟨rn, hrn⟩ : ∃ rn, rl.length = rn := ⟨_, rfl⟩
      rw [hrn] at d3
      have j0 : (0 : Int) ≤ (j : Int) := by omega
      have j1 : (j : Int) < (n : Int) := by omega
      have j2 : (j : Int) < 30 := by omega
      have hogw : og < wr.heap.size := Nat.lt_of_lt_of_le hog hold.size
      have hlen' : l.length ≤ 1000 := by omega
      obtain ⟨l', hl'⟩ : ∃ l', appL rm [rkv 97 98] l = l' := ⟨_, rfl⟩
      have hge := good_end HL.out.good
      have AE : L6.appE rm l [rkv 97 98] = 0 := by
        have h0 : chkL [rkv 97 98] = 0 := by decide
        have hr1 := HL.out.good.r1
        unfold L6.appE
        rw [if_neg (by rw [h0]; simp), if_neg (by simp; omega), if_neg (by simp; omega)]
      have hln := app_len rm [rkv 97 98] l
      have hst := app_start rm [rkv 97 98] HL.out.good.ne
      have hed := app_end rm [rkv 97 98] HL.out.good.ne
      have hal := app_all rm [rkv 97 98] HL.out.good.ne
      have hal2 : (allL l').length = (allL l).length + 1 := by rw [← hl', hal, List.length_append, numbered_len]; rfl
      rw [hl'] at hst hed hln
      have HAE := Lib.hid AE
      have HL' := Lib.hid hl'
      have HST2 : Hid (startL l' = 0) := Lib.hid (hst.trans HST.out)
      have hed2 : endL l' ≤ ((j + 1 : Nat) : Int) := by rw [hed]; simp; omega
      have hal3 : (allL l').length ≤ j + 1 := by omega
      have hln3 : l'.length ≤ j + 1 + 1 := by omega
      have hln4 : l'.length ≤ 1000 := by omega
      clear hcells hr c0 c3 hrn hold AE hl' hln hst hed hal hal2 hge
      by_cases hrn0 : 0 < rn
      · have r1 : (0 : Int) < (rn : Int) := by omega
        by_cases hk3 : kd = 3
        · subst hk3
          obtain ⟨lc, hlc⟩ : ∃ lc, (comp l').1 = lc := ⟨_, rfl⟩
          obtain ⟨yc, hyc⟩ : ∃ y, (comp l').2.2 = y := ⟨_, rfl⟩
          have hlk := comp_like l'
          rw [hlc] at hlk
          have HC := Lib.hid hlc
          have HYC := Lib.hid hyc
          have HST3 := Lib.hid (like_start hlk)
          have HED3 := Lib.hid (like_end hlk)
          have HAL3 := Lib.hid (like_all hlk)
          have HLN3 := Lib.hid hlk.len
          clear hlc hyc hlk
          go_wp2_with (first
            | (go_at_call 33; have _q := M2; refine (m6_compact M2 hln4 lc yc HC HYC).mono ?_; rintro e w3 ⟨rfl, S3, hm3, _, _⟩; have M3 := Lib.hid hm3; clear hm3)
            | (go_at_call 27; have _q := M1; refine (m6_append (Lib.hid (M1.out.below (one_box _))) (by omega) (some ⟨w1.heap.size, 0, none⟩) [rkv 97 98] 1 1 (w1.heap.size + 1) (Lib.hid (reads_k (heap_alloc_new w1 _))) (Lib.hid (fun z e hm => by have h1 := M1.out.lt z hm; have h2 : w1.heap.size = z := Option.some.inj e; omega)) (by simp) rfl (by decide) SMK HAE).mono ?_; rw [HL'.out]; rintro e w2 ⟨rfl, S2, hm2, ho2, _⟩; have M2 := Lib.hid hm2; have q0 := keep_cell d0 hb1; have q0 := (ho2.cell (p := ⟨og, oo + j * 4, none⟩) ((World.cell?_alloc_lt _ _ _ (by have := World.block_lt_of_cell? _ _ q0; exact this)).trans q0) (fun hm => by have q9 : w.heap.size ≤ og := M1.out.since _ hm; omega)); clear hm2 ho2)
            | (go_at_call 36; refine (key_any ⟨#[97]⟩ ⟨#[98]⟩ _).mono ?_; rintro e w1 ⟨rfl, hb1⟩; have M1 := Lib.hid (HL.out.below hb1)))
          go_roundw
          case rel => exact ⟨j + 1, S3, lc, by omega, by go_num, M3, by rw [HLN3.out]; omega, by rw [HED3.out]; exact hed2, Lib.hid (HST3.out.trans HST2.out), Nat.le_trans HAL3.out hal3⟩
          case measure => simp [intOf]; omega
        · have k3 : (kd == 3) = false := by simpa using hk3
          clear hk3
          go_wp2_with (first
            | (go_at_call 27; have _q := M1; refine (m6_append (Lib.hid (M1.out.below (one_box _))) (by omega) (some ⟨w1.heap.size, 0, none⟩) [rkv 97 98] 1 1 (w1.heap.size + 1) (Lib.hid (reads_k (heap_alloc_new w1 _))) (Lib.hid (fun z e hm => by have h1 := M1.out.lt z hm; have h2 : w1.heap.size = z := Option.some.inj e; omega)) (by simp) rfl (by decide) SMK HAE).mono ?_; rw [HL'.out]; rintro e w2 ⟨rfl, S2, hm2, ho2, _⟩; have M2 := Lib.hid hm2; have q0 := keep_cell d0 hb1; have q0 := (ho2.cell (p := ⟨og, oo + j * 4, none⟩) ((World.cell?_alloc_lt _ _ _ (by have := World.block_lt_of_cell? _ _ q0; exact this)).trans q0) (fun hm => by have q9 : w.heap.size ≤ og := M1.out.since _ hm; omega)); clear hm2 ho2)
            | (go_at_call 36; refine (key_any ⟨#[97]⟩ ⟨#[98]⟩ _).mono ?_; rintro e w1 ⟨rfl, hb1⟩; have M1 := Lib.hid (HL.out.below hb1)))
          go_roundw
          case rel => exact ⟨j + 1, S2, l', by omega, by go_num, M2, hln3, hed2, HST2, hal3⟩
          case measure => simp [intOf]; omega
      · have r1 : ¬ (0 : Int) < (rn : Int) := by omega
        by_cases hk3 : kd = 3
        · subst hk3
          obtain ⟨lc, hlc⟩ : ∃ lc, (comp l).1 = lc := ⟨_, rfl⟩
          obtain ⟨yc, hyc⟩ : ∃ y, (comp l).2.2 = y := ⟨_, rfl⟩
          have hlk := comp_like l
          rw [hlc] at hlk
          have HC := Lib.hid hlc
          have HYC := Lib.hid hyc
          have HST3 := Lib.hid (like_start hlk)
          have HED3 := Lib.hid (like_end hlk)
          have HAL3 := Lib.hid (like_all hlk)
          have HLN3 := Lib.hid hlk.len
          clear hlc hyc hlk
          go_wp2_with (go_at_call 33; refine (m6_compact HL hlen' lc yc HC HYC).mono ?_; rintro e w3 ⟨rfl, S3, hm3, _, _⟩; have M3 := Lib.hid hm3; clear hm3)
          go_roundw
          case rel => exact ⟨j + 1, S3, lc, by omega, by go_num, M3, by rw [HLN3.out]; omega, by rw [HED3.out]; omega, Lib.hid (HST3.out.trans HST.out), Nat.le_trans HAL3.out (by omega)⟩
          case measure => simp [intOf]; omega
        · have k3 : (kd == 3) = false := by simpa using hk3
          clear hk3
          go_wp2_with fail
          go_roundw
          case rel => exact ⟨j + 1, S, l, by omega, by go_num, HL, by omega, by omega, HST, by omega⟩
          case measure => simp [intOf]; omega
    · have hd : n ≤ j ∨ (j < n ∧ 30 ≤ j) := by omega
      rcases hd with hd | ⟨hd1, hd2⟩
      · obtain ⟨M, hM⟩ : ∃ M, allL l = M := ⟨_, rfl⟩
        obtain ⟨mm, hmm⟩ : ∃ mm, M.length = mm := ⟨_, rfl⟩
        obtain ⟨x1, hx1⟩ : ∃ x1, endL l = x1 := ⟨_, rfl⟩
        have hri := all_rise HL.out.good.chain HL.out.good.good HL.out.good.ne
        have hbe := below_end HL.out.good
        have hge := good_end HL.out.good
        rw [HST.out, hx1, hM] at hri
        rw [hM, hmm] at hal
        rw [hM, hx1] at hbe
        rw [hx1] at hge hend
        have mm30 : mm ≤ 30 := by omega
        have hlen' : l.length ≤ 1000 := by omega
        have HX1 := Lib.hid hx1
        have HMA := Lib.hid hM
        have HMM := Lib.hid hmm
        have HRI := Lib.hid hri
        have HBE := Lib.hid hbe
        have RE0 : Hid (readE l 0 = 0) := Lib.hid (readE_ok (by rw [HST.out]; exact Int.le_refl _) (by rw [hx1]; exact hge.1))
        have hall : readL M 0 1048576 = M := by
          unfold readL
          rw [List.filter_eq_self.2 (fun f hf => by have := rise_mem hri f hf; simp; omega), List.take_of_length_le (by rw [hmm]; simp; omega)]
        have RL0 : Hid (readL (allL l) 0 1048576 = M) := Lib.hid (by rw [hM]; exact hall)
        have HPZ : Hid (posF M 0 = 0) := Lib.hid (List.countP_eq_zero.2 (fun f hf => by have := rise_mem hri f hf; simp; omega))
        obtain ⟨hge0, hge1⟩ := hge
        clear hM hmm hx1 hri hbe hall hal
        go_wp2_with (first
          | (go_at_call 29; have _q := M2; refine (m6_read M2 hlen' 0 1048576 M mm (by decide) RE0 RL0 HMM.out).mono ?_; rintro e w3 ⟨A3, c3, rfl, ho3, hb3⟩; have M3 := Lib.hid (M2.out.below hb3); have O3 := Lib.hid ho3; clear ho3)
          | (go_at_call 41; refine (m6_span HL hlen' 0 x1 HST HX1).mono ?_; rintro e w2 ⟨rfl, hb2⟩; have M2 := Lib.hid (HL.out.below hb2)))
        clear hkk ekk
        go_loopw [15, 16, 17] (fun a v i wr => ∃ (j p : Nat) (at_ : Int) (A2 : Option Addr) (c2 : Nat), j ≤ p ∧ p ≤ mm ∧ i = .int .i64 j ∧ a = .int .i64 at_ ∧ v = .slice A2 p c2 ∧ 0 ≤ at_ ∧ at_ ≤ 1099511627776 ∧ Hid (posF M at_ = p) ∧ Hid (wr.ownsRow w3.heap.size 43 5 (.slice A2 p c2) p (rowF (M.take p))) ∧ Below w3.heap.size w3 wr) (fun _ _ i _ => 40 - (intOf i).toNat)
        case atStart => exact ⟨0, 0, 0, some ⟨w3.heap.size, 0, none⟩, 0, by omega, by omega, rfl, rfl, rfl, by omega, by omega, HPZ, Lib.hid (by simpa [rowF] using World.ownsRow_made (size := 5) w3 #[] 0 (Nat.le_refl _) (by unfold maxLen; omega) rfl), one_box _⟩
        case round =>
          obtain ⟨j, p, at_, A2, c2, hjp, hpm, rfl, rfl, rfl, ha0, ha1, hpos, hown2, hb2⟩ := hrel
          have hj40 : (j : Int) < 40 := by omega
          have M4 := Lib.hid (M3.out.below hb2)
          have hO3 := own_below O3.out hb2
          by_cases hae : at_ < x1
          · obtain ⟨q, hq⟩ : ∃ q, min kk (mm - p) = q := ⟨_, rfl⟩
            have hrd : readL (allL l) at_ kk = (M.drop p).take kk := by rw [HMA.out, read_is HRI.out, hpos.out, Int.toNat_natCast]
            have hlx : ((M.drop p).take kk).length = q := by rw [List.length_take, List.length_drop, HMM.out]; exact hq
            have REA : Hid (readE l at_ = 0) := Lib.hid (readE_ok (by rw [HST.out]; exact ha0) (by rw [HX1.out]; omega))
            have HRD := Lib.hid hrd
            have HLX := Lib.hid hlx
            have hqk : ¬ (kk : Int) < (q : Int) := by omega
            by_cases hq0 : q = 0
            · obtain rfl : p = mm := by omega
              have q1 : ((q : Int) == 0) = true := by rw [hq0]; rfl
              have HT : Hid (M.take p = M) := Lib.hid (List.take_of_length_le (by rw [HMM.out]; omega))
              have HQ0 := Lib.hid hq0
              clear hq hrd hlx hq0
              go_wp2_with (first
                | (go_at_call 38; have _q := MA; refine (fixed6_any _).mono ?_; rintro e wz ⟨rfl, hbz⟩)
                | (go_at_call 17; have _q := M5; refine (found_same A3 A2 M p c3 c2 _ (Lib.hid (reads_own HMM.out (own_below hO3 hb5))) (Lib.hid (reads_own HMM.out (own_below (HT.out ▸ hown2.out) hb5))) HMM.out (by unfold maxLen; omega)).mono ?_; rintro e wa ⟨rfl, hba⟩; have MA := Lib.hid (M5.out.below hba))
                | (go_at_call 29; refine (m6_read M4 hlen' at_ kk ((M.drop p).take kk) q (by omega) REA HRD HLX.out).mono ?_; rintro e w5 ⟨A5, c5, rfl, ho5, hb5⟩; have M5 := Lib.hid (M4.out.below hb5)))
              go_ret
              exact ⟨rfl, acc MA.out.old hbz⟩
            · obtain ⟨r, hr⟩ : ∃ r, q = r + 1 := ⟨q - 1, by omega⟩
              have q1 : ((q : Int) == 0) = false := by simpa using hq0
              have HQP : Hid (0 < q) := Lib.hid (by omega)
              obtain ⟨f, hf⟩ : ∃ f, M[p + r]? = some f := ⟨_, List.getElem?_eq_getElem (by rw [HMM.out]; omega)⟩
              have hx : ((M.drop p).take kk)[r]? = some f := by rw [List.getElem?_take_of_lt (by omega), List.getElem?_drop]; exact hf
              have hoo := rise_mem HRI.out f (List.mem_of_getElem? hf)
              have HPN := Lib.hid (pos_next HRI.out hf)
              have HXR := Lib.hid hx
              have HTK : Hid (rowF (M.take p) ++ rowF ((M.drop p).take kk) = rowF (M.take (p + q))) := Lib.hid (by rw [← rowF_app, take_read HMM.out hpm hq])
              have H15 := Lib.hid (rowF_one ((M.drop p).take kk))
              obtain ⟨o, ho⟩ : ∃ o, f.o = o := ⟨_, rfl⟩
              have HO := Lib.hid ho
              rw [ho] at hoo
              obtain ⟨o0, o1⟩ := hoo
              have e1 : wrap64 ((q : Int) - 1) = (r : Int) := by simp only [wrap64]; omega
              have e2 : (q : Int) - 1 = (r : Int) := by omega
              have e3 : wrap64 (o + 1) = o + 1 := by simp only [wrap64]; omega
              have r0 : (0 : Int) ≤ (r : Int) := by omega
              have r1 : (r : Int) < (q : Int) := by omega
              have hpq : p + q ≤ mm := by omega
              have HR := Lib.hid hr
              have HZ3 := Lib.hid hb2.size
              clear hq hrd hlx hq0 hf hx ho hr
              go_wp2_with (first
                | (at_builtin; have _q := hb5; refine wpList_append_own _ rfl _ _ 37 (by rfl) w3.heap.size 43 i0 _ 5 56 Try.underlying37 hi0 hz0 hz1 hz2 rfl (by omega) _ p (rowF (M.take p)) (by rfl) (own_below hown2.out hb5) ⟨xb, 0, none⟩ q c5 (rowF ((M.drop p).take kk)) (by rfl) O5.out.1 (At.own O5.out) H15.out (by unfold maxLen; omega) (by omega) (Nat.le_trans HZ3.out hb5.size) ?_; intro v6 w6 hown6 hgrow6 _; have l6 := keep_xb O5.out hgrow6 hown2.out HXR.out; rw [HO.out] at l6)
                | (go_at_call 29; refine (m6_read M4 hlen' at_ kk ((M.drop p).take kk) q (by omega) REA HRD HLX.out).mono ?_; rintro e w5 ⟨A5, c5, rfl, ho5, hb5⟩; obtain ⟨xb, xc, hxv, hxb, _⟩ := ho5.form HQP.out; injection hxv with e1 e2 e3; subst e1; have O5 := Lib.hid ho5; clear ho5 e2 e3))
              rw [HTK.out] at hown6
              obtain ⟨A6, c6, rfl⟩ := own_form hown6
              go_roundw
              case rel => exact ⟨j + 1, p + q, o + 1, A6, c6, by omega, by omega, by go_num, rfl, rfl, by omega, by omega, Lib.hid (by rw [← HO.out, HPN.out, HR.out]; omega), Lib.hid hown6, (hb2.trans (hb5.mono HZ3.out)).grown hgrow6 (Nat.le_trans HZ3.out hb5.size) (fun z e => (hown2.out.lt z e).1)⟩
              case measure => simp [intOf]; omega
          · have hpe : p = mm := by
              rw [← hpos.out, ← HMM.out]
              unfold posF
              rw [List.countP_eq_length.2 (fun f hf => by have := HBE.out f hf; simp; omega)]
            subst hpe
            have HOA : Hid (wr.ownsRow w3.heap.size 43 5 (.slice A2 p c2) p (rowF M)) := Lib.hid (by have := hown2.out; rwa [List.take_of_length_le (by rw [HMM.out]; omega)] at this)
            go_wp2_with (first
              | (go_at_call 38; have _q := MA; refine (fixed6_any _).mono ?_; rintro e wz ⟨rfl, hbz⟩)
              | (go_at_call 17; refine (found_same A3 A2 M p c3 c2 _ (Lib.hid (reads_own HMM.out (own_below O3.out hb2))) (Lib.hid (reads_own HMM.out HOA.out)) HMM.out (by unfold maxLen; omega)).mono ?_; rintro e wa ⟨rfl, hba⟩; have MA := Lib.hid (M4.out.below hba)))
            go_ret
            exact ⟨rfl, acc MA.out.old hbz⟩
      · obtain ⟨M, hM⟩ : ∃ M, allL l = M := ⟨_, rfl⟩
        obtain ⟨mm, hmm⟩ : ∃ mm, M.length = mm := ⟨_, rfl⟩
        obtain ⟨x1, hx1⟩ : ∃ x1, endL l = x1 := ⟨_, rfl⟩
        have hri := all_rise HL.out.good.chain HL.out.good.good HL.out.good.ne
        have hbe := below_end HL.out.good
        have hge := good_end HL.out.good
        rw [HST.out, hx1, hM] at hri
        rw [hM, hmm] at hal
        rw [hM, hx1] at hbe
        rw [hx1] at hge hend
        have mm30 : mm ≤ 30 := by omega
        have hlen' : l.length ≤ 1000 := by omega
        have HX1 := Lib.hid hx1
        have HMA := Lib.hid hM
        have HMM := Lib.hid hmm
        have HRI := Lib.hid hri
        have HBE := Lib.hid hbe
        have RE0 : Hid (readE l 0 = 0) := Lib.hid (readE_ok (by rw [HST.out]; exact Int.le_refl _) (by rw [hx1]; exact hge.1))
        have hall : readL M 0 1048576 = M := by
          unfold readL
          rw [List.filter_eq_self.2 (fun f hf => by have := rise_mem hri f hf; simp; omega), List.take_of_length_le (by rw [hmm]; simp; omega)]
        have RL0 : Hid (readL (allL l) 0 1048576 = M) := Lib.hid (by rw [hM]; exact hall)
        have HPZ : Hid (posF M 0 = 0) := Lib.hid (List.countP_eq_zero.2 (fun f hf => by have := rise_mem hri f hf; simp; omega))
        obtain ⟨hge0, hge1⟩ := hge
        clear hM hmm hx1 hri hbe hall hal
        go_wp2_with (first
          | (go_at_call 29; have _q := M2; refine (m6_read M2 hlen' 0 1048576 M mm (by decide) RE0 RL0 HMM.out).mono ?_; rintro e w3 ⟨A3, c3, rfl, ho3, hb3⟩; have M3 := Lib.hid (M2.out.below hb3); have O3 := Lib.hid ho3; clear ho3)
          | (go_at_call 41; refine (m6_span HL hlen' 0 x1 HST HX1).mono ?_; rintro e w2 ⟨rfl, hb2⟩; have M2 := Lib.hid (HL.out.below hb2)))
        clear hkk ekk
        go_loopw [15, 16, 17] (fun a v i wr => ∃ (j p : Nat) (at_ : Int) (A2 : Option Addr) (c2 : Nat), j ≤ p ∧ p ≤ mm ∧ i = .int .i64 j ∧ a = .int .i64 at_ ∧ v = .slice A2 p c2 ∧ 0 ≤ at_ ∧ at_ ≤ 1099511627776 ∧ Hid (posF M at_ = p) ∧ Hid (wr.ownsRow w3.heap.size 43 5 (.slice A2 p c2) p (rowF (M.take p))) ∧ Below w3.heap.size w3 wr) (fun _ _ i _ => 40 - (intOf i).toNat)
        case atStart => exact ⟨0, 0, 0, some ⟨w3.heap.size, 0, none⟩, 0, by omega, by omega, rfl, rfl, rfl, by omega, by omega, HPZ, Lib.hid (by simpa [rowF] using World.ownsRow_made (size := 5) w3 #[] 0 (Nat.le_refl _) (by unfold maxLen; omega) rfl), one_box _⟩
        case round =>
          obtain ⟨j, p, at_, A2, c2, hjp, hpm, rfl, rfl, rfl, ha0, ha1, hpos, hown2, hb2⟩ := hrel
          have hj40 : (j : Int) < 40 := by omega
          have M4 := Lib.hid (M3.out.below hb2)
          have hO3 := own_below O3.out hb2
          by_cases hae : at_ < x1
          · obtain ⟨q, hq⟩ : ∃ q, min kk (mm - p) = q := ⟨_, rfl⟩
            have hrd : readL (allL l) at_ kk = (M.drop p).take kk := by rw [HMA.out, read_is HRI.out, hpos.out, Int.toNat_natCast]
            have hlx : ((M.drop p).take kk).length = q := by rw [List.length_take, List.length_drop, HMM.out]; exact hq
            have REA : Hid (readE l at_ = 0) := Lib.hid (readE_ok (by rw [HST.out]; exact ha0) (by rw [HX1.out]; omega))
            have HRD := Lib.hid hrd
            have HLX := Lib.hid hlx
            have hqk : ¬ (kk : Int) < (q : Int) := by omega
            by_cases hq0 : q = 0
            · obtain rfl : p = mm := by omega
              have q1 : ((q : Int) == 0) = true := by rw [hq0]; rfl
              have HT : Hid (M.take p = M) := Lib.hid (List.take_of_length_le (by rw [HMM.out]; omega))
              have HQ0 := Lib.hid hq0
              clear hq hrd hlx hq0
              go_wp2_with (first
                | (go_at_call 38; have _q := MA; refine (fixed6_any _).mono ?_; rintro e wz ⟨rfl, hbz⟩)
                | (go_at_call 17; have _q := M5; refine (found_same A3 A2 M p c3 c2 _ (Lib.hid (reads_own HMM.out (own_below hO3 hb5))) (Lib.hid (reads_own HMM.out (own_below (HT.out ▸ hown2.out) hb5))) HMM.out (by unfold maxLen; omega)).mono ?_; rintro e wa ⟨rfl, hba⟩; have MA := Lib.hid (M5.out.below hba))
                | (go_at_call 29; refine (m6_read M4 hlen' at_ kk ((M.drop p).take kk) q (by omega) REA HRD HLX.out).mono ?_; rintro e w5 ⟨A5, c5, rfl, ho5, hb5⟩; have M5 := Lib.hid (M4.out.below hb5)))
              go_ret
              exact ⟨rfl, acc MA.out.old hbz⟩
            · obtain ⟨r, hr⟩ : ∃ r, q = r + 1 := ⟨q - 1, by omega⟩
              have q1 : ((q : Int) == 0) = false := by simpa using hq0
              have HQP : Hid (0 < q) := Lib.hid (by omega)
              obtain ⟨f, hf⟩ : ∃ f, M[p + r]? = some f := ⟨_, List.getElem?_eq_getElem (by rw [HMM.out]; omega)⟩
              have hx : ((M.drop p).take kk)[r]? = some f := by rw [List.getElem?_take_of_lt (by omega), List.getElem?_drop]; exact hf
              have hoo := rise_mem HRI.out f (List.mem_of_getElem? hf)
              have HPN := Lib.hid (pos_next HRI.out hf)
              have HXR := Lib.hid hx
              have HTK : Hid (rowF (M.take p) ++ rowF ((M.drop p).take kk) = rowF (M.take (p + q))) := Lib.hid (by rw [← rowF_app, take_read HMM.out hpm hq])
              have H15 := Lib.hid (rowF_one ((M.drop p).take kk))
              obtain ⟨o, ho⟩ : ∃ o, f.o = o := ⟨_, rfl⟩
              have HO := Lib.hid ho
              rw [ho] at hoo
              obtain ⟨o0, o1⟩ := hoo
              have e1 : wrap64 ((q : Int) - 1) = (r : Int) := by simp only [wrap64]; omega
              have e2 : (q : Int) - 1 = (r : Int) := by omega
              have e3 : wrap64 (o + 1) = o + 1 := by simp only [wrap64]; omega
              have r0 : (0 : Int) ≤ (r : Int) := by omega
              have r1 : (r : Int) < (q : Int) := by omega
              have hpq : p + q ≤ mm := by omega
              have HR := Lib.hid hr
              have HZ3 := Lib.hid hb2.size
              clear hq hrd hlx hq0 hf hx ho hr
              go_wp2_with (first
                | (at_builtin; have _q := hb5; refine wpList_append_own _ rfl _ _ 37 (by rfl) w3.heap.size 43 i0 _ 5 56 Try.underlying37 hi0 hz0 hz1 hz2 rfl (by omega) _ p (rowF (M.take p)) (by rfl) (own_below hown2.out hb5) ⟨xb, 0, none⟩ q c5 (rowF ((M.drop p).take kk)) (by rfl) O5.out.1 (At.own O5.out) H15.out (by unfold maxLen; omega) (by omega) (Nat.le_trans HZ3.out hb5.size) ?_; intro v6 w6 hown6 hgrow6 _; have l6 := keep_xb O5.out hgrow6 hown2.out HXR.out; rw [HO.out] at l6)
                | (go_at_call 29; refine (m6_read M4 hlen' at_ kk ((M.drop p).take kk) q (by omega) REA HRD HLX.out).mono ?_; rintro e w5 ⟨A5, c5, rfl, ho5, hb5⟩; obtain ⟨xb, xc, hxv, hxb, _⟩ := ho5.form HQP.out; injection hxv with e1 e2 e3; subst e1; have O5 := Lib.hid ho5; clear ho5 e2 e3))
              rw [HTK.out] at hown6
              obtain ⟨A6, c6, rfl⟩ := own_form hown6
              go_roundw
              case rel => exact ⟨j + 1, p + q, o + 1, A6, c6, by omega, by omega, by go_num, rfl, rfl, by omega, by omega, Lib.hid (by rw [← HO.out, HPN.out, HR.out]; omega), Lib.hid hown6, (hb2.trans (hb5.mono HZ3.out)).grown hgrow6 (Nat.le_trans HZ3.out hb5.size) (fun z e => (hown2.out.lt z e).1)⟩
              case measure => simp [intOf]; omega
          · have hpe : p = mm := by
              rw [← hpos.out, ← HMM.out]
              unfold posF
              rw [List.countP_eq_length.2 (fun f hf => by have := HBE.out f hf; simp; omega)]
            subst hpe
            have HOA : Hid (wr.ownsRow w3.heap.size 43 5 (.slice A2 p c2) p (rowF M)) := Lib.hid (by have := hown2.out; rwa [List.take_of_length_le (by rw [HMM.out]; omega)] at this)
            go_wp2_with (first
              | (go_at_call 38; have _q := MA; refine (fixed6_any _).mono ?_; rintro e wz ⟨rfl, hbz⟩)
              | (go_at_call 17; refine (found_same A3 A2 M p c3 c2 _ (Lib.hid (reads_own HMM.out (own_below O3.out hb2))) (Lib.hid (reads_own HMM.out HOA.out)) HMM.out (by unfold maxLen; omega)).mono ?_; rintro e wa ⟨rfl, hba⟩; have MA := Lib.hid (M4.out.below hba)))
            go_ret
            exact ⟨rfl, acc MA.out.old hbz⟩


set_option maxRecDepth 100000 in
set_option maxHeartbeats 1000000 in
theorem lifted (os : Os) (started : os.Started) (H : Type) (enc : TypeId × Value → H) :
    ReturnsInHanded {} Try.checked os 10 .any (Rows.plogReadsSpec.pre6 enc Try.prog Try.f10 Rows.plogReadsRow.domain false) (Rows.plogReadsSpec.post enc Try.prog Try.f10 false true false false) := by
  refine returnsInHanded_of_change (C := Try.checked) own started (by kernel_rfl) Try.func10
    (ChangeSpec.witness6 (enc := enc) (C := Try.checked) false ⟨#[], #[.int .i64 0, .slice none 0 0, .int .i64 0], []⟩ 8 (by kernel_rfl) (by kernel_rfl) (by kernel_rfl) (by kernel_rfl)) ?_
  intro W base args ds gs before hval0 hW _ _
  have hval : ∀ (j : Nat) t v, Try.f10.params[j]? = some t → args[j]? = some v → Value.okWide Try.prog W .any base t v := hval0
  have hW' := hW
  obtain ⟨p, q, hA0, hV, rfl, hfz, hnd⟩ := hW
  have hA : DataW.TrodAll enc Try.prog W 0 (fun _ => true) true Try.f10.params.toList args.toList ds p := hA0
  rw [Try.params10] at hA hval
  obtain ⟨v0, vs0, d0, ds0, p0, q0, hargs, rfl, rfl, h0, r0⟩ := trodAll_cons hA
  obtain ⟨v1, vs1, d1, ds1, p1, q1, rfl, rfl, rfl, h1, r1⟩ := trodAll_cons r0
  obtain ⟨v2, vs2, d2, ds2, p2, q2, rfl, rfl, rfl, h2, r2⟩ := trodAll_cons r1
  obtain ⟨rfl, rfl, rfl⟩ := trodAll_nil r2
  obtain rfl : args = #[v0, v1, v2] := by cases args; simp_all
  obtain ⟨rfl, rfl⟩ := trodVars_none hV
  have k0 := h0
  have lt0 : ∀ x ∈ p0, x.block < W.heap.size := by obtain ⟨m, hm⟩ := k0; exact DataW.trod_lt m _ _ _ hm
  have k1 := h1
  have lt1 : ∀ x ∈ p1, x.block < W.heap.size := by obtain ⟨m, hm⟩ := k1; exact DataW.trod_lt m _ _ _ hm
  have k2 := h2
  have lt2 : ∀ x ∈ p2, x.block < W.heap.size := by obtain ⟨m, hm⟩ := k2; exact DataW.trod_lt m _ _ _ hm
  obtain ⟨a0, e0, _, _, w0⟩ := open_int Try.underlying3 (hval 0 3 v0 rfl rfl) h0
  subst e0
  obtain ⟨A1, l1, c1, e1, R1⟩ := L6.open_scr (hval 1 50 v1 rfl rfl) h1
  subst e1
  obtain ⟨a2, e2, _, _, w2⟩ := open_int Try.underlying3 (hval 2 3 v2 rfl rfl) h2
  subst e2
  clear hA0 hval0
  refine (walk W a0 w0 A1 l1 c1 R1 a2 w2).mono fun e W' ⟨he, bel⟩ => ?_
  subst he
  exact ⟨_, rfl, _, _, _, [], _, [], hW', trodAll_mk1 (shut_bool Try.underlying4 _), (trodAll_cons_mk (Below.trod laidOut (by kernel_rfl) (of_decide_eq_true (by kernel_rfl)) k0 bel lt0) (trodAll_cons_mk (Below.trod laidOut (by kernel_rfl) (of_decide_eq_true (by kernel_rfl)) k1 bel lt1) (trodAll_cons_mk (Below.trod laidOut (by kernel_rfl) (of_decide_eq_true (by kernel_rfl)) k2 bel lt2) trodAll_mk0))), rfl, bel.frame _, fun h => by cases h⟩

theorem over : Rows.plogReadsRow.holds Try.pinned (OpenSpec.ofChange Rows.plogReadsSpec) :=
  OpenClaim.holds_of_wide 10 Try.f10 rfl rfl rfl rfl rfl rfl rfl ⟨rfl, rfl, rfl, rfl, rfl⟩ rfl rfl rfl rfl rfl (by kernel_rfl) Try.func10 (by kernel_rfl)
    (of_decide_eq_true (by kernel_rfl)) (by unfold Func.isWrapper; first | (rw [if_pos (by decide +kernel)]; kernel_rfl) | (rw [if_neg (by decide +kernel)]; exact ⟨rfl, rfl⟩))
    (fun os started H enc _ => lifted os started H enc)

/-- the statement -/
theorem proved : Rows.PlogReadsSaid :=
  over
#print axioms proved
end Go.Proofs.Ytpagoeoilkbmjaa.plogReads
