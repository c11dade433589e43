/-
  Proved: compacted, of each key its last record is there, as it was, and all without a key; of closed segments no key is there twice; nothing else changes (of at most 30 appends). No condition.
-/
import Derived.Test.YtajnaeijkflklaaRows
import Derived.WalkKit
import Derived.ProofKit
import Derived.OpenShut
import Derived.ShutString
import Derived.ChangeOld
import Derived.Below
import Derived.Test.YtajnaeijkflklaaPlRsegs
import Derived.Test.YtajnaeijkflklaaPlComp
import Derived.Deep.QuietTactic
import Derived.BigQuiet
import Derived.Deep.RegionHeld3
import Derived.Deep.RegionLaw
import Derived.Deep.DeepCutAuto
import Derived.Deep.Cut
import Derived.Deep.CutBlock
import Derived.LoopTactic
namespace Go.Proofs.Ytajnaeijkflklaa.plogCompacts
open Go.ChangeShapes Go.WideShapes Go.ChangeAt Go.RowKit
open Go.ChangeMaps (open_string shut_string)
open L3 L4 L5 L6

theorem own : ownKnob Try.prog.godebug = none := by kernel_rfl
theorem laidOut : laidOutB Try.prog = true := by kernel_rfl


theorem retain_read {room : Nat} {l : List Sg} (g : GoodL room l) {a n : Int} : readL (allL (l.drop (retainN l a))) a n = readL (allL l) a n := by
  have h : allL l = allL (l.take (retainN l a)) ++ allL (l.drop (retainN l a)) := by rw [← all_app, List.take_append_drop]
  have h0 : readL (allL (l.take (retainN l a))) a n = [] := read_none (fun f hf => by
    obtain ⟨s, hs, hfs⟩ := List.mem_flatMap.1 hf
    obtain ⟨i, hi⟩ := List.mem_iff_getElem?.1 hs
    have hlt : i < retainN l a := by
      have := (List.getElem?_eq_some_iff.1 hi).1
      rw [List.length_take] at this
      omega
    rw [List.getElem?_take_of_lt hlt] at hi
    have h1 := ended_lt (a := a) hi (by unfold retainN at hlt; omega)
    have h2 := rise_mem (g.good s (List.mem_of_getElem? hi)).rise f hfs
    omega)
  rw [h, read_app, h0, List.nil_append]
  simp
theorem ReadsT.mono {w : World} {B B' : Nat} {X : Option Addr} {l : List Sa} (h : ReadsT w B X l) (hB : B ≤ B') : ReadsT w B' X l := by
  refine ⟨fun h0 => ?_, fun r hr => fun h0 => ?_⟩
  · obtain ⟨g, o, e, hg, hc⟩ := h.1 h0
    exact ⟨g, o, e, by omega, hc⟩
  · obtain ⟨g, e, hg, hc⟩ := h.2 r hr h0
    exact ⟨g, e, by omega, hc⟩
theorem keep_one {w w1 w2 : World} {p : Addr} {v : Value} (h : w1.cell? p = some v ∧ Below w.heap.size w w1) (hb : Below w1.heap.size w1 w2) : w2.cell? p = some v ∧ Below w.heap.size w w2 := ⟨keep_cell h.1 hb, acc h.2 hb⟩
theorem wrap_one (d : Nat) (h : d ≤ 1000) : wrap64 ((d : Int) + 1) = (d : Int) + 1 := by simp only [wrap64]; omega
theorem wrap_two (d : Nat) (h : d ≤ 1000) : IntKind.i64.wrap ((d : Int) + 1) = (d : Int) + 1 := by rw [IntKind.wrap_i64]; omega
theorem eq_one {d n : Nat} (h : d + 1 = n) : ((d : Int) + 1 == (n : Int)) = true := by simp; omega
theorem ne_one {d n : Nat} (h : ¬ d + 1 = n) : ((d : Int) + 1 == (n : Int)) = false := by simp; omega
theorem retain_start {room : Nat} {l : List Sg} (g : GoodL room l) {a : Int} (h : startL l ≤ a) : startL (l.drop (retainN l a)) ≤ a := by
  by_cases h0 : retainN l a = 0
  · rw [h0]; exact h
  · obtain ⟨t, ht⟩ : ∃ t, retainN l a = t + 1 := ⟨retainN l a - 1, by omega⟩
    have hlt := retain_lt a g.ne
    obtain ⟨s, hs⟩ : ∃ s, l[t]? = some s := ⟨_, List.getElem?_eq_getElem (by omega)⟩
    obtain ⟨u, hu⟩ : ∃ u, l[t + 1]? = some u := ⟨_, List.getElem?_eq_getElem (by omega)⟩
    have h1 := ended_lt hs (a := a) (by unfold retainN at ht; omega)
    have h2 := chained_at g.chain hs hu
    rw [ht, start_is (s := u) (by rw [List.getElem?_drop]; exact hu)]
    omega
theorem retain_next {room : Nat} {l : List Sg} (g : GoodL room l) {a : Int} {s : Sg} (h : l[retainN l a]? = some s) : retainN l a + 1 = l.length ∨ a < s.n := by
  by_cases h1 : ended l a ≤ l.length - 1
  · right
    rw [show retainN l a = ended l a by unfold retainN; omega] at h
    exact ended_at h
  · left
    have := g.ne
    unfold retainN; omega
theorem told {W : World} {B : Nat} {X : Option Addr} {ll : List Sa} {l : List Sg} {i : Nat} (hr : ReadsS W B X ll) (hl : ll.map Sa.s = l) (hi : i < l.length) : ∃ xb sb sn sA sc sL, X = some ⟨xb, 0, none⟩ ∧ xb < B ∧ l[i]? = some ⟨sb, sn, sL⟩ ∧ W.cell? ⟨xb, i * 3, none⟩ = some (.int .i64 sb) ∧ W.cell? ⟨xb, i * 3 + 1, none⟩ = some (.int .i64 sn) ∧ W.cell? ⟨xb, i * 3 + 2, none⟩ = some (.slice sA sL.length sc) := by
  have hlen : ll.length = l.length := by rw [← hl, List.length_map]
  obtain ⟨xb, e, hb, hc⟩ := hr.1 (by omega)
  obtain ⟨⟨sb, sn, sA, sc, sL⟩, hs⟩ : ∃ s, ll[i]? = some s := ⟨_, List.getElem?_eq_getElem (by omega)⟩
  obtain ⟨q0, q1, q2⟩ := hc i _ hs
  exact ⟨xb, sb, sn, sA, sc, sL, e, hb, by rw [← hl, List.getElem?_map, hs]; rfl, q0, q1, q2⟩
theorem wrap_sum {a b c : Nat} (h : a + b = c) (hc : c ≤ 1048576) : wrap64 ((a : Int) + (b : Int)) = (c : Int) := by simp only [wrap64]; omega
theorem wrap_sum2 {a b c : Nat} (h : a + b = c) (hc : c ≤ 1048576) : IntKind.i64.wrap ((a : Int) + (b : Int)) = (c : Int) := by rw [IntKind.wrap_i64]; omega
theorem wrap_back (p : Nat) (h : p ≤ 1000) : wrap64 ((p : Int) + 1 - 1) = (p : Int) := by simp only [wrap64]; omega
theorem wrap_same (p : Nat) (h : p ≤ 1000) : wrap64 (p : Int) = (p : Int) := by simp only [wrap64]; omega
theorem wrap_same2 (p : Nat) (h : p ≤ 1000) : IntKind.i64.wrap (p : Int) = (p : Int) := by rw [IntKind.wrap_i64]; omega
theorem wrap_up {i m : Nat} (h : i < m) (hm : m ≤ 1048576) : wrap64 ((i : Int) + 1) = (i : Int) + 1 := by simp only [wrap64]; omega
theorem not_none (p : Nat) : ((p : Int) + 1 == 0) = false := by simp; omega
theorem few {M : List L4.Fd} {m : Nat} {L : List L4.Fd} (h : readL L 0 1048576 = M) (hm : M.length = m) : m ≤ 1048576 := by
  rw [← hm, ← h]; unfold readL; rw [List.length_take]; exact Nat.min_le_left _ _
theorem drop_hit {N : List L4.Fd} {k : Nat} {f : L4.Fd} {t : List L4.Fd} (h : N.drop k = f :: t) : k < N.length ∧ N[k]? = some f ∧ N.drop (k + 1) = t := by
  have hl := congrArg List.length h
  rw [List.length_drop, List.length_cons] at hl
  refine ⟨by omega, ?_, ?_⟩
  · have := congrArg (·[0]?) h
    rw [List.getElem?_drop] at this
    simpa using this
  · rw [← List.drop_drop, h]; rfl
theorem cast_up (i : Nat) : ((i + 1 : Nat) : Int) = (i : Int) + 1 := by omega
theorem num_up {i : Nat} {z : Int} (h : z = (i : Int) + 1) : Value.int .i64 z = Value.int .i64 ((i + 1 : Nat) : Int) := by rw [h, cast_up]
theorem meas {m j : Nat} {z : Int} (h : j < m) (hz : z = (j : Int) + 1) : m - (intOf (.int .i64 z)).toNat < m - (intOf (.int .i64 (j : Int))).toNat := by
  subst hz
  simp [intOf]
  omega
theorem lst_next {f g : L4.Fd} {M : List L4.Fd} {j : Nat} {b : Bool} (h : M[j]? = some g) : (b && lst f (M.drop j)) = ((b && !(f.r.hk && g.r.hk && decide (f.r.key = g.r.key))) && lst f (M.drop (j + 1))) := by
  rw [lst_at h]; exact (Bool.and_assoc _ _ _).symm

set_option maxRecDepth 100000 in
set_option maxHeartbeats 16000000 in
theorem walk (w : World) (a0 : Int) (_ : (Lit.int .i64 a0).wf = true) (A1 : Option Addr) (l1 : List L6.Scr) (c1 : Nat) (R1 : IsScr w A1 l1) :
    Calls Try.prog 3 #[.int .i64 a0, .slice A1 l1.length c1] w fun e w' => e = .returned (.bool true) ∧ Below w.heap.size w w' := by
  obtain ⟨b, hbm⟩ : ∃ b, bits .and .i64 a0 15 = b := ⟨_, rfl⟩
  have hb := mask_le 15 (by decide) a0
  rw [show ((15 : Nat) : Int) = 15 from rfl, hbm] at hb
  obtain ⟨rm, hrm⟩ : ∃ rm : Nat, 1 + b = (rm : Int) := ⟨(1 + b).toNat, by omega⟩
  have NE : Hid (newE6 (rm : Int) = 0) := Lib.hid (by unfold newE6; rw [if_neg (by omega)])
  obtain ⟨n, hn⟩ : ∃ n, l1.length = n := ⟨_, rfl⟩
  obtain ⟨HOPS, HC, hnm⟩ := R1
  rw [hn] at hnm ⊢
  unfold maxLen at hnm
  have HN := Lib.hid hn
  clear hn
  go_enter Try.func3, Try.ntmps3
  go_upto_block 0 with (go_at_call 4; refine (m6_new rm w w (Lib.hid (Below.refl _ _)) NE).mono ?_; rintro e w1 ⟨g, S1, rfl, hm1, _, _⟩; have M1 := Lib.hid hm1; clear hm1)
  clear hbm hrm hb
  go_cut [7] (fun _ wc => ∃ (S : List Nat) (l : List Sg), Hid (LogAt w wc rm g l S) ∧ l.length ≤ 31 ∧ Hid (startL l = 0))
  case' first =>
   go_wp2_with fail
   go_loopw [7] (fun i wr => ∃ (j : Nat) (S : List Nat) (l : List Sg), j ≤ 30 ∧ i = .int .i64 j ∧ Hid (LogAt w wr rm g l S) ∧ l.length ≤ j + 1 ∧ Hid (startL l = 0)) (fun i _ => 30 - (intOf i).toNat)
   case' atStart => exact ⟨0, S1, [sg0], by omega, rfl, M1, by decide, Lib.hid rfl⟩
   case' round =>
     clear M1
     obtain ⟨j, S, l, hj, rfl, HL, hlen, HST⟩ := hrel
     by_cases hlt : j < n ∧ j < 30
     · obtain ⟨h1, h2⟩ := hlt
       obtain ⟨og, oo, rfl, hog, hcells⟩ := HOPS.out (by rw [HN.out]; omega)
       obtain ⟨⟨kd, fr, nn, RA, rl, rc⟩, hr⟩ : ∃ r, l1[j]? = some r := ⟨_, List.getElem?_eq_getElem (by rw [HN.out]; omega)⟩
       have hold := HL.out.old
       obtain ⟨_, _, _, c3⟩ := hcells j _ hr
       have d3 := (hold.cell (p := ⟨og, oo + j * 4 + 3, none⟩) hog).trans c3
       obtain ⟨⟨⟨HRR, HRS, hrm⟩, hrc⟩, _, _, _⟩ := HC.out _ (List.mem_of_getElem? hr)
       dsimp only at d3 HRR HRS hrm hrc
       obtain ⟨rn, hrn⟩ : ∃ rn, rl.length = rn := ⟨_, rfl⟩
       rw [hrn] at d3 hrm hrc
       have HRN := Lib.hid hrn
       obtain ⟨m, hm⟩ : ∃ m, (recsL rl).length = m := ⟨_, rfl⟩
       have hm70 : m ≤ 70 := by rw [← hm, recs_len]; omega
       have HM := Lib.hid hm
       have HSM : Hid (∀ r ∈ recsL rl, r.key.size ≤ maxLen ∧ r.val.size ≤ maxLen) := Lib.hid (fun r hr => by have := recs_small r hr; unfold maxLen; omega)
       have hlen' : l.length ≤ 1000 := by omega
       have j0 : (0 : Int) ≤ (j : Int) := by omega
       have j1 : (j : Int) < (n : Int) := by omega
       have j2 : (j : Int) < 30 := by omega
       obtain ⟨x, hx⟩ : ∃ x, L6.appE rm l (recsL rl) = x := ⟨_, rfl⟩
       clear hcells hr c3 hrn hm hold
       by_cases hx0' : x = 0
       · subst hx0'
         have HX := Lib.hid hx
         obtain ⟨l', hl'⟩ : ∃ l', appL rm (recsL rl) l = l' := ⟨_, rfl⟩
         have hln := app_len rm (recsL rl) l
         have hst := app_start rm (recsL rl) HL.out.good.ne
         rw [hl'] at hst hln
         have HL' := Lib.hid hl'
         have HST2 : Hid (startL l' = 0) := Lib.hid (hst.trans HST.out)
         have hlen3 : l'.length ≤ j + 1 + 1 := by omega
         clear hx hl' hln hst
         go_wp2_with (first
           | (go_at_call 5; have _q := M2; refine (m6_append M2 (by omega) RA2 (recsL rl) m rc2 w2.heap.size (Lib.hid (recs_own HM.out O2.out)) (Lib.hid (fun z e hm => by have h1 := (own_blk O2.out z e).1; have h2 := Z1.out z hm; omega)) (Nat.le_refl _) HM.out (by unfold maxLen; omega) HSM HX).mono ?_; rw [HL'.out]; rintro e w3 ⟨rfl, S3, hm3, _, _⟩; have M3 := Lib.hid hm3; clear hm3)
           | (go_at_call 6; refine (records_any RA rl rn rc w.heap.size _ (Lib.hid (HRR.out.below HL.out.old)) HL.out.old.size HRN.out hrm hrc HRS).mono ?_; rintro e w2 ⟨RA2, rc2, rfl, ho2, hb2⟩; rw [HM.out] at ho2 ⊢; have M2 := Lib.hid (HL.out.below hb2); have O2 := Lib.hid ho2; have Z1 := Lib.hid HL.out.lt; clear ho2))
         go_roundw
         case rel => exact ⟨j + 1, S3, l', by omega, by go_num, M3, hlen3, HST2⟩
         case measure => simp [intOf]; omega
       · have HX := Lib.hid hx
         have HXN := Lib.hid hx0'
         clear hx hx0'
         go_wp2_with (first
           | (go_at_call 5; have _q := M2; refine (m6_append_no M2 (by omega) RA2 (recsL rl) m rc2 w2.heap.size x (Lib.hid (recs_own HM.out O2.out)) (Lib.hid (fun z e hm => by have h1 := (own_blk O2.out z e).1; have h2 := Z1.out z hm; omega)) (Nat.le_refl _) HM.out (by unfold maxLen; omega) HSM HX HXN.out).mono ?_; rintro e w3 ⟨rfl, hb3⟩; have M3 := Lib.hid (M2.out.below hb3))
           | (go_at_call 6; refine (records_any RA rl rn rc w.heap.size _ (Lib.hid (HRR.out.below HL.out.old)) HL.out.old.size HRN.out hrm hrc HRS).mono ?_; rintro e w2 ⟨RA2, rc2, rfl, ho2, hb2⟩; rw [HM.out] at ho2 ⊢; have M2 := Lib.hid (HL.out.below hb2); have O2 := Lib.hid ho2; have Z1 := Lib.hid HL.out.lt; clear ho2))
         go_roundw
         case rel => exact ⟨j + 1, S, l, by omega, by go_num, M3, by omega, HST⟩
         case measure => simp [intOf]; omega
     · have hd : n ≤ j ∨ (j < n ∧ 30 ≤ j) := by omega
       rcases hd with hd | ⟨hd1, hd2⟩
       · have j1 : ¬ (j : Int) < (n : Int) := by omega
         go_wp2_with fail
         go_meet
         exact ⟨S, l, HL, by omega, HST⟩
       · have j1 : (j : Int) < (n : Int) := by omega
         have j2 : ¬ (j : Int) < 30 := by omega
         go_wp2_with fail
         go_meet
         exact ⟨S, l, HL, by omega, HST⟩
  case' rest =>
   obtain ⟨S, l, HL, hlen, HST⟩ := hcut
   obtain ⟨wr, rfl⟩ : ∃ x, x = wc := ⟨_, rfl⟩
   clear M1
   obtain ⟨x1, hx1⟩ : ∃ x1, endL l = x1 := ⟨_, rfl⟩
   have hlen' : l.length ≤ 1000 := by omega
   have HX1 := Lib.hid hx1
   have hne := HL.out.good.ne
   obtain ⟨o, ho1, ho2, hpk, hct⟩ := comp_facts HL.out.good
   have htw := comp_twice HL.out.good
   have hlk := comp_like l
   obtain ⟨l', hl'⟩ : ∃ l', (comp l).1 = l' := ⟨_, rfl⟩
   obtain ⟨y, hy⟩ : ∃ y, (comp l).2.2 = y := ⟨_, rfl⟩
   rw [hl'] at ho2 hpk hct htw hlk
   rw [hy] at hct
   have hlk2 := comp_like l'
   obtain ⟨l2, hl2⟩ : ∃ z, (comp l').1 = z := ⟨_, rfl⟩
   rw [hl2] at hlk2
   have hg' := like_good hlk HL.out.good
   obtain ⟨p, hp⟩ : ∃ p, l.length - 1 = p := ⟨_, rfl⟩
   rw [hp] at ho1 ho2
   have hlen2 : l'.length ≤ 1000 := by rw [hlk.len]; exact hlen'
   have hlen3 : l2.length ≤ 1000 := by rw [hlk2.len]; exact hlen2
   have hln2 : l2.length = p + 1 := by rw [hlk2.len, hlk.len]; omega
   obtain ⟨o2, ho3⟩ : ∃ o2, l2[p]? = some o2 := ⟨_, List.getElem?_eq_getElem (by omega)⟩
   have hob : o2.b = o.b := (hlk2.at_ p o o2 ho2 ho3).1
   obtain ⟨M, hM⟩ : ∃ M, allL l = M := ⟨_, rfl⟩
   obtain ⟨N, hN⟩ : ∃ N, allL l' = N := ⟨_, rfl⟩
   obtain ⟨mm, hmm⟩ : ∃ mm, M.length = mm := ⟨_, rfl⟩
   obtain ⟨nn, hnn⟩ : ∃ nn, N.length = nn := ⟨_, rfl⟩
   have HMA : Hid (readL (allL l) 0 1048576 = M) := Lib.hid (by rw [← hM]; exact read_whole HL.out.good hlen')
   have HMB : Hid (readL (allL l') 0 1048576 = N) := Lib.hid (by rw [← hN]; exact read_whole hg' hlen2)
   rw [hM, hN] at hpk hct
   rw [hmm, hnn] at hct
   have hmx : mm ≤ 1048576 := few HMA.out hmm
   have HPK := Lib.hid hpk
   have HMM := Lib.hid hmm
   have HNN := Lib.hid hnn
   have HLA := Lib.hid hl'
   have HLY := Lib.hid hy
   have HLB := Lib.hid hl2
   have HLZ := Lib.hid htw
   have HO3 := Lib.hid ho3
   have HLN := Lib.hid hln2
   have HSL : Hid (startL l' = 0) := Lib.hid ((like_start hlk).trans HST.out)
   have HEL : Hid (endL l' = x1) := Lib.hid ((like_end hlk).trans HX1.out)
   have HS2 : Hid (startL l2 = 0) := Lib.hid ((like_start hlk2).trans HSL.out)
   have HE2 : Hid (endL l2 = x1) := Lib.hid ((like_end hlk2).trans HEL.out)
   have he0 := (good_end HL.out.good).1
   rw [hx1] at he0
   have REA : Hid (readE l 0 = 0) := Lib.hid (readE_ok (by rw [HST.out]; omega) (by rw [hx1]; exact he0))
   have REB : Hid (readE l' 0 = 0) := Lib.hid (readE_ok (by rw [HSL.out]; omega) (by rw [HEL.out]; exact he0))
   have ew : wrap64 ((nn : Int) + (y : Int)) = (mm : Int) := wrap_sum hct hmx
   have ew2 : IntKind.i64.wrap ((nn : Int) + (y : Int)) = (mm : Int) := wrap_sum2 hct hmx
   have ev : ((mm : Int) != (mm : Int)) = false := by simp
   have ep : ((p : Int) + 1 == 0) = false := not_none p
   have nn1 : nn ≤ 1048576 := Nat.le_trans (Nat.le.intro hct) hmx
   have p1000 : p ≤ 1000 := by rw [← hp]; exact Nat.le_trans (Nat.sub_le _ _) hlen'
   clear hx1 ho1 ho2 hpk hct htw hlk hl' hy hlk2 hl2 hg' hM hN hmm hnn ho3 hln2 hne he0 hp
   go_upto_region 15 with (first
     | (go_at_call 10; have _q := M6; refine (m6_segs M6 hlen3 (p + 1) HLN.out).mono ?_; rintro e w7 ⟨X7, c7, ll, rfl, hc7, hll, hrs7, -, -, hb7⟩; have M7 := Lib.hid (M6.out.below hb7); have R7 := Lib.hid hrs7; have LL := Lib.hid hll; have P7 := Lib.hid (own_below P6.out hb7); have Q7 := Lib.hid (own_below Q6.out hb7); clear hrs7 hll hb7)
     | (go_at_call 9; have _q := M5; refine (m6_compact M5 hlen2 l2 0 HLB HLZ).mono ?_; rintro e w6 ⟨rfl, S6, hm6, ho6, hs6⟩; have M6 := Lib.hid hm6; have P6 := Lib.hid (ho6.own P5.out (fun z e hm => ZP.out z e hm)); have Q6 := Lib.hid (ho6.own Q5.out (fun z e hm => by have h1 := (Q5.out.lt z e).1; have h2 := ZQ.out z hm; omega)); clear hm6 ho6 hs6)
     | (go_at_call 8; have _q := M4; refine (m6_read M4 hlen2 0 1048576 N nn (by decide) REB HMB HNN.out).mono ?_; rintro e w5 ⟨A5, c5, rfl, ho5, hb5⟩; have M5 := Lib.hid (M4.out.below hb5); have Q5 := Lib.hid ho5; have P5 := Lib.hid (own_below P4.out hb5); have ZQ := Lib.hid M4.out.lt; clear ho5 hb5)
     | (go_at_call 9; have _q := M3; refine (m6_compact M3 hlen' l' y HLA HLY).mono ?_; rintro e w4 ⟨rfl, S4, hm4, ho4, hs4⟩; have M4 := Lib.hid hm4; have P4 := Lib.hid (ho4.own P3.out (fun z e hm => by have h1 := (P3.out.lt z e).1; have h2 := Z2.out z hm; omega)); have ZP : Hid (∀ z, Value.ownBlock (.slice A3 mm c3) = some z → z ∈ S4 → False) := Lib.hid (fun z e hm => by have h1 := P3.out.lt z e; rcases hs4 z hm with h2 | h2; (have h3 := Z2.out z h2; omega); omega); clear hm4 ho4 hs4)
     | (go_at_call 8; have _q := M2; refine (m6_read M2 hlen' 0 1048576 M mm (by decide) REA HMA HMM.out).mono ?_; rintro e w3 ⟨A3, c3, rfl, ho3, hb3⟩; have M3 := Lib.hid (M2.out.below hb3); have P3 := Lib.hid ho3; have Z2 := Lib.hid M2.out.lt; clear ho3 hb3)
     | (go_at_call 7; refine (m6_span HL hlen' 0 x1 HST HX1).mono ?_; rintro e w2 ⟨rfl, hb2⟩; have M2 := Lib.hid (HL.out.below hb2); clear hb2))
   obtain ⟨xb, sb, sn, sA, sc, sL, hX7, hxb, hsl, q0, q1, q2⟩ := told R7.out LL.out (i := p) (by rw [HLN.out]; exact Nat.lt_succ_self p)
   subst hX7
   have hsb : sb = o.b := by
     rw [HO3.out] at hsl
     injection hsl with hsl
     rw [hsl] at hob; exact hob
   have HPX : Hid (N.drop 0 = pick sb (M.drop 0)) := Lib.hid (by rw [hsb]; exact HPK.out.symm)
   have y1 : wrap64 ((p : Int) + 1 - 1) = (p : Int) := wrap_back p p1000
   have y2 : wrap64 (p : Int) = (p : Int) := wrap_same p p1000
   have y3 : IntKind.i64.wrap (p : Int) = (p : Int) := wrap_same2 p p1000
   have y4 : (0 : Int) ≤ (p : Int) := Int.natCast_nonneg p
   have y5 : (p : Int) < (p : Int) + 1 := Int.lt_succ _
   have y6 : (p : Int) + 1 - 1 = (p : Int) := Int.add_sub_cancel _ _
   have HMX := Lib.hid hmx
   have HNX := Lib.hid nn1
   clear q1 q2 hsl ew ew2 hsb hob hmx nn1 p1000
   go_wp2_with fail
   go_loopw [17, 18] (fun kv iv wx => ∃ i k : Nat, i ≤ mm ∧ k ≤ nn ∧ kv = .int .i64 k ∧ iv = .int .i64 i ∧ Hid (N.drop k = pick sb (M.drop i)) ∧ Hid (Below w7.heap.size w7 wx)) (fun _ iv _ => mm - (intOf iv).toNat)
   case atStart => exact ⟨0, 0, Nat.zero_le _, Nat.zero_le _, rfl, rfl, HPX, Lib.hid (Below.refl _ _)⟩
   case round =>
     clear HPX y1 y2 y3 y4 y5 y6 q0 ev ep
     obtain ⟨i, k, hi, hk, rfl, rfl, HK, HBX⟩ := hrel
     by_cases hlt : i < mm
     · obtain ⟨wx, hwx⟩ : ∃ x, x = wr := ⟨_, rfl⟩
       rw [← hwx] at HBX ⊢
       clear hwx
       obtain ⟨ag, hA3, hag, hc⟩ := (reads_own HMM.out (own_below P7.out HBX.out)) (by rw [HMM.out]; exact Nat.lt_of_le_of_lt (Nat.zero_le _) hlt)
       subst hA3
       obtain ⟨⟨fo, ⟨fh, fk, ft, fv⟩⟩, hf⟩ : ∃ f, M[i]? = some f := ⟨_, List.getElem?_eq_getElem (by rw [HMM.out]; exact hlt)⟩
       have HC := Lib.hid hc
       have HF := Lib.hid hf
       have j0 : (0 : Int) ≤ (i : Int) := Int.natCast_nonneg i
       have j1 : (i : Int) < (mm : Int) := Int.ofNat_lt.2 hlt
       have J2 := Lib.hid (wrap_up hlt HMX.out)
       obtain ⟨b0, hb0⟩ : ∃ b, lst ⟨fo, ⟨fh, fk, ft, fv⟩⟩ (M.drop (i + 1)) = b := ⟨_, rfl⟩
       have HB0 := Lib.hid hb0
       clear hc hf hb0
       go_upto_block 4 with fail
       go_cut [19] (fun bv wc => bv = .bool b0 ∧ Hid (Below wx.heap.size wx wc))
       case first =>
         go_wp2_with fail
         go_loopw [19, 20] (fun bv jv wy => ∃ (b : Bool) (j : Nat), i + 1 ≤ j ∧ j ≤ mm ∧ bv = .bool b ∧ jv = .int .i64 j ∧ Hid ((b && lst ⟨fo, ⟨fh, fk, ft, fv⟩⟩ (M.drop j)) = b0) ∧ Hid (Below wx.heap.size wx wy)) (fun _ jv _ => mm - (intOf jv).toNat)
         case atStart => exact ⟨true, i + 1, Nat.le_refl _, hlt, rfl, by first | exact num_up J2.out | exact num_up rfl | rfl, Lib.hid (by rw [Bool.true_and]; exact HB0.out), Lib.hid (Below.refl _ _)⟩
         case round =>
           obtain ⟨b, j, hj1, hj2, rfl, rfl, HB, HBY⟩ := hrel
           by_cases hjt : j < mm
           · obtain ⟨⟨go, ⟨gh, gk, gt, gv⟩⟩, hg⟩ : ∃ g, M[j]? = some g := ⟨_, List.getElem?_eq_getElem (by rw [HMM.out]; exact hjt)⟩
             obtain ⟨d0, d1, d2, d3, d4⟩ := HC.out j _ hg
             obtain ⟨c0_, c1_, c2_, c3_, c4_⟩ := HC.out i _ HF.out
             dsimp only at d0 d1 d2 d3 d4 c0_ c1_ c2_ c3_ c4_
             have e1 := keep_cell c1_ HBY.out
             have e2 := keep_cell c2_ HBY.out
             have k1 := keep_cell d1 HBY.out
             have k2 := keep_cell d2 HBY.out
             have HSB := Lib.hid ((lst_next (b := b) hg).symm.trans HB.out)
             have l0 : (0 : Int) ≤ (j : Int) := Int.natCast_nonneg j
             have l1 : (j : Int) < (mm : Int) := Int.ofNat_lt.2 hjt
             have L2 := Lib.hid (wrap_up hjt HMX.out)
             clear hg d0 d1 d2 d3 d4 c0_ c1_ c2_ c3_ c4_ HB
             cases fh with
             | false =>
               have HN2 : Hid ((b && lst ⟨fo, ⟨false, fk, ft, fv⟩⟩ (M.drop (j + 1))) = b0) := Lib.hid (by have := HSB.out; simpa using this)
               go_upto_region 25 with fail
               go_quiet (fail)
               have l2 := L2.out
               go_wp2_with fail
               go_roundw
               case rel => exact ⟨_, j + 1, Nat.le_succ_of_le hj1, hjt, rfl, by first | exact num_up l2 | exact num_up rfl | rfl, HN2, Lib.hid (drewN_below HBY.out _)⟩
               case measure => first | exact meas hjt rfl | exact meas hjt l2 | exact meas hjt (cast_up j)
             | true =>
               cases gh with
               | false =>
                 have HN2 : Hid ((b && lst ⟨fo, ⟨true, fk, ft, fv⟩⟩ (M.drop (j + 1))) = b0) := Lib.hid (by have := HSB.out; simpa using this)
                 go_upto_region 25 with fail
                 go_quiet (fail)
                 have l2 := L2.out
                 go_wp2_with fail
                 go_roundw
                 case rel => exact ⟨_, j + 1, Nat.le_succ_of_le hj1, hjt, rfl, by first | exact num_up l2 | exact num_up rfl | rfl, HN2, Lib.hid (drewN_below HBY.out _)⟩
                 case measure => first | exact meas hjt rfl | exact meas hjt l2 | exact meas hjt (cast_up j)
               | true =>
                 by_cases hkk : fk = gk
                 · subst hkk
                   have HN2 : Hid ((false && lst ⟨fo, ⟨true, fk, ft, fv⟩⟩ (M.drop (j + 1))) = b0) := Lib.hid (by have := HSB.out; simpa using this)
                   go_upto_region 25 with fail
                   go_quiet (fail)
                   have l2 := L2.out
                   go_wp2_with fail
                   go_roundw
                   case rel => exact ⟨_, j + 1, Nat.le_succ_of_le hj1, hjt, rfl, by first | exact num_up l2 | exact num_up rfl | rfl, HN2, Lib.hid (drewN_below HBY.out _)⟩
                   case measure => first | exact meas hjt rfl | exact meas hjt l2 | exact meas hjt (cast_up j)
                 · have t0 : (fk.toList == gk.toList) = false := bytes_off hkk
                   have HN2 : Hid ((b && lst ⟨fo, ⟨true, fk, ft, fv⟩⟩ (M.drop (j + 1))) = b0) := Lib.hid (by have := HSB.out; simpa [hkk] using this)
                   clear hkk
                   go_upto_region 25 with fail
                   go_quiet (fail)
                   have l2 := L2.out
                   go_wp2_with fail
                   go_roundw
                   case rel => exact ⟨_, j + 1, Nat.le_succ_of_le hj1, hjt, rfl, by first | exact num_up l2 | exact num_up rfl | rfl, HN2, Lib.hid (drewN_below HBY.out _)⟩
                   case measure => first | exact meas hjt rfl | exact meas hjt l2 | exact meas hjt (cast_up j)
           · obtain rfl : j = mm := Nat.le_antisymm hj2 (Nat.le_of_not_lt hjt)
             obtain rfl : b = b0 := by
               have e := HB.out
               rw [List.drop_of_length_le (Nat.le_of_eq HMM.out)] at e
               simpa [lst] using e
             have z1 : ¬ (j : Int) < (j : Int) := Int.lt_irrefl _
             clear hjt hlt j1
             go_wp2_with fail
             go_meet
             exact ⟨rfl, HBY⟩
       case rest =>
         obtain ⟨rfl, HBC⟩ := hcut
         obtain ⟨c0_, c1_, c2_, c3_, c4_⟩ := HC.out i _ HF.out
         dsimp only at c0_ c1_ c2_ c3_ c4_
         have c0_ := keep_cell c0_ HBC.out
         have c1_ := keep_cell c1_ HBC.out
         have c2_ := keep_cell c2_ HBC.out
         have c3_ := keep_cell c3_ HBC.out
         have c4_ := keep_cell c4_ HBC.out
         have HBXC : Hid (Below w7.heap.size w7 wc) := Lib.hid (HBX.out.trans (HBC.out.mono HBX.out.size))
         have hpk := pick_at (x := sb) HF.out
         rw [HB0.out] at hpk
         dsimp only at hpk
         have HPK2 := Lib.hid (HK.out.trans hpk)
         have e1 : wrap64 ((i : Int) + 1) = (i : Int) + 1 := J2.out
         clear hpk HC HF HB0
         obtain ⟨kp, hkp⟩ : ∃ kp : Bool, (b0 || decide (sb ≤ fo)) = kp := ⟨_, rfl⟩
         have HKP := Lib.hid hkp
         clear hkp
         cases kp with
         | true =>
           have hh := HPK2.out
           rw [HKP.out, if_pos rfl, List.singleton_append] at hh
           obtain ⟨hk2, hat, hnx⟩ := drop_hit hh
           rw [HNN.out] at hk2
           obtain ⟨bg, hA5, hbg, hcn⟩ := (reads_own HNN.out (own_below Q7.out HBXC.out)) (by rw [HNN.out]; exact Nat.lt_of_le_of_lt (Nat.zero_le _) hk2)
           subst hA5
           obtain ⟨u0, u1, u2, u3, u4⟩ := hcn k _ hat
           dsimp only at u0 u1 u2 u3 u4
           have HN2 := Lib.hid hnx
           have m0 : (0 : Int) ≤ (k : Int) := Int.natCast_nonneg k
           have m1 : (k : Int) < (nn : Int) := Int.ofNat_lt.2 hk2
           have m2 : decide ((nn : Int) ≤ (k : Int)) = false := decide_eq_false (Int.not_le.2 m1)
           have m3 : decide (nn ≤ k) = false := decide_eq_false (Nat.not_le.2 hk2)
           have m4 : wrap64 ((k : Int) + 1) = (k : Int) + 1 := wrap_up hk2 HNX.out
           clear hh hnx hat hcn
           cases b0 with
           | true =>
             go_upto_region 28 with fail
             go_quiet (fail)
             go_wp2_with fail
             go_roundw
             case rel => exact ⟨i + 1, k + 1, hlt, hk2, by first | exact num_up m4 | exact num_up rfl | rfl, by first | exact num_up e1 | exact num_up rfl | rfl, HN2, Lib.hid (drewN_below HBXC.out _)⟩
             case measure => first | exact meas hlt rfl | exact meas hlt e1 | exact meas hlt (cast_up i)
           | false =>
             have hso : sb ≤ fo := by have := HKP.out; simpa using this
             have s1 : decide (sb ≤ fo) = true := decide_eq_true hso
             go_upto_region 28 with fail
             go_quiet (fail)
             go_wp2_with fail
             go_roundw
             case rel => exact ⟨i + 1, k + 1, hlt, hk2, by first | exact num_up m4 | exact num_up rfl | rfl, by first | exact num_up e1 | exact num_up rfl | rfl, HN2, Lib.hid (drewN_below HBXC.out _)⟩
             case measure => first | exact meas hlt rfl | exact meas hlt e1 | exact meas hlt (cast_up i)
         | false =>
           have hh := HPK2.out
           rw [HKP.out, if_neg (by simp), List.nil_append] at hh
           have HN2 := Lib.hid hh
           have hbf : b0 = false ∧ ¬ sb ≤ fo := by have := HKP.out; simpa using this
           obtain ⟨rfl, hso⟩ := hbf
           have s1 : decide (sb ≤ fo) = false := decide_eq_false hso
           clear hh
           go_wp2_with fail
           go_roundw
           case rel => exact ⟨i + 1, k, hlt, hk, rfl, by first | exact num_up e1 | exact num_up rfl | rfl, HN2, HBXC⟩
           case measure => first | exact meas hlt rfl | exact meas hlt e1 | exact meas hlt (cast_up i)
     · obtain rfl : i = mm := Nat.le_antisymm hi (Nat.le_of_not_lt hlt)
       obtain rfl : k = nn := by
         have e := HK.out
         rw [List.drop_of_length_le (Nat.le_of_eq HMM.out), pick] at e
         have := congrArg List.length e
         rw [List.length_drop, HNN.out] at this
         exact Nat.le_antisymm hk (Nat.le_of_sub_eq_zero this)
       have z1 : ¬ (i : Int) < (i : Int) := Int.lt_irrefl _
       have z2 : (x1 == x1) = true := by simp
       go_wp2_with (first
         | (go_at_call 11; refine (fixed6_any _).mono ?_; rintro e wn ⟨rfl, hbn⟩)
         | (go_at_call 7; refine (m6_span (Lib.hid (M7.out.below HBX.out)) hlen3 0 x1 HS2 HE2).mono ?_; rintro e w9 ⟨rfl, hb9⟩; have M9 := Lib.hid ((M7.out.below HBX.out).below hb9)))
       go_ret
       exact ⟨rfl, acc M9.out.old hbn⟩

set_option maxRecDepth 100000 in
set_option maxHeartbeats 1000000 in
theorem lifted (os : Os) (started : os.Started) (H : Type) (enc : TypeId × Value → H) :
    ReturnsInHanded {} Try.checked os 3 .any (Rows.plogCompactsSpec.pre6 enc Try.prog Try.f3 Rows.plogCompactsRow.domain false) (Rows.plogCompactsSpec.post enc Try.prog Try.f3 false true false false) := by
  refine returnsInHanded_of_change (C := Try.checked) own started (by kernel_rfl) Try.func3
    (ChangeSpec.witness6 (enc := enc) (C := Try.checked) false ⟨#[], #[.int .i64 0, .slice none 0 0], []⟩ 8 (by kernel_rfl) (by kernel_rfl) (by kernel_rfl) (by kernel_rfl)) ?_
  intro W base args ds gs before hval0 hW _ _
  have hval : ∀ (j : Nat) t v, Try.f3.params[j]? = some t → args[j]? = some v → Value.okWide Try.prog W .any base t v := hval0
  have hW' := hW
  obtain ⟨p, q, hA0, hV, rfl, hfz, hnd⟩ := hW
  have hA : DataW.TrodAll enc Try.prog W 0 (fun _ => true) true Try.f3.params.toList args.toList ds p := hA0
  rw [Try.params3] at hA hval
  obtain ⟨v0, vs0, d0, ds0, p0, q0, hargs, rfl, rfl, h0, r0⟩ := trodAll_cons hA
  obtain ⟨v1, vs1, d1, ds1, p1, q1, rfl, rfl, rfl, h1, r1⟩ := trodAll_cons r0
  obtain ⟨rfl, rfl, rfl⟩ := trodAll_nil r1
  obtain rfl : args = #[v0, v1] := by cases args; simp_all
  obtain ⟨rfl, rfl⟩ := trodVars_none hV
  have k0 := h0
  have lt0 : ∀ x ∈ p0, x.block < W.heap.size := by obtain ⟨m, hm⟩ := k0; exact DataW.trod_lt m _ _ _ hm
  have k1 := h1
  have lt1 : ∀ x ∈ p1, x.block < W.heap.size := by obtain ⟨m, hm⟩ := k1; exact DataW.trod_lt m _ _ _ hm
  obtain ⟨a0, e0, _, _, w0⟩ := open_int Try.underlying3 (hval 0 3 v0 rfl rfl) h0
  subst e0
  obtain ⟨A1, l1, c1, e1, R1⟩ := L6.open_scr (hval 1 22 v1 rfl rfl) h1
  subst e1
  clear hA0 hval0
  refine (walk W a0 w0 A1 l1 c1 R1).mono fun e W' ⟨he, bel⟩ => ?_
  subst he
  exact ⟨_, rfl, _, _, _, [], _, [], hW', trodAll_mk1 (shut_bool Try.underlying4 _), (trodAll_cons_mk (Below.trod laidOut (by kernel_rfl) (of_decide_eq_true (by kernel_rfl)) k0 bel lt0) (trodAll_cons_mk (Below.trod laidOut (by kernel_rfl) (of_decide_eq_true (by kernel_rfl)) k1 bel lt1) trodAll_mk0)), rfl, bel.frame _, fun h => by cases h⟩

theorem over : Rows.plogCompactsRow.holds Try.pinned (OpenSpec.ofChange Rows.plogCompactsSpec) :=
  OpenClaim.holds_of_wide 3 Try.f3 rfl rfl rfl rfl rfl rfl rfl ⟨rfl, rfl, rfl, rfl, rfl⟩ rfl rfl rfl rfl rfl (by kernel_rfl) Try.func3 (by kernel_rfl)
    (of_decide_eq_true (by kernel_rfl)) (by unfold Func.isWrapper; first | (rw [if_pos (by decide +kernel)]; kernel_rfl) | (rw [if_neg (by decide +kernel)]; exact ⟨rfl, rfl⟩))
    (fun os started H enc _ => lifted os started H enc)

/-- the statement -/
theorem proved : Rows.PlogCompactsSaid :=
  over
#print axioms proved
end Go.Proofs.Ytajnaeijkflklaa.plogCompacts
