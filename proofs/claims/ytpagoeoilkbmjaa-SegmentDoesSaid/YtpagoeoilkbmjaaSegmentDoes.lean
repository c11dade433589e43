/-
  Proved: whatever is appended, read and let go, in any order: each answer, and all records with their offsets, are as the document says; what is told is its owner's (of at most 30 calls, 70 records each). No condition.
-/
import Derived.Test.YtpagoeoilkbmjaaRows
import Derived.WalkKit
import Derived.ProofKit
import Derived.OpenShut
import Derived.ShutString
import Derived.ChangeOld
import Derived.Below
import Derived.Test.YtpagoeoilkbmjaaSegDoes
import Derived.Deep.QuietTactic
import Derived.BigQuiet
import Derived.LoopTactic
import Derived.Deep.Cut
namespace Go.Proofs.Ytpagoeoilkbmjaa.segmentDoes
open Go.ChangeShapes Go.WideShapes Go.ChangeAt Go.RowKit
open Go.ChangeMaps (open_string shut_string)
open L3 L4 L5

theorem own : ownKnob Try.prog.godebug = none := by kernel_rfl
theorem laidOut : laidOutB Try.prog = true := by kernel_rfl


theorem reads_v {W : World} {g : Nat} (h : W.heap[g]? = some (.cells #[.bool false, .string ⟨#[]⟩, .bool false, .string ⟨#[118]⟩] 41 (0, 0))) : Reads W (g + 1) (some ⟨g, 0, none⟩) [rV] := reads_rows h rfl
theorem reads_own {w : World} {base : Nat} {T : TypeId} {A : Option Addr} {m c : Nat} {M : List L4.Fd} (hm : M.length = m) (h : w.ownsRow base T 5 (.slice A m c) m (rowF M)) : ReadsF w w.heap.size A M := by
  subst hm; exact ReadsF.own h
theorem recs_own {w : World} {base : Nat} {T : TypeId} {A : Option Addr} {m c : Nat} {M : List R} (hm : M.length = m) (h : w.ownsRow base T 4 (.slice A m c) m (rowOf M)) : Reads w w.heap.size A M := by
  subst hm; exact Reads.own h
theorem found_same (A A' : Option Addr) (M : List L4.Fd) (m c c' : Nat) (w : World) (hR : Hid (ReadsF w w.heap.size A M)) (hR' : Hid (ReadsF w w.heap.size A' M)) (hm : M.length = m) (hl : m ≤ maxLen) :
    Calls Try.prog 17 #[.slice A m c, .slice A' m c'] w fun e w' => e = .returned (.bool true) ∧ Below w.heap.size w w' := by
  subst hm
  exact rfound_is A A' M M c c' w.heap.size true w hR hR' (Nat.le_refl _) hl (Lib.hid (by simp))
theorem own_turn {w : World} {base n c b t : Nat} {T : TypeId} {xs : List Value} (h : w.ownsRow base T 5 (.slice (some ⟨b, 0, none⟩) n c) n xs) (ht : t < n) :
    (∃ u, w.cell? ⟨b, t * 5, none⟩ = some u) ∧ w.frozen? ⟨b, t * 5, none⟩ = false := by
  have hlt : t * 5 < xs.length := by rw [h.1]; omega
  have q := h.cells (g := b) rfl (t * 5) _ (List.getElem?_eq_getElem hlt)
  rw [addr_add] at q
  exact ⟨⟨_, q⟩, h.frozenAt _⟩
theorem apart_wr {w W W1 : World} {g k n c bb : Nat} {A X Y : Option Addr} {T : TypeId} {base n1 n2 : Int} {L1 L2 : List L4.Fd} {xs : List Value} {o : Obj} (p : Both w W g k A X base n1 L1 n2 L2) (h : W1.ownsRow (W.alloc o).heap.size T bb (.slice Y n c) n xs) : Apart g A Y ∧ Apart k X Y :=
  apart_new p (fun j e => by have := (own_blk h j e).1; simp at this; omega)
theorem apart_old {w W : World} {g g3 k : Nat} {A A3 X : Option Addr} {base nx : Int} {L : List L4.Fd} (o : Old w W g A base nx L g3 A3 k X) : Apart g A (some ⟨W.heap.size, 0, none⟩) := fun j e => by
  obtain ⟨_, hs⟩ := o.seg
  have e' : W.heap.size = j := by injection e
  subst e'
  exact ⟨by have := hs.lt; omega, fun q => by have := hs.blkLt _ q.symm; omega⟩
theorem read_le (L : List L4.Fd) (a c : Int) : (readL L a c).length ≤ L.length := by
  unfold readL
  rw [List.length_take]
  have := List.length_filter_le (fun f : L4.Fd => decide (a ≤ f.o)) L
  omega

set_option maxRecDepth 100000 in
set_option maxHeartbeats 16000000 in
theorem walk (w : World) (a0 : Int) (_ : (Lit.int .i64 a0).wf = true) (A1 : Option Addr) (l1 : List L5.Call) (c1 : Nat) (R1 : IsOps w A1 l1) :
    Calls Try.prog 3 #[.int .i64 a0, .slice A1 l1.length c1] w fun e w' => e = .returned (.bool true) ∧ Below w.heap.size w w' := by
  obtain ⟨b, hbm⟩ : ∃ b, bits .and .i64 a0 1099511627775 = b := ⟨_, rfl⟩
  have hb := mask40 a0
  rw [hbm] at hb
  obtain ⟨b0, b1⟩ := hb
  obtain ⟨n, hn⟩ : ∃ n, l1.length = n := ⟨_, rfl⟩
  obtain ⟨HOPS, HC, hnm⟩ := R1
  rw [hn] at hnm ⊢
  unfold maxLen at hnm
  have HN := Lib.hid hn
  have HX0 := Lib.hid (newE_ok b0 b1)
  have SMV : Hid (∀ r ∈ [rV], r.key.size ≤ maxLen ∧ r.val.size ≤ maxLen) := Lib.hid (by decide)
  clear hn
  go_enter Try.func3, Try.ntmps3
  go_wp2_with (first
    | (go_at_call 12; have _q := F1; refine (new_second F1 B1 HX0).mono ?_; rintro e w2 ⟨k, X, rfl, hp2⟩; have P2 := Lib.hid hp2; clear hp2)
    | (go_at_call 11; refine (new_first b w HX0).mono ?_; rintro e w1 ⟨g, A, c, rfl, hf1, hb1⟩; have F1 := Lib.hid hf1; have B1 := Lib.hid hb1; clear hf1 hb1))
  clear hbm
  go_loopw [6, 10] (fun s i wr => ∃ (j g : Nat) (A X : Option Addr) (nx : Int) (L : List L4.Fd), j ≤ 30 ∧ i = .int .i64 j ∧ s = .pointer (some ⟨g, 0, none⟩) ∧ Hid (Both w wr g k A X b nx L nx L) ∧ Hid (L5.Good b nx L)) (fun _ i _ => 30 - (intOf i).toNat)
  case atStart => exact ⟨0, g, A, X, b, [], by omega, rfl, rfl, P2, Lib.hid (good_new b0 b1)⟩
  case round =>
    clear F1 B1 P2 HX0
    obtain ⟨j, g, A, X, nx, L, hj, rfl, rfl, HB, HG⟩ := hrel
    by_cases hlt : j < n ∧ j < 30
    · obtain ⟨h1, h2⟩ := hlt
      obtain ⟨og, oo, rfl, hog, hcells⟩ := HOPS.out (by rw [HN.out]; omega)
      obtain ⟨⟨kd, fr, nn, RA, rl, rc, RX, rk, rd⟩, hr⟩ : ∃ r, l1[j]? = some r := ⟨_, List.getElem?_eq_getElem (by rw [HN.out]; omega)⟩
      have hold := HB.out.old
      obtain ⟨c0, c1', c2, c3, c4⟩ := hcells j _ hr
      have d0 := (hold.cell (p := ⟨og, oo + j * 5, none⟩) hog).trans c0
      have d1 := (hold.cell (p := ⟨og, oo + j * 5 + 1, none⟩) hog).trans c1'
      have d2 := (hold.cell (p := ⟨og, oo + j * 5 + 2, none⟩) hog).trans c2
      have d3 := (hold.cell (p := ⟨og, oo + j * 5 + 3, none⟩) hog).trans c3
      have d4 := (hold.cell (p := ⟨og, oo + j * 5 + 4, none⟩) hog).trans c4
      obtain ⟨⟨⟨HRR, HRS, hrm⟩, hrc⟩, ⟨hkn, hkd⟩, _, _, _⟩ := HC.out _ (List.mem_of_getElem? hr)
      obtain ⟨S, ms, har⟩ := arg_of hkn
      dsimp only at d0 d1 d2 d3 d4 HRR HRS hrm hrc hkd har
      obtain ⟨rn, hrn⟩ : ∃ rn, rl.length = rn := ⟨_, rfl⟩
      obtain ⟨kn, hkn'⟩ : ∃ kn, rk.length = kn := ⟨_, rfl⟩
      have hmi := har.min
      have ms80 := har.le
      have msn := har.leN
      rw [hkn'] at hmi msn hkd d4
      rw [hrn] at d3 hrm hrc
      have msd : ms ≤ rd := Nat.le_trans msn hkd
      have ms0 : (0 : Int) ≤ (ms : Int) := by omega
      have HRN := Lib.hid hrn
      have HAR := Lib.hid har
      obtain ⟨m, hm⟩ : ∃ m, (recsL rl).length = m := ⟨_, rfl⟩
      have hm70 : m ≤ 70 := by rw [← hm, recs_len]; omega
      have HM := Lib.hid hm
      have HSM : Hid (∀ r ∈ recsL rl, r.key.size ≤ maxLen ∧ r.val.size ≤ maxLen) := Lib.hid (fun r hr => by have := recs_small r hr; unfold maxLen; omega)
      have HL := Lib.hid HG.out.len
      have HRI := Lib.hid HG.out.rise
      have hn0 : 0 ≤ nx := Int.le_trans HG.out.b0 HG.out.bn
      have hn1 := HG.out.n1
      have HOF : Hid (∀ f ∈ L, 0 ≤ f.o ∧ f.o ≤ 1099511627776) := Lib.hid (fun f hf => by have := rise_mem HG.out.rise f hf; have := HG.out.b0; have := HG.out.n1; omega)
      have j0 : (0 : Int) ≤ (j : Int) := by omega
      have j1 : (j : Int) < (n : Int) := by omega
      clear hcells hr c0 c1' c2 c3 c4 hkn har hrn hkn' hm msn
      cases RX with
      | none =>
          by_cases hk0 : kd = 0
          · subst hk0
            obtain ⟨x, hx⟩ : ∃ x, appE nx L.length (recsL rl) = x := ⟨_, rfl⟩
            by_cases hx0 : x = 0
            · subst hx0
              have HX := Lib.hid hx
              have HG2 : Hid (L5.Good b (nx + m) (L ++ numbered nx (recsL rl))) := Lib.hid (by have := app_good HG.out hx; rwa [HM.out] at this)
              clear hx
              go_wp2_with (first
                | (go_at_call 23; have _q := PS; refine (both_same PS HG2).mono ?_; rintro e ws ⟨rfl, hbs⟩; have PZ := Lib.hid (PS.out.below hbs))
                | (go_at_call 15; have _q := P2; refine (both_rappend P2 RA1 (recsL rl) m rc1 w2.heap.size HL.out hn0 hn1 R2 AP2 (Nat.le_refl _) HM.out (by omega) HSM HX).mono ?_; rintro e w3 ⟨rfl, X3, hp3⟩; have PS := Lib.hid hp3; clear hp3)
                | (go_at_call 14; refine (both_append P1 RA1 (recsL rl) m rc1 w1.heap.size HL.out hn0 hn1 (Lib.hid (recs_own HM.out O1.out)) (Lib.hid AP.out.1) (Nat.le_refl _) HM.out (by unfold maxLen; omega) HSM HX).mono ?_; rintro e w2 ⟨rfl, hbt, A2, hp2⟩; have P2 := Lib.hid hp2; have R2 := Lib.hid ((reads_but (recs_own HM.out O1.out) hbt (fun j e => ⟨(AP.out.1 j e).1, (AP.out.1 j e).2⟩)).mono hbt.size); have AP2 := Lib.hid AP.out.2; clear hp2 hbt)
                | (go_at_call 13; refine (records_any RA rl rn rc w.heap.size _ (Lib.hid (HRR.out.below ((hold.alloc hold.size _).mono (Nat.le_refl _)))) (by simp; have := hold.size; omega) HRN.out hrm hrc HRS).mono ?_; rintro e w1 ⟨RA1, rc1, rfl, ho1, hb1⟩; have q0 := hb1.cell (p := ⟨wr.heap.size, 0, none⟩) (by simp); have q1 := hb1.cell (p := ⟨wr.heap.size, 1, none⟩) (by simp); have q2 := hb1.cell (p := ⟨wr.heap.size, 2, none⟩) (by simp); have q4 := hb1.cell (p := ⟨wr.heap.size, 4, none⟩) (by simp); simp at q0 q1 q2 q4; rw [HM.out] at ho1 ⊢; have PP : Below wr.heap.size wr w1 := (one_box _).trans (hb1.mono (by simp)); have P1 := Lib.hid (HB.out.below PP); have O1 := Lib.hid ho1; have AP := Lib.hid (apart_wr HB.out O1.out); clear ho1 PP))
              go_roundw
              case rel => exact ⟨j + 1, g, A2, X3, nx + m, L ++ numbered nx (recsL rl), by omega, by go_num, rfl, PZ, HG2⟩
              case measure => simp [intOf]; omega
            · have HX := Lib.hid hx
              have HG2 := HG
              clear hx
              go_wp2_with (first
                | (go_at_call 23; have _q := PS; refine (both_same PS HG2).mono ?_; rintro e ws ⟨rfl, hbs⟩; have PZ := Lib.hid (PS.out.below hbs))
                | (go_at_call 15; have _q := P2; refine (both_rappend_no P2 RA1 (recsL rl) m rc1 w2.heap.size x HL.out hn0 hn1 R2 AP2 (Nat.le_refl _) HM.out (by omega) HSM HX hx0).mono ?_; rintro e w3 ⟨rfl, hb3⟩; have PS := Lib.hid (P2.out.below hb3))
                | (go_at_call 14; refine (both_append_no P1 RA1 (recsL rl) m rc1 w1.heap.size x HL.out hn0 hn1 (Lib.hid (recs_own HM.out O1.out)) (Lib.hid AP.out.1) (Nat.le_refl _) HM.out (by unfold maxLen; omega) HSM HX hx0).mono ?_; rintro e w2 ⟨rfl, hb2⟩; have P2 := Lib.hid (P1.out.below hb2); have R2 := Lib.hid ((recs_own HM.out O1.out).below hb2 |>.mono hb2.size); have AP2 := Lib.hid AP.out.2)
                | (go_at_call 13; refine (records_any RA rl rn rc w.heap.size _ (Lib.hid (HRR.out.below ((hold.alloc hold.size _).mono (Nat.le_refl _)))) (by simp; have := hold.size; omega) HRN.out hrm hrc HRS).mono ?_; rintro e w1 ⟨RA1, rc1, rfl, ho1, hb1⟩; have q0 := hb1.cell (p := ⟨wr.heap.size, 0, none⟩) (by simp); have q1 := hb1.cell (p := ⟨wr.heap.size, 1, none⟩) (by simp); have q2 := hb1.cell (p := ⟨wr.heap.size, 2, none⟩) (by simp); have q4 := hb1.cell (p := ⟨wr.heap.size, 4, none⟩) (by simp); simp at q0 q1 q2 q4; rw [HM.out] at ho1 ⊢; have PP : Below wr.heap.size wr w1 := (one_box _).trans (hb1.mono (by simp)); have P1 := Lib.hid (HB.out.below PP); have O1 := Lib.hid ho1; have AP := Lib.hid (apart_wr HB.out O1.out); clear ho1 PP))
              go_roundw
              case rel => exact ⟨j + 1, g, A, X, nx, L, by omega, by go_num, rfl, PZ, HG2⟩
              case measure => simp [intOf]; omega
          have u0 : (kd == 0) = false := by simpa using hk0
          clear hk0
          by_cases hk1 : kd = 1
          · subst hk1
            obtain ⟨mr, hmr⟩ : ∃ mr, (readL L fr nn).length = mr := ⟨_, rfl⟩
            have HMR := Lib.hid hmr
            have hmr64 : mr ≤ 64 := by rw [← hmr]; exact Nat.le_trans (read_le L fr nn) HL.out
            have HG2 := HG
            clear hmr
            go_wp2_with (first
              | (go_at_call 17; have _q := P3; refine (found_same A2 A3 (readL L fr nn) mr c2 c3 _ (Lib.hid (reads_own HMR.out O23.out)) (Lib.hid (reads_own HMR.out O3.out)) HMR.out (by unfold maxLen; omega)).mono ?_; rintro e w4 ⟨rfl, hb4⟩; have P4 := Lib.hid (P3.out.below hb4); have O4 := Lib.hid (own_below O23.out hb4))
              | (go_at_call 18; have _q := P2; refine (both_rread P2 fr nn HL.out).mono ?_; rintro e w3 ⟨A3, c3, rfl, ho3, hb3⟩; rw [HMR.out] at ho3 ⊢; have P3 := Lib.hid (P2.out.below hb3); have O3 := Lib.hid ho3; have O23 := Lib.hid (own_below O2.out hb3); clear ho3)
              | (go_at_call 16; have _q := P1; refine (both_read P1 fr nn HL.out HRI).mono ?_; rintro e w2 ⟨A2, c2, rfl, ho2, hb2⟩; rw [HMR.out] at ho2 ⊢; have P2 := Lib.hid (P1.out.below hb2); have O2 := Lib.hid ho2; have q1 := (hb2.cell (p := ⟨wr.heap.size, 1, none⟩) (Nat.lt_of_lt_of_le (by simp) hb1.size)).trans q1; have q2 := (hb2.cell (p := ⟨wr.heap.size, 2, none⟩) (Nat.lt_of_lt_of_le (by simp) hb1.size)).trans q2; clear ho2)
              | (go_at_call 13; refine (records_any RA rl rn rc w.heap.size _ (Lib.hid (HRR.out.below ((hold.alloc hold.size _).mono (Nat.le_refl _)))) (by simp; have := hold.size; omega) HRN.out hrm hrc HRS).mono ?_; rintro e w1 ⟨RA1, rc1, rfl, ho1, hb1⟩; have q0 := hb1.cell (p := ⟨wr.heap.size, 0, none⟩) (by simp); have q1 := hb1.cell (p := ⟨wr.heap.size, 1, none⟩) (by simp); have q2 := hb1.cell (p := ⟨wr.heap.size, 2, none⟩) (by simp); have q4 := hb1.cell (p := ⟨wr.heap.size, 4, none⟩) (by simp); simp at q0 q1 q2 q4; rw [HM.out] at ho1 ⊢; have PP : Below wr.heap.size wr w1 := (one_box _).trans (hb1.mono (by simp)); have P1 := Lib.hid (HB.out.below PP); have O1 := Lib.hid ho1; have AP := Lib.hid (apart_wr HB.out O1.out); clear ho1 PP))
            clear q1 q2
            go_loopw [19] (fun i wr2 => ∃ (t : Nat) (xs : List Value), t ≤ mr ∧ i = .int .i64 t ∧ Hid (wr2.ownsRow w1.heap.size 43 5 (.slice A2 mr c2) mr xs) ∧ Below w1.heap.size w1 wr2) (fun i _ => mr - (intOf i).toNat)
            case atStart => exact ⟨0, _, by omega, rfl, O4, (hb2.trans (hb3.mono hb2.size)).trans (hb4.mono (Nat.le_trans hb2.size hb3.size))⟩
            case round =>
              obtain ⟨t, xs, ht, rfl, hown, hbel⟩ := hrel
              by_cases htl : t < mr
              · obtain ⟨ab, ac, hv, hab, _⟩ := hown.out.form (by omega)
                injection hv with e1 e2 e3
                subst e1 e3
                obtain ⟨⟨u, hu⟩, hf⟩ := own_turn hown.out htl
                have hst := (hown.out.stored (t * 5) (.int .i64 99)).1
                have HST := Lib.hid hst
                have t0 : (0 : Int) ≤ (t : Int) := by omega
                have t1 : (t : Int) < (mr : Int) := by omega
                clear hst
                go_wp2_with fail
                go_roundw
                case rel => exact ⟨t + 1, _, by omega, by go_num, HST, hbel.setCell (p := ⟨ab, t * 5, none⟩) hab _⟩
                case measure => simp [intOf]; omega
              · have PS := Lib.hid (P1.out.below hbel)
                have t1 : ¬ (t : Int) < (mr : Int) := by omega
                clear htl
                go_wp2_with (go_at_call 23; have _q := PS; refine (both_same PS HG2).mono ?_; rintro e ws ⟨rfl, hbs⟩; have PZ := Lib.hid (PS.out.below hbs))
                go_roundw
                case rel => exact ⟨j + 1, g, A, X, nx, L, by omega, by go_num, rfl, PZ, HG2⟩
                case measure => simp [intOf]; omega
          have u1 : (kd == 1) = false := by simpa using hk1
          clear hk1
          by_cases hk2 : kd = 2
          · subst hk2
            obtain ⟨md, hmd⟩ : ∃ md, L.length - (keepL L S).length = md := ⟨_, rfl⟩
            have HMD := Lib.hid hmd
            have HG2 : Hid (L5.Good b nx (keepL L S)) := Lib.hid (keep_good HG.out S)
            clear hmd
            go_wp2_with (first
              | (go_at_call 23; have _q := PS; refine (both_same PS HG2).mono ?_; rintro e ws ⟨rfl, hbs⟩; have PZ := Lib.hid (PS.out.below hbs))
              | (go_at_call 20; have _q := P2; refine (both_rkeep P2 _ S ms rd w.heap.size HL.out (Lib.hid (HAR.out.reads _ P2.out.old)) P2.out.old.size HAR.out.len (by omega)).mono ?_; rw [HMD.out]; rintro e w3 ⟨rfl, X3, hp3⟩; have PS := Lib.hid hp3; clear hp3)
              | (go_at_call 19; have _q := P1; refine (both_keep P1 _ S ms rd w.heap.size HL.out HOF (Lib.hid (HAR.out.reads _ P1.out.old)) P1.out.old.size HAR.out.len (by omega) (Lib.hid HAR.out.wf)).mono ?_; rw [HMD.out]; rintro e w2 ⟨rfl, _, A2, hp2⟩; have P2 := Lib.hid hp2; clear hp2)
              | (go_at_call 13; refine (records_any RA rl rn rc w.heap.size _ (Lib.hid (HRR.out.below ((hold.alloc hold.size _).mono (Nat.le_refl _)))) (by simp; have := hold.size; omega) HRN.out hrm hrc HRS).mono ?_; rintro e w1 ⟨RA1, rc1, rfl, ho1, hb1⟩; have q0 := hb1.cell (p := ⟨wr.heap.size, 0, none⟩) (by simp); have q1 := hb1.cell (p := ⟨wr.heap.size, 1, none⟩) (by simp); have q2 := hb1.cell (p := ⟨wr.heap.size, 2, none⟩) (by simp); have q4 := hb1.cell (p := ⟨wr.heap.size, 4, none⟩) (by simp); simp at q0 q1 q2 q4; rw [HM.out] at ho1 ⊢; have PP : Below wr.heap.size wr w1 := (one_box _).trans (hb1.mono (by simp)); have P1 := Lib.hid (HB.out.below PP); have O1 := Lib.hid ho1; have AP := Lib.hid (apart_wr HB.out O1.out); clear ho1 PP))
            go_roundw
            case rel => exact ⟨j + 1, g, A2, X3, nx, keepL L S, by omega, by go_num, rfl, PZ, HG2⟩
            case measure => simp [intOf]; omega
          have u2 : (kd == 2) = false := by simpa using hk2
          clear hk2
          by_cases hk3 : kd = 3
          · subst hk3
            have HG2 := HG
            go_wp2_with (first
              | (go_at_call 23; have _q := PS; refine (both_same PS HG2).mono ?_; rintro e ws ⟨rfl, hbs⟩; have PZ := Lib.hid (PS.out.below hbs))
              | (go_at_call 19; have _q := D4; refine (old_keep P4 D4 G4).mono ?_; rintro e w5 ⟨a5, rfl, hp5⟩; have PS := Lib.hid hp5; clear hp5)
              | (go_at_call 14; have _q := D3; refine (old_append (Lib.hid (P3.out.below (one_box _))) (Lib.hid (D3.out.below (one_box _))) HG (some ⟨w3.heap.size, 0, none⟩) [rV] 1 1 (w3.heap.size + 1) (Lib.hid (reads_v (heap_alloc_new w3 _))) (Lib.hid (apart_old D3.out)) (by simp) rfl (by decide) SMV).mono ?_; rintro e w4 ⟨a4, x4, A4, nx4, L4', rfl, hp4, hd4, hg4⟩; have P4 := Lib.hid hp4; have D4 := Lib.hid hd4; have G4 := Lib.hid hg4; clear hp4 hd4 hg4)
              | (go_at_call 22; have _q := D2; refine (v_any _).mono ?_; rintro e w3 ⟨rfl, hb3⟩; have P3 := Lib.hid (P2.out.below hb3); have D3 := Lib.hid (D2.out.below hb3))
              | (go_at_call 21; have _q := P1; refine (both_copy P1 HL.out).mono ?_; rintro e w2 ⟨g2, A2, rfl, hp2, hs2, f1, f2, hb2⟩; have P2 := Lib.hid hp2; have D2 := Lib.hid (copied_old P1.out hs2 f1 f2); clear hp2 hs2 f1 f2)
              | (go_at_call 13; refine (records_any RA rl rn rc w.heap.size _ (Lib.hid (HRR.out.below ((hold.alloc hold.size _).mono (Nat.le_refl _)))) (by simp; have := hold.size; omega) HRN.out hrm hrc HRS).mono ?_; rintro e w1 ⟨RA1, rc1, rfl, ho1, hb1⟩; have q0 := hb1.cell (p := ⟨wr.heap.size, 0, none⟩) (by simp); have q1 := hb1.cell (p := ⟨wr.heap.size, 1, none⟩) (by simp); have q2 := hb1.cell (p := ⟨wr.heap.size, 2, none⟩) (by simp); have q4 := hb1.cell (p := ⟨wr.heap.size, 4, none⟩) (by simp); simp at q0 q1 q2 q4; rw [HM.out] at ho1 ⊢; have PP : Below wr.heap.size wr w1 := (one_box _).trans (hb1.mono (by simp)); have P1 := Lib.hid (HB.out.below PP); have O1 := Lib.hid ho1; have AP := Lib.hid (apart_wr HB.out O1.out); clear ho1 PP))
            go_roundw
            case rel => exact ⟨j + 1, g2, A2, X, nx, L, by omega, by go_num, rfl, PZ, HG2⟩
            case measure => simp [intOf]; omega
          have u3 : (kd == 3) = false := by simpa using hk3
          clear hk3
          have HG2 := HG
          go_wp2_with (first
            | (go_at_call 23; refine (both_same P1 HG2).mono ?_; rintro e ws ⟨rfl, hbs⟩; have PZ := Lib.hid (P1.out.below hbs))
            | (go_at_call 13; refine (records_any RA rl rn rc w.heap.size _ (Lib.hid (HRR.out.below ((hold.alloc hold.size _).mono (Nat.le_refl _)))) (by simp; have := hold.size; omega) HRN.out hrm hrc HRS).mono ?_; rintro e w1 ⟨RA1, rc1, rfl, ho1, hb1⟩; have q0 := hb1.cell (p := ⟨wr.heap.size, 0, none⟩) (by simp); have q1 := hb1.cell (p := ⟨wr.heap.size, 1, none⟩) (by simp); have q2 := hb1.cell (p := ⟨wr.heap.size, 2, none⟩) (by simp); have q4 := hb1.cell (p := ⟨wr.heap.size, 4, none⟩) (by simp); simp at q0 q1 q2 q4; rw [HM.out] at ho1 ⊢; have PP : Below wr.heap.size wr w1 := (one_box _).trans (hb1.mono (by simp)); have P1 := Lib.hid (HB.out.below PP); have O1 := Lib.hid ho1; have AP := Lib.hid (apart_wr HB.out O1.out); clear ho1 PP))
          go_roundw
          case rel => exact ⟨j + 1, g, A, X, nx, L, by omega, by go_num, rfl, PZ, HG2⟩
          case measure => simp [intOf]; omega
      | some ax =>
          by_cases hk0 : kd = 0
          · subst hk0
            obtain ⟨x, hx⟩ : ∃ x, appE nx L.length (recsL rl) = x := ⟨_, rfl⟩
            by_cases hx0 : x = 0
            · subst hx0
              have HX := Lib.hid hx
              have HG2 : Hid (L5.Good b (nx + m) (L ++ numbered nx (recsL rl))) := Lib.hid (by have := app_good HG.out hx; rwa [HM.out] at this)
              clear hx
              go_wp2_with (first
                | (go_at_call 23; have _q := PS; refine (both_same PS HG2).mono ?_; rintro e ws ⟨rfl, hbs⟩; have PZ := Lib.hid (PS.out.below hbs))
                | (go_at_call 15; have _q := P2; refine (both_rappend P2 RA1 (recsL rl) m rc1 w2.heap.size HL.out hn0 hn1 R2 AP2 (Nat.le_refl _) HM.out (by omega) HSM HX).mono ?_; rintro e w3 ⟨rfl, X3, hp3⟩; have PS := Lib.hid hp3; clear hp3)
                | (go_at_call 14; refine (both_append P1 RA1 (recsL rl) m rc1 w1.heap.size HL.out hn0 hn1 (Lib.hid (recs_own HM.out O1.out)) (Lib.hid AP.out.1) (Nat.le_refl _) HM.out (by unfold maxLen; omega) HSM HX).mono ?_; rintro e w2 ⟨rfl, hbt, A2, hp2⟩; have P2 := Lib.hid hp2; have R2 := Lib.hid ((reads_but (recs_own HM.out O1.out) hbt (fun j e => ⟨(AP.out.1 j e).1, (AP.out.1 j e).2⟩)).mono hbt.size); have AP2 := Lib.hid AP.out.2; clear hp2 hbt)
                | (go_at_call 13; refine (records_any RA rl rn rc w.heap.size _ (Lib.hid (HRR.out.below ((hold.alloc hold.size _).mono (Nat.le_refl _)))) (by simp; have := hold.size; omega) HRN.out hrm hrc HRS).mono ?_; rintro e w1 ⟨RA1, rc1, rfl, ho1, hb1⟩; have q0 := hb1.cell (p := ⟨wr.heap.size, 0, none⟩) (by simp); have q1 := hb1.cell (p := ⟨wr.heap.size, 1, none⟩) (by simp); have q2 := hb1.cell (p := ⟨wr.heap.size, 2, none⟩) (by simp); have q4 := hb1.cell (p := ⟨wr.heap.size, 4, none⟩) (by simp); simp at q0 q1 q2 q4; rw [HM.out] at ho1 ⊢; have PP : Below wr.heap.size wr w1 := (one_box _).trans (hb1.mono (by simp)); have P1 := Lib.hid (HB.out.below PP); have O1 := Lib.hid ho1; have AP := Lib.hid (apart_wr HB.out O1.out); clear ho1 PP))
              go_roundw
              case rel => exact ⟨j + 1, g, A2, X3, nx + m, L ++ numbered nx (recsL rl), by omega, by go_num, rfl, PZ, HG2⟩
              case measure => simp [intOf]; omega
            · have HX := Lib.hid hx
              have HG2 := HG
              clear hx
              go_wp2_with (first
                | (go_at_call 23; have _q := PS; refine (both_same PS HG2).mono ?_; rintro e ws ⟨rfl, hbs⟩; have PZ := Lib.hid (PS.out.below hbs))
                | (go_at_call 15; have _q := P2; refine (both_rappend_no P2 RA1 (recsL rl) m rc1 w2.heap.size x HL.out hn0 hn1 R2 AP2 (Nat.le_refl _) HM.out (by omega) HSM HX hx0).mono ?_; rintro e w3 ⟨rfl, hb3⟩; have PS := Lib.hid (P2.out.below hb3))
                | (go_at_call 14; refine (both_append_no P1 RA1 (recsL rl) m rc1 w1.heap.size x HL.out hn0 hn1 (Lib.hid (recs_own HM.out O1.out)) (Lib.hid AP.out.1) (Nat.le_refl _) HM.out (by unfold maxLen; omega) HSM HX hx0).mono ?_; rintro e w2 ⟨rfl, hb2⟩; have P2 := Lib.hid (P1.out.below hb2); have R2 := Lib.hid ((recs_own HM.out O1.out).below hb2 |>.mono hb2.size); have AP2 := Lib.hid AP.out.2)
                | (go_at_call 13; refine (records_any RA rl rn rc w.heap.size _ (Lib.hid (HRR.out.below ((hold.alloc hold.size _).mono (Nat.le_refl _)))) (by simp; have := hold.size; omega) HRN.out hrm hrc HRS).mono ?_; rintro e w1 ⟨RA1, rc1, rfl, ho1, hb1⟩; have q0 := hb1.cell (p := ⟨wr.heap.size, 0, none⟩) (by simp); have q1 := hb1.cell (p := ⟨wr.heap.size, 1, none⟩) (by simp); have q2 := hb1.cell (p := ⟨wr.heap.size, 2, none⟩) (by simp); have q4 := hb1.cell (p := ⟨wr.heap.size, 4, none⟩) (by simp); simp at q0 q1 q2 q4; rw [HM.out] at ho1 ⊢; have PP : Below wr.heap.size wr w1 := (one_box _).trans (hb1.mono (by simp)); have P1 := Lib.hid (HB.out.below PP); have O1 := Lib.hid ho1; have AP := Lib.hid (apart_wr HB.out O1.out); clear ho1 PP))
              go_roundw
              case rel => exact ⟨j + 1, g, A, X, nx, L, by omega, by go_num, rfl, PZ, HG2⟩
              case measure => simp [intOf]; omega
          have u0 : (kd == 0) = false := by simpa using hk0
          clear hk0
          by_cases hk1 : kd = 1
          · subst hk1
            obtain ⟨mr, hmr⟩ : ∃ mr, (readL L fr nn).length = mr := ⟨_, rfl⟩
            have HMR := Lib.hid hmr
            have hmr64 : mr ≤ 64 := by rw [← hmr]; exact Nat.le_trans (read_le L fr nn) HL.out
            have HG2 := HG
            clear hmr
            go_wp2_with (first
              | (go_at_call 17; have _q := P3; refine (found_same A2 A3 (readL L fr nn) mr c2 c3 _ (Lib.hid (reads_own HMR.out O23.out)) (Lib.hid (reads_own HMR.out O3.out)) HMR.out (by unfold maxLen; omega)).mono ?_; rintro e w4 ⟨rfl, hb4⟩; have P4 := Lib.hid (P3.out.below hb4); have O4 := Lib.hid (own_below O23.out hb4))
              | (go_at_call 18; have _q := P2; refine (both_rread P2 fr nn HL.out).mono ?_; rintro e w3 ⟨A3, c3, rfl, ho3, hb3⟩; rw [HMR.out] at ho3 ⊢; have P3 := Lib.hid (P2.out.below hb3); have O3 := Lib.hid ho3; have O23 := Lib.hid (own_below O2.out hb3); clear ho3)
              | (go_at_call 16; have _q := P1; refine (both_read P1 fr nn HL.out HRI).mono ?_; rintro e w2 ⟨A2, c2, rfl, ho2, hb2⟩; rw [HMR.out] at ho2 ⊢; have P2 := Lib.hid (P1.out.below hb2); have O2 := Lib.hid ho2; have q1 := (hb2.cell (p := ⟨wr.heap.size, 1, none⟩) (Nat.lt_of_lt_of_le (by simp) hb1.size)).trans q1; have q2 := (hb2.cell (p := ⟨wr.heap.size, 2, none⟩) (Nat.lt_of_lt_of_le (by simp) hb1.size)).trans q2; clear ho2)
              | (go_at_call 13; refine (records_any RA rl rn rc w.heap.size _ (Lib.hid (HRR.out.below ((hold.alloc hold.size _).mono (Nat.le_refl _)))) (by simp; have := hold.size; omega) HRN.out hrm hrc HRS).mono ?_; rintro e w1 ⟨RA1, rc1, rfl, ho1, hb1⟩; have q0 := hb1.cell (p := ⟨wr.heap.size, 0, none⟩) (by simp); have q1 := hb1.cell (p := ⟨wr.heap.size, 1, none⟩) (by simp); have q2 := hb1.cell (p := ⟨wr.heap.size, 2, none⟩) (by simp); have q4 := hb1.cell (p := ⟨wr.heap.size, 4, none⟩) (by simp); simp at q0 q1 q2 q4; rw [HM.out] at ho1 ⊢; have PP : Below wr.heap.size wr w1 := (one_box _).trans (hb1.mono (by simp)); have P1 := Lib.hid (HB.out.below PP); have O1 := Lib.hid ho1; have AP := Lib.hid (apart_wr HB.out O1.out); clear ho1 PP))
            clear q1 q2
            go_loopw [19] (fun i wr2 => ∃ (t : Nat) (xs : List Value), t ≤ mr ∧ i = .int .i64 t ∧ Hid (wr2.ownsRow w1.heap.size 43 5 (.slice A2 mr c2) mr xs) ∧ Below w1.heap.size w1 wr2) (fun i _ => mr - (intOf i).toNat)
            case atStart => exact ⟨0, _, by omega, rfl, O4, (hb2.trans (hb3.mono hb2.size)).trans (hb4.mono (Nat.le_trans hb2.size hb3.size))⟩
            case round =>
              obtain ⟨t, xs, ht, rfl, hown, hbel⟩ := hrel
              by_cases htl : t < mr
              · obtain ⟨ab, ac, hv, hab, _⟩ := hown.out.form (by omega)
                injection hv with e1 e2 e3
                subst e1 e3
                obtain ⟨⟨u, hu⟩, hf⟩ := own_turn hown.out htl
                have hst := (hown.out.stored (t * 5) (.int .i64 99)).1
                have HST := Lib.hid hst
                have t0 : (0 : Int) ≤ (t : Int) := by omega
                have t1 : (t : Int) < (mr : Int) := by omega
                clear hst
                go_wp2_with fail
                go_roundw
                case rel => exact ⟨t + 1, _, by omega, by go_num, HST, hbel.setCell (p := ⟨ab, t * 5, none⟩) hab _⟩
                case measure => simp [intOf]; omega
              · have PS := Lib.hid (P1.out.below hbel)
                have t1 : ¬ (t : Int) < (mr : Int) := by omega
                clear htl
                go_wp2_with (go_at_call 23; have _q := PS; refine (both_same PS HG2).mono ?_; rintro e ws ⟨rfl, hbs⟩; have PZ := Lib.hid (PS.out.below hbs))
                go_roundw
                case rel => exact ⟨j + 1, g, A, X, nx, L, by omega, by go_num, rfl, PZ, HG2⟩
                case measure => simp [intOf]; omega
          have u1 : (kd == 1) = false := by simpa using hk1
          clear hk1
          by_cases hk2 : kd = 2
          · subst hk2
            obtain ⟨md, hmd⟩ : ∃ md, L.length - (keepL L S).length = md := ⟨_, rfl⟩
            have HMD := Lib.hid hmd
            have HG2 : Hid (L5.Good b nx (keepL L S)) := Lib.hid (keep_good HG.out S)
            clear hmd
            go_wp2_with (first
              | (go_at_call 23; have _q := PS; refine (both_same PS HG2).mono ?_; rintro e ws ⟨rfl, hbs⟩; have PZ := Lib.hid (PS.out.below hbs))
              | (go_at_call 20; have _q := P2; refine (both_rkeep P2 _ S ms rd w.heap.size HL.out (Lib.hid (HAR.out.reads _ P2.out.old)) P2.out.old.size HAR.out.len (by omega)).mono ?_; rw [HMD.out]; rintro e w3 ⟨rfl, X3, hp3⟩; have PS := Lib.hid hp3; clear hp3)
              | (go_at_call 19; have _q := P1; refine (both_keep P1 _ S ms rd w.heap.size HL.out HOF (Lib.hid (HAR.out.reads _ P1.out.old)) P1.out.old.size HAR.out.len (by omega) (Lib.hid HAR.out.wf)).mono ?_; rw [HMD.out]; rintro e w2 ⟨rfl, _, A2, hp2⟩; have P2 := Lib.hid hp2; clear hp2)
              | (go_at_call 13; refine (records_any RA rl rn rc w.heap.size _ (Lib.hid (HRR.out.below ((hold.alloc hold.size _).mono (Nat.le_refl _)))) (by simp; have := hold.size; omega) HRN.out hrm hrc HRS).mono ?_; rintro e w1 ⟨RA1, rc1, rfl, ho1, hb1⟩; have q0 := hb1.cell (p := ⟨wr.heap.size, 0, none⟩) (by simp); have q1 := hb1.cell (p := ⟨wr.heap.size, 1, none⟩) (by simp); have q2 := hb1.cell (p := ⟨wr.heap.size, 2, none⟩) (by simp); have q4 := hb1.cell (p := ⟨wr.heap.size, 4, none⟩) (by simp); simp at q0 q1 q2 q4; rw [HM.out] at ho1 ⊢; have PP : Below wr.heap.size wr w1 := (one_box _).trans (hb1.mono (by simp)); have P1 := Lib.hid (HB.out.below PP); have O1 := Lib.hid ho1; have AP := Lib.hid (apart_wr HB.out O1.out); clear ho1 PP))
            go_roundw
            case rel => exact ⟨j + 1, g, A2, X3, nx, keepL L S, by omega, by go_num, rfl, PZ, HG2⟩
            case measure => simp [intOf]; omega
          have u2 : (kd == 2) = false := by simpa using hk2
          clear hk2
          by_cases hk3 : kd = 3
          · subst hk3
            have HG2 := HG
            go_wp2_with (first
              | (go_at_call 23; have _q := PS; refine (both_same PS HG2).mono ?_; rintro e ws ⟨rfl, hbs⟩; have PZ := Lib.hid (PS.out.below hbs))
              | (go_at_call 19; have _q := D4; refine (old_keep P4 D4 G4).mono ?_; rintro e w5 ⟨a5, rfl, hp5⟩; have PS := Lib.hid hp5; clear hp5)
              | (go_at_call 14; have _q := D3; refine (old_append (Lib.hid (P3.out.below (one_box _))) (Lib.hid (D3.out.below (one_box _))) HG (some ⟨w3.heap.size, 0, none⟩) [rV] 1 1 (w3.heap.size + 1) (Lib.hid (reads_v (heap_alloc_new w3 _))) (Lib.hid (apart_old D3.out)) (by simp) rfl (by decide) SMV).mono ?_; rintro e w4 ⟨a4, x4, A4, nx4, L4', rfl, hp4, hd4, hg4⟩; have P4 := Lib.hid hp4; have D4 := Lib.hid hd4; have G4 := Lib.hid hg4; clear hp4 hd4 hg4)
              | (go_at_call 22; have _q := D2; refine (v_any _).mono ?_; rintro e w3 ⟨rfl, hb3⟩; have P3 := Lib.hid (P2.out.below hb3); have D3 := Lib.hid (D2.out.below hb3))
              | (go_at_call 21; have _q := P1; refine (both_copy P1 HL.out).mono ?_; rintro e w2 ⟨g2, A2, rfl, hp2, hs2, f1, f2, hb2⟩; have P2 := Lib.hid hp2; have D2 := Lib.hid (copied_old P1.out hs2 f1 f2); clear hp2 hs2 f1 f2)
              | (go_at_call 13; refine (records_any RA rl rn rc w.heap.size _ (Lib.hid (HRR.out.below ((hold.alloc hold.size _).mono (Nat.le_refl _)))) (by simp; have := hold.size; omega) HRN.out hrm hrc HRS).mono ?_; rintro e w1 ⟨RA1, rc1, rfl, ho1, hb1⟩; have q0 := hb1.cell (p := ⟨wr.heap.size, 0, none⟩) (by simp); have q1 := hb1.cell (p := ⟨wr.heap.size, 1, none⟩) (by simp); have q2 := hb1.cell (p := ⟨wr.heap.size, 2, none⟩) (by simp); have q4 := hb1.cell (p := ⟨wr.heap.size, 4, none⟩) (by simp); simp at q0 q1 q2 q4; rw [HM.out] at ho1 ⊢; have PP : Below wr.heap.size wr w1 := (one_box _).trans (hb1.mono (by simp)); have P1 := Lib.hid (HB.out.below PP); have O1 := Lib.hid ho1; have AP := Lib.hid (apart_wr HB.out O1.out); clear ho1 PP))
            go_roundw
            case rel => exact ⟨j + 1, g2, A2, X, nx, L, by omega, by go_num, rfl, PZ, HG2⟩
            case measure => simp [intOf]; omega
          have u3 : (kd == 3) = false := by simpa using hk3
          clear hk3
          have HG2 := HG
          go_wp2_with (first
            | (go_at_call 23; refine (both_same P1 HG2).mono ?_; rintro e ws ⟨rfl, hbs⟩; have PZ := Lib.hid (P1.out.below hbs))
            | (go_at_call 13; refine (records_any RA rl rn rc w.heap.size _ (Lib.hid (HRR.out.below ((hold.alloc hold.size _).mono (Nat.le_refl _)))) (by simp; have := hold.size; omega) HRN.out hrm hrc HRS).mono ?_; rintro e w1 ⟨RA1, rc1, rfl, ho1, hb1⟩; have q0 := hb1.cell (p := ⟨wr.heap.size, 0, none⟩) (by simp); have q1 := hb1.cell (p := ⟨wr.heap.size, 1, none⟩) (by simp); have q2 := hb1.cell (p := ⟨wr.heap.size, 2, none⟩) (by simp); have q4 := hb1.cell (p := ⟨wr.heap.size, 4, none⟩) (by simp); simp at q0 q1 q2 q4; rw [HM.out] at ho1 ⊢; have PP : Below wr.heap.size wr w1 := (one_box _).trans (hb1.mono (by simp)); have P1 := Lib.hid (HB.out.below PP); have O1 := Lib.hid ho1; have AP := Lib.hid (apart_wr HB.out O1.out); clear ho1 PP))
          go_roundw
          case rel => exact ⟨j + 1, g, A, X, nx, L, by omega, by go_num, rfl, PZ, HG2⟩
          case measure => simp [intOf]; omega
    · have hd : n ≤ j ∨ (j < n ∧ 30 ≤ j) := by omega
      rcases hd with hd | ⟨hd1, hd2⟩
      · go_wp2_with (go_at_call 24; refine (fixed5_any _).mono ?_; rintro e wz ⟨rfl, hbz⟩)
        go_ret
        exact ⟨rfl, acc HB.out.old hbz⟩
      · go_wp2_with (go_at_call 24; refine (fixed5_any _).mono ?_; rintro e wz ⟨rfl, hbz⟩)
        go_ret
        exact ⟨rfl, acc HB.out.old hbz⟩

set_option maxRecDepth 100000 in
set_option maxHeartbeats 1000000 in
theorem lifted (os : Os) (started : os.Started) (H : Type) (enc : TypeId × Value → H) :
    ReturnsInHanded {} Try.checked os 3 .any (Rows.segmentDoesSpec.pre6 enc Try.prog Try.f3 Rows.segmentDoesRow.domain false) (Rows.segmentDoesSpec.post enc Try.prog Try.f3 false true false false) := by
  refine returnsInHanded_of_change (C := Try.checked) own started (by kernel_rfl) Try.func3
    (ChangeSpec.witness6 (enc := enc) (C := Try.checked) false ⟨#[], #[.int .i64 0, .slice none 0 0], []⟩ 8 (by kernel_rfl) (by kernel_rfl) (by kernel_rfl) (by kernel_rfl)) ?_
  intro W base args ds gs before hval0 hW _ _
  have hval : ∀ (j : Nat) t v, Try.f3.params[j]? = some t → args[j]? = some v → Value.okWide Try.prog W .any base t v := hval0
  have hW' := hW
  obtain ⟨p, q, hA0, hV, rfl, hfz, hnd⟩ := hW
  have hA : DataW.TrodAll enc Try.prog W 0 (fun _ => true) true Try.f3.params.toList args.toList ds p := hA0
  rw [Try.params3] at hA hval
  obtain ⟨v0, vs0, d0, ds0, p0, q0, hargs, rfl, rfl, h0, r0⟩ := trodAll_cons hA
  obtain ⟨v1, vs1, d1, ds1, p1, q1, rfl, rfl, rfl, h1, r1⟩ := trodAll_cons r0
  obtain ⟨rfl, rfl, rfl⟩ := trodAll_nil r1
  obtain rfl : args = #[v0, v1] := by cases args; simp_all
  obtain ⟨rfl, rfl⟩ := trodVars_none hV
  have k0 := h0
  have lt0 : ∀ x ∈ p0, x.block < W.heap.size := by obtain ⟨m, hm⟩ := k0; exact DataW.trod_lt m _ _ _ hm
  have k1 := h1
  have lt1 : ∀ x ∈ p1, x.block < W.heap.size := by obtain ⟨m, hm⟩ := k1; exact DataW.trod_lt m _ _ _ hm
  obtain ⟨a0, e0, _, _, w0⟩ := open_int Try.underlying3 (hval 0 3 v0 rfl rfl) h0
  subst e0
  obtain ⟨A1, l1, c1, e1, R1⟩ := L5.open_ops (hval 1 22 v1 rfl rfl) h1
  subst e1
  clear hA0 hval0
  refine (walk W a0 w0 A1 l1 c1 R1).mono fun e W' ⟨he, bel⟩ => ?_
  subst he
  exact ⟨_, rfl, _, _, _, [], _, [], hW', trodAll_mk1 (shut_bool Try.underlying4 _), (trodAll_cons_mk (Below.trod laidOut (by kernel_rfl) (of_decide_eq_true (by kernel_rfl)) k0 bel lt0) (trodAll_cons_mk (Below.trod laidOut (by kernel_rfl) (of_decide_eq_true (by kernel_rfl)) k1 bel lt1) trodAll_mk0)), rfl, bel.frame _, fun h => by cases h⟩

theorem over : Rows.segmentDoesRow.holds Try.pinned (OpenSpec.ofChange Rows.segmentDoesSpec) :=
  OpenClaim.holds_of_wide 3 Try.f3 rfl rfl rfl rfl rfl rfl rfl ⟨rfl, rfl, rfl, rfl, rfl⟩ rfl rfl rfl rfl rfl (by kernel_rfl) Try.func3 (by kernel_rfl)
    (of_decide_eq_true (by kernel_rfl)) (by unfold Func.isWrapper; first | (rw [if_pos (by decide +kernel)]; kernel_rfl) | (rw [if_neg (by decide +kernel)]; exact ⟨rfl, rfl⟩))
    (fun os started H enc _ => lifted os started H enc)

/-- the statement -/
theorem proved : Rows.SegmentDoesSaid :=
  over
#print axioms proved
end Go.Proofs.Ytpagoeoilkbmjaa.segmentDoes
