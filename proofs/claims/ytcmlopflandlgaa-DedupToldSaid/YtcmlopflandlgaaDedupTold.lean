/-
  Proved: what is remembered is told by rising producers and partitions, of each at most five batches, each behind the one ahead of it; it is loaded as it was (of at most 60 calls). No condition.
-/
import Derived.Test.YtcmlopflandlgaaRows
import Derived.WalkKit
import Derived.ProofKit
import Derived.OpenShut
import Derived.ShutString
import Derived.ChangeOld
import Derived.Below
import Derived.Test.YtcmlopflandlgaaDdFixed
import Derived.Test.YtcmlopflandlgaaDdTold
import Derived.Test.YtcmlopflandlgaaDdOps
import Derived.Test.YtcmlopflandlgaaDdSame
import Derived.Deep.RegionWith
import Derived.Deep.RegionHeld3
import Derived.Deep.RegionLaw
import Derived.Deep.DeepCutAuto
import Derived.LoopTactic
namespace Go.Proofs.Ytcmlopflandlgaa.dedupTold
open Go.ChangeShapes Go.WideShapes Go.ChangeAt Go.RowKit Go.Deep
open Go.ChangeMaps (open_string shut_string)
open L3 L4 L8

theorem own : ownKnob Try.prog.godebug = none := by kernel_rfl
theorem laidOut : laidOutB Try.prog = true := by kernel_rfl

theorem mask_n (m : Nat) (hm : m < 9223372036854775808) (x : Int) : 0 ≤ bits .and .i64 x (m : Int) ∧ bits .and .i64 x (m : Int) ≤ m := by
  have e : (BitVec.ofInt 64 x &&& BitVec.ofInt 64 (m : Int)).toNat ≤ m := by
    rw [BitVec.toNat_and]
    refine Nat.le_trans Nat.and_le_right ?_
    rw [BitVec.ofInt_natCast, BitVec.toNat_ofNat, Nat.mod_eq_of_lt (by omega)]
    exact Nat.le_refl _
  show 0 ≤ IntKind.i64.wrap ((BitVec.ofInt 64 x &&& BitVec.ofInt 64 (m : Int)).toNat : Int) ∧ IntKind.i64.wrap ((BitVec.ofInt 64 x &&& BitVec.ofInt 64 (m : Int)).toNat : Int) ≤ m
  rw [IntWalk.i64_in _ (by omega)]
  omega

theorem putM_len (m : Mk) : ∀ (l : List Mk) (put : Bool), (putM m put l).length ≤ l.length + (if put then 0 else 1)
  | [], put => by cases put <;> simp [putM]
  | x :: t, put => by
    have ih := putM_len m t (put || !befB x m)
    show ((if (!put && !befB x m) = true then [m] else []) ++ ((if (befB x m || befB m x) = true then [x] else []) ++ putM m (put || !befB x m) t)).length ≤ _
    rw [List.length_append, List.length_append]
    generalize befB x m = u at ih ⊢
    generalize befB m x = v at ih ⊢
    cases put <;> cases u <;> cases v <;> simp at ih ⊢ <;> omega
theorem doneM_len (es : List Int) (ms : List Mk) (t : ByteArray) (p pr ep sq : Int) (n : Nat) (off : Int) : (doneM es ms t p pr ep sq n off).length ≤ ms.length + 1 := by
  unfold doneM
  split
  · omega
  · exact putM_len _ ms false
theorem openM_len (es : List Int) (ms : List Mk) (id : Int) : (openM es ms id).length ≤ ms.length := by
  unfold openM
  split
  · omega
  · split
    · omega
    · split
      · omega
      · exact List.length_filter_le _ _
section
variable {W w w1 w2 : World} {a1 a2 a3 a4 a5 a6 a7 a8 a9 a0 : Addr} {v1 v2 v3 v4 v5 v6 v7 v8 v9 v0 : Value}
theorem keep10n (h : ((w1.cell? a1 = some v1 ∧ w1.cell? a2 = some v2 ∧ w1.cell? a3 = some v3 ∧ w1.cell? a4 = some v4 ∧ w1.cell? a5 = some v5) ∧ (w1.cell? a6 = some v6 ∧ w1.cell? a7 = some v7 ∧ w1.cell? a8 = some v8 ∧ w1.cell? a9 = some v9 ∧ w1.cell? a0 = some v0)) ∧ Below W.heap.size W w1) (hb : Below w1.heap.size w1 w2) :
    ((w2.cell? a1 = some v1 ∧ w2.cell? a2 = some v2 ∧ w2.cell? a3 = some v3 ∧ w2.cell? a4 = some v4 ∧ w2.cell? a5 = some v5) ∧ (w2.cell? a6 = some v6 ∧ w2.cell? a7 = some v7 ∧ w2.cell? a8 = some v8 ∧ w2.cell? a9 = some v9 ∧ w2.cell? a0 = some v0)) ∧ Below W.heap.size W w2 := by
  obtain ⟨⟨⟨h1, h2, h3, h4, h5⟩, h6, h7, h8, h9, h0⟩, ho⟩ := h
  exact ⟨⟨⟨cell_at hb h1, cell_at hb h2, cell_at hb h3, cell_at hb h4, cell_at hb h5⟩, cell_at hb h6, cell_at hb h7, cell_at hb h8, cell_at hb h9, cell_at hb h0⟩, ho.trans (hb.mono ho.size)⟩
end
theorem rows_below {w w' : World} {vs : List MV} (h : L8.RowsIn w vs) (hb : Below w.heap.size w w') : L8.RowsIn w' vs := fun v hv => ⟨(h v hv).1.below hb, (h v hv).2⟩
theorem load_mt {B w w' : World} {g N : Nat} {es : List Int} {ms : List Mk} {vs : List MV} {e : Ending} (M : MT B w g N es ms) (hv : vs.map (·.m) = ms) (h : LoadP w 0 es (vs.map (·.m)) e w') :
    ∃ u, e = .returned (.tuple #[.pointer (some ⟨u, 0, none⟩), .int .i64 0]) ∧ Below w.heap.size w w' ∧ Hid (MT B w' u ms.length es ms) := by
  rw [hv] at h
  obtain ⟨hb, ⟨h0, _⟩ | ⟨_, u, he, ⟨A, cap, b, ht, hk⟩⟩⟩ := h
  · exact absurd rfl h0
  · exact ⟨u, he, hb, Lib.hid ⟨⟨A, cap, b, ht, fun k q => Nat.le_trans M.2.1.size (hk k q)⟩, M.2.1.trans (hb.mono M.2.1.size), M.2.2⟩⟩
/-- topics are short -/
def Short (ms : List Mk) : Prop := ∀ m ∈ ms, m.t.size ≤ 40
theorem short_done {es : List Int} {ms : List Mk} (G : L8.Good es ms) (h : Short ms) (t : ByteArray) (ht : t.size ≤ 40) (p pr ep sq : Int) (n : Nat) (off : Int) : Short (doneM es ms t p pr ep sq n off) := by
  unfold doneM
  split
  · exact h
  · intro m hm
    rcases ((putM_mem ⟨pr, ep, t, p, push (lastOf ms pr t p) ⟨sq, n, off⟩⟩ G.sorted).2 m).1 hm with rfl | ⟨hm, _⟩
    · exact ht
    · exact h m hm
theorem short_open {es : List Int} {ms : List Mk} (h : Short ms) (id : Int) : Short (openM es ms id) := by
  unfold openM
  split
  · exact h
  · split
    · exact h
    · split
      · exact h
      · exact fun m hm => h m (List.mem_filter.1 hm).1
/-- a call of the script, in a box of the law's own -/
def OB (b : Nat) (k i f : Int) (t : ByteArray) (p pr ep sq : Int) (R : Option Addr) (n c : Nat) (W w : World) : Prop :=
  (w.cell? ⟨b, 3, none⟩ = some (.string t) ∧ w.cell? ⟨b, 4, none⟩ = some (.int .i64 p) ∧ w.cell? ⟨b, 5, none⟩ = some (.int .i64 pr) ∧ w.cell? ⟨b, 6, none⟩ = some (.int .i64 ep) ∧ w.cell? ⟨b, 7, none⟩ = some (.int .i64 sq) ∧ w.cell? ⟨b, 8, none⟩ = some (.slice R n c)) ∧ (w.heap[b]? = some (.cells #[.int .i64 k, .int .i64 i, .int .i64 f, .string t, .int .i64 p, .int .i64 pr, .int .i64 ep, .int .i64 sq, .slice R n c] 36 (0, 0)) ∧ Fr W w)
section
variable {b : Nat} {k i f : Int} {t : ByteArray} {p pr ep sq : Int} {R : Option Addr} {n c : Nat} {W w w' : World}
theorem OB.of (h : w.heap[b]? = some (.cells #[.int .i64 k, .int .i64 i, .int .i64 f, .string t, .int .i64 p, .int .i64 pr, .int .i64 ep, .int .i64 sq, .slice R n c] 36 (0, 0))) (fr : Fr W w) : OB b k i f t p pr ep sq R n c W w :=
  ⟨⟨(cell_of_row _ _ 3 _ _ _ h).trans rfl, (cell_of_row _ _ 4 _ _ _ h).trans rfl, (cell_of_row _ _ 5 _ _ _ h).trans rfl, (cell_of_row _ _ 6 _ _ _ h).trans rfl, (cell_of_row _ _ 7 _ _ _ h).trans rfl, (cell_of_row _ _ 8 _ _ _ h).trans rfl⟩, h, fr⟩
theorem OB.fr (h : OB b k i f t p pr ep sq R n c W w) (fr : Fr w w') : OB b k i f t p pr ep sq R n c W w' := .of (fr.box h.2.1 (by decide) (by decide)) (h.2.2.trans fr)
theorem OB.next (h : OB b k i f t p pr ep sq R n c W w) (hb : Below w.heap.size w w') : OB b k i f t p pr ep sq R n c W w' := h.fr (Fr.below hb)
theorem OB.here (h : OB b k i f t p pr ep sq R n c W w) : OB b k i f t p pr ep sq R n c w w := .of h.2.1 (Fr.refl w)
end
set_option maxRecDepth 100000 in
set_option maxHeartbeats 16000000 in
theorem walk (w : World) (A0 : Option Addr) (l0 : List Sc) (c0 : Nat) (R0 : IsSc w A0 l0) :
    Calls Try.prog 6 #[.slice A0 l0.length c0] w fun e w' => e = .returned (.bool true) ∧ Below w.heap.size w w' := by
  obtain ⟨m, hm⟩ : ∃ m, l0.length = m := ⟨_, rfl⟩
  obtain ⟨HSC, HS1, hnm⟩ := R0
  rw [hm] at hnm ⊢
  unfold maxLen at hnm
  have HL0 := Lib.hid hm
  clear hm
  go_enter Try.func6, Try.ntmps6
  go_wp2_with (go_at_call 7; refine (m8_new w w (Lib.hid (Below.refl _ _))).mono ?_; rintro e w1 ⟨g, rfl, hM1, hb1⟩; have M1 := Lib.hid hM1; clear hM1)
  go_loopw [4] (fun i wr => ∃ (j N : Nat) (es : List Int) (ms : List Mk), j ≤ 60 ∧ N ≤ j ∧ i = .int .i64 j ∧ ms.length ≤ j ∧ Hid (MT w wr g N es ms) ∧ Hid (ToldOk (4 * (j : Int)) ms ∧ Short ms)) (fun i _ => 60 - (intOf i).toNat)
  case atStart => exact ⟨0, 0, [], [], by omega, by omega, rfl, by simp, M1, Lib.hid ⟨fun m hm => (by cases hm), fun m hm => (by cases hm)⟩⟩
  case round =>
    obtain ⟨j, N, es, ms, hj, hN, rfl, hml, HM, HT⟩ := hrel
    by_cases hlt : j < m ∧ j < 60
    · obtain ⟨h1, h2⟩ := hlt
      obtain ⟨og, oo, rfl, hog, hc⟩ := HSC.out (by rw [HL0.out]; omega)
      obtain ⟨⟨kd, id, off, t0, p, pr, ep, sq, R, rl, rc⟩, hr⟩ : ∃ r, l0[j]? = some r := ⟨_, List.getElem?_eq_getElem (by rw [HL0.out]; exact h1)⟩
      obtain ⟨c0_, c1_, c2_, c3_, c4_, c5_, c6_, c7_, c8_⟩ := hc j _ hr
      obtain ⟨⟨hrec, _⟩, ⟨ht0, hp0⟩, _⟩ := HS1.out _ (List.mem_of_getElem? hr)
      have hrl := hrec.2.2
      dsimp only at c0_ c1_ c2_ c3_ c4_ c5_ c6_ c7_ c8_ ht0 hp0 hrl
      obtain ⟨nl, hnl⟩ : ∃ n, rl.length = n := ⟨_, rfl⟩
      rw [hnl] at c8_ hrl
      have hbw := HM.out.2.1
      have d0 := (hbw.cell (p := ⟨og, oo + j * 9, none⟩) hog).trans c0_
      have d1 := (hbw.cell (p := ⟨og, oo + j * 9 + 1, none⟩) hog).trans c1_
      have d2 := (hbw.cell (p := ⟨og, oo + j * 9 + 2, none⟩) hog).trans c2_
      have d3 := (hbw.cell (p := ⟨og, oo + j * 9 + 3, none⟩) hog).trans c3_
      have d4 := (hbw.cell (p := ⟨og, oo + j * 9 + 4, none⟩) hog).trans c4_
      have d5 := (hbw.cell (p := ⟨og, oo + j * 9 + 5, none⟩) hog).trans c5_
      have d6 := (hbw.cell (p := ⟨og, oo + j * 9 + 6, none⟩) hog).trans c6_
      have d7 := (hbw.cell (p := ⟨og, oo + j * 9 + 7, none⟩) hog).trans c7_
      have d8 := (hbw.cell (p := ⟨og, oo + j * 9 + 8, none⟩) hog).trans c8_
      obtain ⟨t, hcut⟩ : ∃ t, t0.extract 0 (min (t0.size : Int) 40).toNat = t := ⟨_, rfl⟩
      have t40 : t.size ≤ 40 := by rw [← hcut, ByteArray.size_extract]; omega
      unfold maxLen at ht0 hrl
      have PW := Lib.hid hp0
      have j0 : (0 : Int) ≤ (j : Int) := by omega
      have j1 : (j : Int) < (m : Int) := by omega
      have j2 : (j : Int) < 60 := by omega
      clear c0_ c1_ c2_ c3_ c4_ c5_ c6_ c7_ c8_ hc hr hrec hp0 hbw hnl
      go_upto_region 9 with fail
      obtain ⟨bo, hbo⟩ : ∃ b, wr.heap.size = b := ⟨_, rfl⟩
      obtain ⟨W3, hW3⟩ : ∃ W3, wr.alloc (.cells #[.int .i64 kd, .int .i64 id, .int .i64 off, .string t, .int .i64 p, .int .i64 pr, .int .i64 ep, .int .i64 sq, .slice R nl rc] 36) = W3 := ⟨_, rfl⟩
      have hB3 : Below wr.heap.size wr W3 := hW3 ▸ one_box' _
      have hx3 : W3.heap[bo]? = some (.cells #[.int .i64 kd, .int .i64 id, .int .i64 off, .string t, .int .i64 p, .int .i64 pr, .int .i64 ep, .int .i64 sq, .slice R nl rc] 36 (0, 0)) := by rw [← hW3, ← hbo]; exact heap_alloc_new wr _
      rw [hW3, hbo]
      have M3 := Lib.hid (HM.out.below hB3)
      have P3 : OB bo kd id off t p pr ep sq R nl rc W3 W3 := OB.of hx3 (Fr.refl _)
      obtain ⟨s3, s4, s5, s6, s7, s8⟩ := P3.1
      have s0 : W3.cell? ⟨bo, 0, none⟩ = some (.int .i64 kd) := (cell_of_row _ _ 0 _ _ _ hx3).trans rfl
      have s1 : W3.cell? ⟨bo, 1, none⟩ = some (.int .i64 id) := (cell_of_row _ _ 1 _ _ _ hx3).trans rfl
      clear d0 d1 d2 d3 d4 d5 d6 d7 d8 hW3 hbo hB3 hx3 HM hog hcut
      by_cases hk : kd = 0
      · subst hk
        obtain ⟨⟨r1, r2, x⟩, hx⟩ : ∃ r, openR es id = r := ⟨_, rfl⟩
        have HX := Lib.hid hx
        clear hx
        go_wp2_with (go_at_call 9; refine (m8_open id r1 r2 x M3 HX).mono ?_; rintro e w4 ⟨rfl, hM4, hF4⟩)
        go_roundw
        case rel => exact ⟨j + 1, N, _, _, by omega, by omega, by go_num, Nat.le_trans (openM_len es ms id) (by omega), Lib.hid hM4, Lib.hid ⟨(told_open HT.out.1 id).mono (by omega), short_open HT.out.2 id⟩⟩
        case measure => simp [intOf]; omega
      · have k0 : (kd == 0) = false := by simpa using hk
        obtain ⟨b, hbm⟩ : ∃ b, bits .and .i64 (nl : Int) 3 = b := ⟨_, rfl⟩
        have hb := mask_n 3 (by decide) (nl : Int)
        rw [show ((3 : Nat) : Int) = 3 from rfl, hbm] at hb
        obtain ⟨k, hk1⟩ : ∃ k : Nat, 1 + b = (k : Int) := ⟨(1 + b).toNat, by omega⟩
        have k1 : 1 ≤ k := by omega
        have k4 : k ≤ 4 := by omega
        have e5 : IntKind.i64.wrap (k : Int) = (k : Int) := by rw [IntKind.wrap_i64]; omega
        have e6 : IntKind.i64.wrap (1 + b) = (k : Int) := by rw [IntKind.wrap_i64]; omega
        obtain ⟨x, hx⟩ : ∃ r, doneE es ms t p pr ep sq k 5 = r := ⟨_, rfl⟩
        have HX := Lib.hid hx
        clear hx
        go_upto_region 11 with fail
        go_region_held3 (fun w' => (w'.cell? ⟨bo, 3, none⟩ = some (.string t) ∧ w'.cell? ⟨bo, 4, none⟩ = some (.int .i64 p) ∧ w'.cell? ⟨bo, 5, none⟩ = some (.int .i64 pr) ∧ w'.cell? ⟨bo, 6, none⟩ = some (.int .i64 ep) ∧ w'.cell? ⟨bo, 7, none⟩ = some (.int .i64 sq) ∧ w'.cell? ⟨bo, 8, none⟩ = some (.slice R nl rc)) ∧ (w'.heap[bo]? = some (.cells #[.int .i64 kd, .int .i64 id, .int .i64 off, .string t, .int .i64 p, .int .i64 pr, .int .i64 ep, .int .i64 sq, .slice R nl rc] 36 (0, 0)) ∧ Fr W3 w'))
          (first | assumption | exact OB.here (by assumption) | exact OB.next (OB.here (by assumption)) (drewB _) | exact OB.next (by assumption) (drewB _) | exact OB.next (by assumption) (by assumption) | exact OB.fr (by assumption) (by assumption))
          (first
            | (go_at_call 21; refine (of_is pr ep sq k _ (by omega)).mono ?_; rintro e w5 ⟨R5, c5, rfl, hb5⟩; have M5 := Lib.hid ((M3.out.below (drewB _)).below hb5))
            | (go_at_call 13; refine (m8_done t p pr ep sq 5 x R5 k c5 M5 (by omega) PW (by omega) HX).mono ?_; rintro e w6 ⟨rfl, hM6, hF6⟩))
        rename_i P6
        have M6 := Lib.hid hM6
        clear P6 hM6 hF6 hb5
        go_wp2_with fail
        go_roundw
        case rel => exact ⟨j + 1, N + 1, _, _, by omega, by omega, by go_num, Nat.le_trans (doneM_len es ms t p pr ep sq k 5) (by omega), M6, Lib.hid ⟨by have h := told_done M3.out.2.2 HT.out.1 (by omega) (by omega) t p pr ep sq k1 k4; exact h.mono (by omega), short_done M3.out.2.2 HT.out.2 t t40 p pr ep sq k 5⟩⟩
        case measure => simp [intOf]; omega
    · have hd : m ≤ j ∨ (j < m ∧ 60 ≤ j) := by omega
      rcases hd with hd | ⟨hd1, hd2⟩
      · have jm : ¬ (j : Int) < (m : Int) := by omega
        go_wp2_with (go_at_call 17; refine (m8_makers HM (by omega)).mono ?_; rintro e w2 ⟨A2, c2, vs, rfl, hvm, hrm, hro, hmb, hb2⟩)
        obtain ⟨q, hq⟩ : ∃ q, ms.length = q := ⟨_, rfl⟩
        rw [hq] at hml ⊢
        have HQ := Lib.hid hq
        have M2 := Lib.hid (HM.out.below hb2)
        have HVM := Lib.hid hvm
        have HRM := Lib.hid hrm
        have HRO := Lib.hid hro
        have HVL : Hid (vs.length = q) := Lib.hid (by have e := congrArg List.length hvm; simpa [hq] using e)
        clear hvm hrm hro hmb hb2 hq HM
        go_loopw [7] (fun i wx => ∃ k : Nat, k ≤ q ∧ i = .int .i64 k ∧ Below w2.heap.size w2 wx) (fun i _ => q - (intOf i).toNat)
        case atStart => exact ⟨0, by omega, rfl, Below.refl _ _⟩
        case round =>
          obtain ⟨k, hk, rfl, hbx⟩ := hrel
          have k0 : (0 : Int) ≤ (k : Int) := by omega
          by_cases hkq : k < q
          · obtain ⟨mg, mo, rfl, hmg, hmc⟩ := HRM.out (by rw [HVL.out]; omega)
            obtain ⟨⟨⟨xi, xe, xt, xp, xl⟩, vA, vc⟩, hv⟩ : ∃ v, vs[k]? = some v := ⟨_, List.getElem?_eq_getElem (by rw [HVL.out]; exact hkq)⟩
            have hx : ms[k]? = some ⟨xi, xe, xt, xp, xl⟩ := by rw [← HVM.out, List.getElem?_map, hv]; rfl
            obtain ⟨_, f1, f5⟩ := M2.out.2.2.fit _ (List.mem_of_getElem? hx)
            obtain ⟨hxt, hxw⟩ := M2.out.2.2.txt _ (List.mem_of_getElem? hx)
            obtain ⟨nl, hnl⟩ : ∃ n, xl.length = n := ⟨_, rfl⟩
            obtain ⟨b0, b1, b2, b3, b4⟩ := hmc k _ hv
            dsimp only at b0 b1 b2 b3 b4 f1 f5 hxt hxw
            rw [hnl] at b4 f1 f5
            have LK := Lib.hid (HT.out.1 _ (List.mem_of_getElem? hx))
            have RD := Lib.hid (told_rows HRO.out _ (List.mem_of_getElem? hv)).1.1
            have B4 := Lib.hid b4
            have HNL := Lib.hid hnl
            have k1 : (k : Int) < (q : Int) := by omega
            have nl1 : ¬ (nl : Int) < 1 := by omega
            have nl5 : ¬ (5 : Int) < (nl : Int) := by omega
            have dn1 : decide ((nl : Int) < 1) = false := decide_eq_false nl1
            have dn5 : decide ((5 : Int) < (nl : Int)) = false := decide_eq_false nl5
            have dn1' : decide (nl < 1) = false := decide_eq_false (by omega)
            have dn5' : decide (5 < nl) = false := decide_eq_false (by omega)
            have dn0 : decide (nl = 0) = false := decide_eq_false (by omega)
            have dn0' : ¬ nl = 0 := by omega
            have B0 := Lib.hid b0
            have B1 := Lib.hid b1
            have B2 := Lib.hid b2
            have B3 := Lib.hid b3
            go_upto_region 16 with fail
            go_cut [106] (fun sv wc => sv = .bool false ∧ Below w2.heap.size w2 wc)
            case first =>
              by_cases kz : k = 0
              · have gz : decide ((0 : Int) < (k : Int)) = false := decide_eq_false (by omega)
                have gz2 : decide (0 < k) = false := decide_eq_false (by omega)
                clear kz
                replace b0 := cell_at hbx b0; replace b1 := cell_at hbx b1; replace b2 := cell_at hbx b2; replace b3 := cell_at hbx b3; replace b4 := cell_at hbx b4
                go_quiet (fail)
                go_wp2_with fail
                go_meet
                exact ⟨rfl, drewN_below hbx _⟩
              · obtain ⟨k', rfl⟩ : ∃ x, k = x + 1 := ⟨k - 1, by omega⟩
                obtain ⟨⟨⟨yi, ye, yt, yp, yl⟩, yA, yc⟩, hy⟩ : ∃ v, vs[k']? = some v := ⟨_, List.getElem?_eq_getElem (by rw [HVL.out]; omega)⟩
                have hz : ms[k']? = some ⟨yi, ye, yt, yp, yl⟩ := by rw [← HVM.out, List.getElem?_map, hy]; rfl
                obtain ⟨hyt, _⟩ := M2.out.2.2.txt _ (List.mem_of_getElem? hz)
                have HBF : Hid (befB ⟨yi, ye, yt, yp, yl⟩ ⟨xi, xe, xt, xp, xl⟩ = true) := Lib.hid (by
                  obtain ⟨l1, e1⟩ := List.getElem?_eq_some_iff.1 hz
                  obtain ⟨l2, e2⟩ := List.getElem?_eq_some_iff.1 hx
                  have h := List.pairwise_iff_getElem.1 M2.out.2.2.sorted k' (k' + 1) l1 l2 (by omega)
                  rwa [e1, e2] at h)
                obtain ⟨yn, hyn⟩ : ∃ n, yl.length = n := ⟨_, rfl⟩
                obtain ⟨a0, a1, a2, a3, a4⟩ := hmc k' _ hy
                dsimp only at a0 a1 a2 a3 a4 hyt
                rw [hyn] at a4
                have w3_ : wrap64 (((k' + 1 : Nat) : Int) - 1) = (k' : Int) := by simp only [wrap64]; omega
                have w4_ : IntKind.i64.wrap (((k' + 1 : Nat) : Int) - 1) = (k' : Int) := by rw [IntKind.wrap_i64]; omega
                have w5_ : IntKind.i64.wrap (k' : Int) = (k' : Int) := by rw [IntKind.wrap_i64]; omega
                have i1 : (0 : Int) ≤ (k' : Int) := by omega
                have i2 : (k' : Int) < (q : Int) := by omega
                have i3 : (0 : Int) < ((k' + 1 : Nat) : Int) := by omega
                have i4 : (0 : Int) ≤ (k' : Int) + 1 := by omega
                have i5 : (k' : Int) + 1 < (q : Int) := by omega
                have i6 : ((k' : Int) + 1).toNat = k' + 1 := by omega
                have dk : decide ((0 : Int) < ((k' + 1 : Nat) : Int)) = true := decide_eq_true i3
                have dk2 : decide ((0 : Int) < (k' : Int) + 1) = true := decide_eq_true (by omega)
                replace a0 := cell_at hbx a0; replace a1 := cell_at hbx a1; replace a2 := cell_at hbx a2; replace a3 := cell_at hbx a3; replace a4 := cell_at hbx a4
                replace b0 := cell_at hbx b0; replace b1 := cell_at hbx b1; replace b2 := cell_at hbx b2; replace b3 := cell_at hbx b3; replace b4 := cell_at hbx b4
                have hS5 := And.intro (And.intro (And.intro a0 (And.intro a1 (And.intro a2 (And.intro a3 a4)))) (And.intro b0 (And.intro b1 (And.intro b2 (And.intro b3 b4))))) (Below.refl wr.heap.size wr)
                clear hy hz hyn kz
                go_region_held3 (fun w' => ((w'.cell? ⟨mg, mo + k' * 5, none⟩ = some (.int .i64 yi) ∧ w'.cell? ⟨mg, mo + k' * 5 + 1, none⟩ = some (.int .i64 ye) ∧ w'.cell? ⟨mg, mo + k' * 5 + 2, none⟩ = some (.string yt) ∧ w'.cell? ⟨mg, mo + k' * 5 + 3, none⟩ = some (.int .i64 yp) ∧ w'.cell? ⟨mg, mo + k' * 5 + 4, none⟩ = some (.slice yA yn yc)) ∧ (w'.cell? ⟨mg, mo + (k' + 1) * 5, none⟩ = some (.int .i64 xi) ∧ w'.cell? ⟨mg, mo + (k' + 1) * 5 + 1, none⟩ = some (.int .i64 xe) ∧ w'.cell? ⟨mg, mo + (k' + 1) * 5 + 2, none⟩ = some (.string xt) ∧ w'.cell? ⟨mg, mo + (k' + 1) * 5 + 3, none⟩ = some (.int .i64 xp) ∧ w'.cell? ⟨mg, mo + (k' + 1) * 5 + 4, none⟩ = some (.slice vA nl vc))) ∧ Below wr.heap.size wr w')
                  (first | assumption | exact keep10n hS5 (drewB _) | exact keep10n (by assumption) (by assumption) | exact keep10n (by assumption) (drewB _))
                  ((go_at_call 22; refine (rbefore_is yi ye yp xi xe xp yt xt yl xl yA vA yn yc nl vc true _ hyt hxt HBF).mono ?_; rintro e w5 ⟨rfl, hb5⟩))
                all_goals
                  rename_i hh
                  have hbw := hbx.trans (hh.2.mono hbx.size)
                  clear hh
                  go_wp2_with fail
                  go_meet
                  exact ⟨rfl, hbw⟩
            case rest =>
              obtain ⟨rfl, hbc⟩ := hcut
              replace b0 := cell_at hbc b0; replace b1 := cell_at hbc b1; replace b2 := cell_at hbc b2; replace b3 := cell_at hbc b3; replace b4 := cell_at hbc b4
              have n1 : (1 : Int) ≤ (nl : Int) := by omega
              go_wp2_with fail
              go_loopw [8] (fun jv wy => ∃ i : Nat, 1 ≤ i ∧ i ≤ nl ∧ jv = .int .i64 i ∧ Below w2.heap.size w2 wy) (fun jv _ => nl - (intOf jv).toNat)
              case atStart => exact ⟨1, by omega, by omega, rfl, hbc⟩
              case round =>
                obtain ⟨i, hi1, hi2, rfl, hby⟩ := hrel
                have g4 := cell_at hby B4.out
                clear b0 b1 b2 b3 b4
                by_cases hin : i < nl
                · obtain ⟨i', rfl⟩ : ∃ x, i = x + 1 := ⟨i - 1, by omega⟩
                  obtain ⟨y, yo, s1, z1, o1, rfl, hd1, p0, p1, p2⟩ := row_did RD.out (i := i') (by rw [HNL.out]; omega)
                  obtain ⟨y', yo', s2, z2, o2, he, hd2, q0, q1, q2⟩ := row_did RD.out (i := i' + 1) (by rw [HNL.out]; omega)
                  injection he with he; injection he with e1 e2; subst e1; subst e2
                  have hs := lk_at LK.out.2 hd1 hd2
                  obtain ⟨u1, u2, u3, u4, _⟩ := LK.out.1 _ (List.mem_of_getElem? hd1)
                  dsimp only at hs u1 u2 u3 u4
                  have w1_ : wrap64 (s1 + z1) = s2 := by simp only [wrap64]; omega
                  have w2_ : IntKind.i64.wrap (s1 + z1) = s2 := by rw [IntKind.wrap_i64]; omega
                  have w3_ : wrap64 (((i' + 1 : Nat) : Int) - 1) = (i' : Int) := by simp only [wrap64]; omega
                  have w4_ : IntKind.i64.wrap (((i' + 1 : Nat) : Int) - 1) = (i' : Int) := by rw [IntKind.wrap_i64]; omega
                  have w5_ : IntKind.i64.wrap (i' : Int) = (i' : Int) := by rw [IntKind.wrap_i64]; omega
                  replace p0 := cell_at hby p0; replace p1 := cell_at hby p1; replace q0 := cell_at hby q0
                  have i1 : (0 : Int) ≤ (i' : Int) := by omega
                  have i2 : (i' : Int) < (nl : Int) := by omega
                  have i3 : ((i' + 1 : Nat) : Int) < (nl : Int) := by omega
                  clear hd1 hd2 p2 q1 q2 u1 u2 u3 u4
                  go_wp2_with fail
                  go_quiet (fail)
                  go_wp2_with fail
                  go_roundw
                  case rel => exact ⟨i' + 2, by omega, by omega, by go_num, drewN_below hby _⟩
                  case measure => simp [intOf]; omega
                · obtain rfl : i = nl := by omega
                  have i3 : ¬ (i : Int) < (i : Int) := by omega
                  go_wp2_with fail
                  go_roundw
                  case rel => exact ⟨k + 1, by omega, by go_num, hby⟩
                  case measure => simp [intOf]; omega
          · obtain rfl : k = q := by omega
            have kn : ¬ (k : Int) < (k : Int) := by omega
            obtain ⟨ne, hne⟩ : ∃ n, es.length = n := ⟨_, rfl⟩
            have ne32 : ne ≤ 32 := by rw [← hne]; exact M2.out.2.2.len
            have M3 := Lib.hid (M2.out.below hbx)
            have HLE : Hid (loadE es (vs.map (·.m)) = 0) := Lib.hid (by rw [HVM.out]; exact told_load M2.out.2.2 HT.out.1 (by omega))
            have HTX : Hid (Texts (vs.map (·.m))) := Lib.hid (by rw [HVM.out]; exact fun m hm => ⟨by have := HT.out.2 m hm; omega, (M2.out.2.2.txt m hm).2⟩)
            have HLL : Hid (∀ v ∈ vs, v.m.l.length ≤ 1000000) := Lib.hid (fun v hv => by have h : v.m ∈ ms := HVM.out ▸ List.mem_map_of_mem hv; have := (M2.out.2.2.fit _ h).2.2; omega)
            have HLL2 : Hid (∀ v ∈ vs, v.m.l.length ≤ 100000) := Lib.hid (fun v hv => by have h : v.m ∈ ms := HVM.out ▸ List.mem_map_of_mem hv; have := (M2.out.2.2.fit _ h).2.2; omega)
            have HRI := Lib.hid (told_rows HRO.out)
            have HNE := Lib.hid hne
            clear hne
            go_wp2_with (first
              | (go_at_call 18; refine (fixed8_any _).mono ?_; rintro e w8 ⟨rfl, hb8⟩)
              | (go_at_call 24; refine (rsame_is A6 A2 vs6 vs k c6 c2 _ HV6 HE6 (Lib.hid HR6.out) (Lib.hid (HRM.out.below B6)) HI6 (Lib.hid (rows_below HRI.out B6)) HT6 (by omega) HL6).mono ?_; rintro e w7 ⟨rfl, hb7⟩)
              | (go_at_call 17; refine (m8_makers MU (by rw [HQ.out]; omega)).mono ?_; rintro e w6 ⟨A6, c6, vs6, he6, hvm6, hrm6, hro6, hmb6, hb6⟩; rw [HQ.out] at he6; subst he6; have B6 : Below w2.heap.size w2 w6 := (hbx.trans ((hb4.trans (hb5.mono hb4.size)).mono hbx.size)).trans (hb6.mono ((hbx.trans ((hb4.trans (hb5.mono hb4.size)).mono hbx.size)).size)); have M6 := Lib.hid (MU.out.below hb6); have HV6 : Hid (vs6.length = k) := Lib.hid (by have e := congrArg List.length hvm6; simpa [HQ.out] using e); have HE6 : Hid (vs6.map (·.m) = vs.map (·.m)) := Lib.hid (hvm6.trans HVM.out.symm); have HR6 := Lib.hid hrm6; have HI6 := Lib.hid (told_rows hro6); have HT6 : Hid (Texts (vs6.map (·.m))) := Lib.hid (by rw [HE6.out]; exact HTX.out); have HL6 : Hid (∀ v ∈ vs6, v.m.l.length ≤ 100000) := Lib.hid (fun v hv => by have h : v.m ∈ ms := hvm6 ▸ List.mem_map_of_mem hv; have := (MU.out.2.2.fit _ h).2.2; omega); clear hvm6 hrm6 hro6 hmb6)
              | (go_at_call 19; refine (load_is AE A2 ne cE k c2 es vs 0 (by unfold maxLen; omega) HNE HEN NAE HVL (by omega) (Lib.hid (HRM.out.below (hbx.trans (hb4.mono hbx.size)))) (Lib.hid (rows_below HRI.out (hbx.trans (hb4.mono hbx.size)))) HTX HLL HLE).mono ?_; intro e w5 hl5; obtain ⟨u, rfl, hb5, MU⟩ := load_mt (M3.out.below hb4) HVM.out hl5)
              | (go_at_call 23; refine (m8_epochs M3 ne HNE.out).mono ?_; rintro e w4 ⟨AE, cE, rfl, ho4, hb4⟩; have HEN := Lib.hid (ReadsN.own ho4 HNE.out); have NAE := own_nil ho4; clear ho4))
            go_ret
            exact ⟨rfl, ((M6.out.below hb7).below hb8).2.1⟩
      · have jm : (j : Int) < (m : Int) := by omega
        have j6 : ¬ (j : Int) < 60 := by omega
        go_wp2_with (go_at_call 17; refine (m8_makers HM (by omega)).mono ?_; rintro e w2 ⟨A2, c2, vs, rfl, hvm, hrm, hro, hmb, hb2⟩)
        obtain ⟨q, hq⟩ : ∃ q, ms.length = q := ⟨_, rfl⟩
        rw [hq] at hml ⊢
        have HQ := Lib.hid hq
        have M2 := Lib.hid (HM.out.below hb2)
        have HVM := Lib.hid hvm
        have HRM := Lib.hid hrm
        have HRO := Lib.hid hro
        have HVL : Hid (vs.length = q) := Lib.hid (by have e := congrArg List.length hvm; simpa [hq] using e)
        clear hvm hrm hro hmb hb2 hq HM
        go_loopw [7] (fun i wx => ∃ k : Nat, k ≤ q ∧ i = .int .i64 k ∧ Below w2.heap.size w2 wx) (fun i _ => q - (intOf i).toNat)
        case atStart => exact ⟨0, by omega, rfl, Below.refl _ _⟩
        case round =>
          obtain ⟨k, hk, rfl, hbx⟩ := hrel
          have k0 : (0 : Int) ≤ (k : Int) := by omega
          by_cases hkq : k < q
          · obtain ⟨mg, mo, rfl, hmg, hmc⟩ := HRM.out (by rw [HVL.out]; omega)
            obtain ⟨⟨⟨xi, xe, xt, xp, xl⟩, vA, vc⟩, hv⟩ : ∃ v, vs[k]? = some v := ⟨_, List.getElem?_eq_getElem (by rw [HVL.out]; exact hkq)⟩
            have hx : ms[k]? = some ⟨xi, xe, xt, xp, xl⟩ := by rw [← HVM.out, List.getElem?_map, hv]; rfl
            obtain ⟨_, f1, f5⟩ := M2.out.2.2.fit _ (List.mem_of_getElem? hx)
            obtain ⟨hxt, hxw⟩ := M2.out.2.2.txt _ (List.mem_of_getElem? hx)
            obtain ⟨nl, hnl⟩ : ∃ n, xl.length = n := ⟨_, rfl⟩
            obtain ⟨b0, b1, b2, b3, b4⟩ := hmc k _ hv
            dsimp only at b0 b1 b2 b3 b4 f1 f5 hxt hxw
            rw [hnl] at b4 f1 f5
            have LK := Lib.hid (HT.out.1 _ (List.mem_of_getElem? hx))
            have RD := Lib.hid (told_rows HRO.out _ (List.mem_of_getElem? hv)).1.1
            have B4 := Lib.hid b4
            have HNL := Lib.hid hnl
            have k1 : (k : Int) < (q : Int) := by omega
            have nl1 : ¬ (nl : Int) < 1 := by omega
            have nl5 : ¬ (5 : Int) < (nl : Int) := by omega
            have dn1 : decide ((nl : Int) < 1) = false := decide_eq_false nl1
            have dn5 : decide ((5 : Int) < (nl : Int)) = false := decide_eq_false nl5
            have dn1' : decide (nl < 1) = false := decide_eq_false (by omega)
            have dn5' : decide (5 < nl) = false := decide_eq_false (by omega)
            have dn0 : decide (nl = 0) = false := decide_eq_false (by omega)
            have dn0' : ¬ nl = 0 := by omega
            have B0 := Lib.hid b0
            have B1 := Lib.hid b1
            have B2 := Lib.hid b2
            have B3 := Lib.hid b3
            go_upto_region 16 with fail
            go_cut [106] (fun sv wc => sv = .bool false ∧ Below w2.heap.size w2 wc)
            case first =>
              by_cases kz : k = 0
              · have gz : decide ((0 : Int) < (k : Int)) = false := decide_eq_false (by omega)
                have gz2 : decide (0 < k) = false := decide_eq_false (by omega)
                clear kz
                replace b0 := cell_at hbx b0; replace b1 := cell_at hbx b1; replace b2 := cell_at hbx b2; replace b3 := cell_at hbx b3; replace b4 := cell_at hbx b4
                go_quiet (fail)
                go_wp2_with fail
                go_meet
                exact ⟨rfl, drewN_below hbx _⟩
              · obtain ⟨k', rfl⟩ : ∃ x, k = x + 1 := ⟨k - 1, by omega⟩
                obtain ⟨⟨⟨yi, ye, yt, yp, yl⟩, yA, yc⟩, hy⟩ : ∃ v, vs[k']? = some v := ⟨_, List.getElem?_eq_getElem (by rw [HVL.out]; omega)⟩
                have hz : ms[k']? = some ⟨yi, ye, yt, yp, yl⟩ := by rw [← HVM.out, List.getElem?_map, hy]; rfl
                obtain ⟨hyt, _⟩ := M2.out.2.2.txt _ (List.mem_of_getElem? hz)
                have HBF : Hid (befB ⟨yi, ye, yt, yp, yl⟩ ⟨xi, xe, xt, xp, xl⟩ = true) := Lib.hid (by
                  obtain ⟨l1, e1⟩ := List.getElem?_eq_some_iff.1 hz
                  obtain ⟨l2, e2⟩ := List.getElem?_eq_some_iff.1 hx
                  have h := List.pairwise_iff_getElem.1 M2.out.2.2.sorted k' (k' + 1) l1 l2 (by omega)
                  rwa [e1, e2] at h)
                obtain ⟨yn, hyn⟩ : ∃ n, yl.length = n := ⟨_, rfl⟩
                obtain ⟨a0, a1, a2, a3, a4⟩ := hmc k' _ hy
                dsimp only at a0 a1 a2 a3 a4 hyt
                rw [hyn] at a4
                have w3_ : wrap64 (((k' + 1 : Nat) : Int) - 1) = (k' : Int) := by simp only [wrap64]; omega
                have w4_ : IntKind.i64.wrap (((k' + 1 : Nat) : Int) - 1) = (k' : Int) := by rw [IntKind.wrap_i64]; omega
                have w5_ : IntKind.i64.wrap (k' : Int) = (k' : Int) := by rw [IntKind.wrap_i64]; omega
                have i1 : (0 : Int) ≤ (k' : Int) := by omega
                have i2 : (k' : Int) < (q : Int) := by omega
                have i3 : (0 : Int) < ((k' + 1 : Nat) : Int) := by omega
                have i4 : (0 : Int) ≤ (k' : Int) + 1 := by omega
                have i5 : (k' : Int) + 1 < (q : Int) := by omega
                have i6 : ((k' : Int) + 1).toNat = k' + 1 := by omega
                have dk : decide ((0 : Int) < ((k' + 1 : Nat) : Int)) = true := decide_eq_true i3
                have dk2 : decide ((0 : Int) < (k' : Int) + 1) = true := decide_eq_true (by omega)
                replace a0 := cell_at hbx a0; replace a1 := cell_at hbx a1; replace a2 := cell_at hbx a2; replace a3 := cell_at hbx a3; replace a4 := cell_at hbx a4
                replace b0 := cell_at hbx b0; replace b1 := cell_at hbx b1; replace b2 := cell_at hbx b2; replace b3 := cell_at hbx b3; replace b4 := cell_at hbx b4
                have hS5 := And.intro (And.intro (And.intro a0 (And.intro a1 (And.intro a2 (And.intro a3 a4)))) (And.intro b0 (And.intro b1 (And.intro b2 (And.intro b3 b4))))) (Below.refl wr.heap.size wr)
                clear hy hz hyn kz
                go_region_held3 (fun w' => ((w'.cell? ⟨mg, mo + k' * 5, none⟩ = some (.int .i64 yi) ∧ w'.cell? ⟨mg, mo + k' * 5 + 1, none⟩ = some (.int .i64 ye) ∧ w'.cell? ⟨mg, mo + k' * 5 + 2, none⟩ = some (.string yt) ∧ w'.cell? ⟨mg, mo + k' * 5 + 3, none⟩ = some (.int .i64 yp) ∧ w'.cell? ⟨mg, mo + k' * 5 + 4, none⟩ = some (.slice yA yn yc)) ∧ (w'.cell? ⟨mg, mo + (k' + 1) * 5, none⟩ = some (.int .i64 xi) ∧ w'.cell? ⟨mg, mo + (k' + 1) * 5 + 1, none⟩ = some (.int .i64 xe) ∧ w'.cell? ⟨mg, mo + (k' + 1) * 5 + 2, none⟩ = some (.string xt) ∧ w'.cell? ⟨mg, mo + (k' + 1) * 5 + 3, none⟩ = some (.int .i64 xp) ∧ w'.cell? ⟨mg, mo + (k' + 1) * 5 + 4, none⟩ = some (.slice vA nl vc))) ∧ Below wr.heap.size wr w')
                  (first | assumption | exact keep10n hS5 (drewB _) | exact keep10n (by assumption) (by assumption) | exact keep10n (by assumption) (drewB _))
                  ((go_at_call 22; refine (rbefore_is yi ye yp xi xe xp yt xt yl xl yA vA yn yc nl vc true _ hyt hxt HBF).mono ?_; rintro e w5 ⟨rfl, hb5⟩))
                all_goals
                  rename_i hh
                  have hbw := hbx.trans (hh.2.mono hbx.size)
                  clear hh
                  go_wp2_with fail
                  go_meet
                  exact ⟨rfl, hbw⟩
            case rest =>
              obtain ⟨rfl, hbc⟩ := hcut
              replace b0 := cell_at hbc b0; replace b1 := cell_at hbc b1; replace b2 := cell_at hbc b2; replace b3 := cell_at hbc b3; replace b4 := cell_at hbc b4
              have n1 : (1 : Int) ≤ (nl : Int) := by omega
              go_wp2_with fail
              go_loopw [8] (fun jv wy => ∃ i : Nat, 1 ≤ i ∧ i ≤ nl ∧ jv = .int .i64 i ∧ Below w2.heap.size w2 wy) (fun jv _ => nl - (intOf jv).toNat)
              case atStart => exact ⟨1, by omega, by omega, rfl, hbc⟩
              case round =>
                obtain ⟨i, hi1, hi2, rfl, hby⟩ := hrel
                have g4 := cell_at hby B4.out
                clear b0 b1 b2 b3 b4
                by_cases hin : i < nl
                · obtain ⟨i', rfl⟩ : ∃ x, i = x + 1 := ⟨i - 1, by omega⟩
                  obtain ⟨y, yo, s1, z1, o1, rfl, hd1, p0, p1, p2⟩ := row_did RD.out (i := i') (by rw [HNL.out]; omega)
                  obtain ⟨y', yo', s2, z2, o2, he, hd2, q0, q1, q2⟩ := row_did RD.out (i := i' + 1) (by rw [HNL.out]; omega)
                  injection he with he; injection he with e1 e2; subst e1; subst e2
                  have hs := lk_at LK.out.2 hd1 hd2
                  obtain ⟨u1, u2, u3, u4, _⟩ := LK.out.1 _ (List.mem_of_getElem? hd1)
                  dsimp only at hs u1 u2 u3 u4
                  have w1_ : wrap64 (s1 + z1) = s2 := by simp only [wrap64]; omega
                  have w2_ : IntKind.i64.wrap (s1 + z1) = s2 := by rw [IntKind.wrap_i64]; omega
                  have w3_ : wrap64 (((i' + 1 : Nat) : Int) - 1) = (i' : Int) := by simp only [wrap64]; omega
                  have w4_ : IntKind.i64.wrap (((i' + 1 : Nat) : Int) - 1) = (i' : Int) := by rw [IntKind.wrap_i64]; omega
                  have w5_ : IntKind.i64.wrap (i' : Int) = (i' : Int) := by rw [IntKind.wrap_i64]; omega
                  replace p0 := cell_at hby p0; replace p1 := cell_at hby p1; replace q0 := cell_at hby q0
                  have i1 : (0 : Int) ≤ (i' : Int) := by omega
                  have i2 : (i' : Int) < (nl : Int) := by omega
                  have i3 : ((i' + 1 : Nat) : Int) < (nl : Int) := by omega
                  clear hd1 hd2 p2 q1 q2 u1 u2 u3 u4
                  go_wp2_with fail
                  go_quiet (fail)
                  go_wp2_with fail
                  go_roundw
                  case rel => exact ⟨i' + 2, by omega, by omega, by go_num, drewN_below hby _⟩
                  case measure => simp [intOf]; omega
                · obtain rfl : i = nl := by omega
                  have i3 : ¬ (i : Int) < (i : Int) := by omega
                  go_wp2_with fail
                  go_roundw
                  case rel => exact ⟨k + 1, by omega, by go_num, hby⟩
                  case measure => simp [intOf]; omega
          · obtain rfl : k = q := by omega
            have kn : ¬ (k : Int) < (k : Int) := by omega
            obtain ⟨ne, hne⟩ : ∃ n, es.length = n := ⟨_, rfl⟩
            have ne32 : ne ≤ 32 := by rw [← hne]; exact M2.out.2.2.len
            have M3 := Lib.hid (M2.out.below hbx)
            have HLE : Hid (loadE es (vs.map (·.m)) = 0) := Lib.hid (by rw [HVM.out]; exact told_load M2.out.2.2 HT.out.1 (by omega))
            have HTX : Hid (Texts (vs.map (·.m))) := Lib.hid (by rw [HVM.out]; exact fun m hm => ⟨by have := HT.out.2 m hm; omega, (M2.out.2.2.txt m hm).2⟩)
            have HLL : Hid (∀ v ∈ vs, v.m.l.length ≤ 1000000) := Lib.hid (fun v hv => by have h : v.m ∈ ms := HVM.out ▸ List.mem_map_of_mem hv; have := (M2.out.2.2.fit _ h).2.2; omega)
            have HLL2 : Hid (∀ v ∈ vs, v.m.l.length ≤ 100000) := Lib.hid (fun v hv => by have h : v.m ∈ ms := HVM.out ▸ List.mem_map_of_mem hv; have := (M2.out.2.2.fit _ h).2.2; omega)
            have HRI := Lib.hid (told_rows HRO.out)
            have HNE := Lib.hid hne
            clear hne
            go_wp2_with (first
              | (go_at_call 18; refine (fixed8_any _).mono ?_; rintro e w8 ⟨rfl, hb8⟩)
              | (go_at_call 24; refine (rsame_is A6 A2 vs6 vs k c6 c2 _ HV6 HE6 (Lib.hid HR6.out) (Lib.hid (HRM.out.below B6)) HI6 (Lib.hid (rows_below HRI.out B6)) HT6 (by omega) HL6).mono ?_; rintro e w7 ⟨rfl, hb7⟩)
              | (go_at_call 17; refine (m8_makers MU (by rw [HQ.out]; omega)).mono ?_; rintro e w6 ⟨A6, c6, vs6, he6, hvm6, hrm6, hro6, hmb6, hb6⟩; rw [HQ.out] at he6; subst he6; have B6 : Below w2.heap.size w2 w6 := (hbx.trans ((hb4.trans (hb5.mono hb4.size)).mono hbx.size)).trans (hb6.mono ((hbx.trans ((hb4.trans (hb5.mono hb4.size)).mono hbx.size)).size)); have M6 := Lib.hid (MU.out.below hb6); have HV6 : Hid (vs6.length = k) := Lib.hid (by have e := congrArg List.length hvm6; simpa [HQ.out] using e); have HE6 : Hid (vs6.map (·.m) = vs.map (·.m)) := Lib.hid (hvm6.trans HVM.out.symm); have HR6 := Lib.hid hrm6; have HI6 := Lib.hid (told_rows hro6); have HT6 : Hid (Texts (vs6.map (·.m))) := Lib.hid (by rw [HE6.out]; exact HTX.out); have HL6 : Hid (∀ v ∈ vs6, v.m.l.length ≤ 100000) := Lib.hid (fun v hv => by have h : v.m ∈ ms := hvm6 ▸ List.mem_map_of_mem hv; have := (MU.out.2.2.fit _ h).2.2; omega); clear hvm6 hrm6 hro6 hmb6)
              | (go_at_call 19; refine (load_is AE A2 ne cE k c2 es vs 0 (by unfold maxLen; omega) HNE HEN NAE HVL (by omega) (Lib.hid (HRM.out.below (hbx.trans (hb4.mono hbx.size)))) (Lib.hid (rows_below HRI.out (hbx.trans (hb4.mono hbx.size)))) HTX HLL HLE).mono ?_; intro e w5 hl5; obtain ⟨u, rfl, hb5, MU⟩ := load_mt (M3.out.below hb4) HVM.out hl5)
              | (go_at_call 23; refine (m8_epochs M3 ne HNE.out).mono ?_; rintro e w4 ⟨AE, cE, rfl, ho4, hb4⟩; have HEN := Lib.hid (ReadsN.own ho4 HNE.out); have NAE := own_nil ho4; clear ho4))
            go_ret
            exact ⟨rfl, ((M6.out.below hb7).below hb8).2.1⟩

set_option maxRecDepth 100000 in
set_option maxHeartbeats 1000000 in
theorem lifted (os : Os) (started : os.Started) (H : Type) (enc : TypeId × Value → H) :
    ReturnsInHanded {} Try.checked os 6 .any (Rows.dedupToldSpec.pre6 enc Try.prog Try.f6 Rows.dedupToldRow.domain false) (Rows.dedupToldSpec.post enc Try.prog Try.f6 false true false false) := by
  refine returnsInHanded_of_change (C := Try.checked) own started (by kernel_rfl) Try.func6
    (ChangeSpec.witness6 (enc := enc) (C := Try.checked) false ⟨#[], #[.slice none 0 0], []⟩ 8 (by kernel_rfl) (by kernel_rfl) (by kernel_rfl) (by kernel_rfl)) ?_
  intro W base args ds gs before hval0 hW _ _
  have hval : ∀ (j : Nat) t v, Try.f6.params[j]? = some t → args[j]? = some v → Value.okWide Try.prog W .any base t v := hval0
  have hW' := hW
  obtain ⟨p, q, hA0, hV, rfl, hfz, hnd⟩ := hW
  have hA : DataW.TrodAll enc Try.prog W 0 (fun _ => true) true Try.f6.params.toList args.toList ds p := hA0
  rw [Try.params6] at hA hval
  obtain ⟨v0, vs0, d0, ds0, p0, q0, hargs, rfl, rfl, h0, r0⟩ := trodAll_cons hA
  obtain ⟨rfl, rfl, rfl⟩ := trodAll_nil r0
  obtain rfl : args = #[v0] := by cases args; simp_all
  obtain ⟨rfl, rfl⟩ := trodVars_none hV
  have k0 := h0
  have lt0 : ∀ x ∈ p0, x.block < W.heap.size := by obtain ⟨m, hm⟩ := k0; exact DataW.trod_lt m _ _ _ hm
  obtain ⟨A0, l0, c0, e0, R0⟩ := L8.open_scs (hval 0 22 v0 rfl rfl) h0
  subst e0
  clear hA0 hval0
  refine (walk W A0 l0 c0 R0).mono fun e W' ⟨he, bel⟩ => ?_
  subst he
  exact ⟨_, rfl, _, _, _, [], _, [], hW', trodAll_mk1 (shut_bool Try.underlying4 _), (trodAll_cons_mk (Below.trod laidOut (by kernel_rfl) (of_decide_eq_true (by kernel_rfl)) k0 bel lt0) trodAll_mk0), rfl, bel.frame _, fun h => by cases h⟩

theorem over : Rows.dedupToldRow.holds Try.pinned (OpenSpec.ofChange Rows.dedupToldSpec) :=
  OpenClaim.holds_of_wide 6 Try.f6 rfl rfl rfl rfl rfl rfl rfl ⟨rfl, rfl, rfl, rfl, rfl⟩ rfl rfl rfl rfl rfl (by kernel_rfl) Try.func6 (by kernel_rfl)
    (of_decide_eq_true (by kernel_rfl)) (by unfold Func.isWrapper; first | (rw [if_pos (by decide +kernel)]; kernel_rfl) | (rw [if_neg (by decide +kernel)]; exact ⟨rfl, rfl⟩))
    (fun os started H enc _ => lifted os started H enc)

/-- the statement -/
theorem proved : Rows.DedupToldSaid :=
  over
#print axioms proved
end Go.Proofs.Ytcmlopflandlgaa.dedupTold
