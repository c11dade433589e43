/-
  Proved: whatever producers are opened, whatever is asked and appended, in any order: each answer, and all that is remembered, is as the document says; what is told is its owner's (of at most 60 calls, batches as a statement can hold). No condition.
-/
import Derived.Test.YtcmlopflandlgaaRows
import Derived.WalkKit
import Derived.ProofKit
import Derived.OpenShut
import Derived.ShutString
import Derived.ChangeOld
import Derived.Below
import Derived.Test.YtcmlopflandlgaaDdFixed
import Derived.Test.YtcmlopflandlgaaDdOps
import Derived.Test.YtcmlopflandlgaaDdReach
import Derived.Test.YtcmlopflandlgaaDdSame2
import Derived.Test.YtcmlopflandlgaaRecBound
import Derived.Deep.RegionHeld3
import Derived.Deep.RegionLaw
import Derived.Deep.DeepCutAuto
import Derived.Deep.Cut
import Derived.Deep.CutBlock
import Derived.LoopTactic
namespace Go.Proofs.Ytcmlopflandlgaa.dedupDoes
open Go.ChangeShapes Go.WideShapes Go.ChangeAt Go.RowKit Go.Deep
open Go.ChangeMaps (open_string shut_string)
open L3 L4 L8

theorem own : ownKnob Try.prog.godebug = none := by kernel_rfl
theorem laidOut : laidOutB Try.prog = true := by kernel_rfl

theorem putM_len (m : Mk) : ∀ (l : List Mk) (put : Bool), (putM m put l).length ≤ l.length + (if put then 0 else 1)
  | [], put => by cases put <;> simp [putM]
  | x :: t, put => by
    have ih := putM_len m t (put || !befB x m)
    show ((if (!put && !befB x m) = true then [m] else []) ++ ((if (befB x m || befB m x) = true then [x] else []) ++ putM m (put || !befB x m) t)).length ≤ _
    rw [List.length_append, List.length_append]
    generalize befB x m = u at ih ⊢
    generalize befB m x = v at ih ⊢
    cases put <;> cases u <;> cases v <;> simp at ih ⊢ <;> omega
theorem doneM_len (es : List Int) (ms : List Mk) (t : ByteArray) (p pr ep sq : Int) (n : Nat) (off : Int) : (doneM es ms t p pr ep sq n off).length ≤ ms.length + 1 := by
  unfold doneM
  split
  · omega
  · exact putM_len _ ms false
theorem openM_len (es : List Int) (ms : List Mk) (id : Int) : (openM es ms id).length ≤ ms.length := by
  unfold openM
  split
  · omega
  · split
    · omega
    · split
      · omega
      · exact List.length_filter_le _ _
theorem texts_done {es : List Int} {ms : List Mk} (G : L8.Good es ms) (h : Texts ms) (t : ByteArray) (p : Int) (ht : t.size ≤ 281474976710656) (hp : (Lit.int .i64 p).wf = true) (pr ep sq : Int) (n : Nat) (off : Int) : Texts (doneM es ms t p pr ep sq n off) := by
  unfold doneM
  split
  · exact h
  · intro m hm
    rcases ((putM_mem ⟨pr, ep, t, p, push (lastOf ms pr t p) ⟨sq, n, off⟩⟩ G.sorted).2 m).1 hm with rfl | ⟨hm, _⟩
    · exact ⟨ht, hp⟩
    · exact h m hm
theorem texts_open {es : List Int} {ms : List Mk} (h : Texts ms) (id : Int) : Texts (openM es ms id) := by
  unfold openM
  split
  · exact h
  · split
    · exact h
    · split
      · exact h
      · exact fun m hm => h m (List.mem_filter.1 hm).1
theorem s8_start {W w1 : World} {g : Nat} (h : MT W w1 g 0 [] []) : S8 W (w1.alloc (.cells #[.slice none 0 0, .slice none 0 0] 29)) g 0 w1.heap.size [] [] [] [] := by
  obtain ⟨⟨A, cap, b, ht, hk⟩, hb, _⟩ := h
  exact ⟨A, cap, b, none, 0, none, 0, [], ⟨ht.below (one_box' _), ⟨heap_alloc_new _ _, ⟨rfl, .inl ⟨rfl, rfl⟩⟩, ⟨rfl, .inl ⟨rfl, rfl⟩⟩, fun v hv => by cases hv⟩, hk, hb.size, hb.trans ((one_box' _).mono hb.size), fun j _ e => by simp [bk] at e⟩, rfl⟩
/-- rows of batches that were told: they are their owner's -/
def OwnD (w : World) (B : Nat) (vs : List MV) : Prop := ∀ v ∈ vs, 0 < v.m.l.length → ∃ g cs, v.A = some ⟨g, 0, none⟩ ∧ B ≤ g ∧ w.heap[g]? = some (.cells cs 50 (0, 0)) ∧ 3 ≤ cs.size
theorem ownD_told {w : World} {B : Nat} {vs : List MV} (h : ∀ v ∈ vs, w.ownsRow B 50 3 (.slice v.A v.m.l.length v.c) v.m.l.length (rowD v.m.l)) : OwnD w B vs := fun v hv h0 => by
  obtain ⟨⟨m, A, c⟩, hv'⟩ : ∃ x : MV, x = v := ⟨v, rfl⟩
  have ho := h v hv
  rcases ho.2 with ⟨_, e⟩ | ⟨g, cap, cur, e, h1, hh, hc, _, hs, _⟩
  · omega
  · injection e with e1 e2 e3
    exact ⟨g, cur, e1, h1, hh, by rw [hs]; omega⟩
theorem OwnD.set {w : World} {B : Nat} {vs : List MV} (h : OwnD w B vs) (g i : Nat) (u : Value) : OwnD (w.setCell ⟨g, i, none⟩ u) B vs := fun v hv h0 => by
  obtain ⟨g', cs, e, h1, hh, h3⟩ := h v hv h0
  by_cases q : g' = g
  · subst q
    exact ⟨g', _, e, h1, heap_setCell_same _ _ _ _ _ _ hh, by rw [Array.size_setIfInBounds]; exact h3⟩
  · exact ⟨g', cs, e, h1, (Below.heap_setCell _ _ _ _ q).trans hh, h3⟩
set_option maxRecDepth 100000 in
set_option maxHeartbeats 16000000 in
theorem walk (w : World) (A0 : Option Addr) (l0 : List Sc) (c0 : Nat) (R0 : IsSc w A0 l0) (Z0 : ∀ r ∈ l0, r.t.size ≤ 281474976710656) :
    Calls Try.prog 3 #[.slice A0 l0.length c0] w fun e w' => e = .returned (.bool true) ∧ Below w.heap.size w w' := by
  obtain ⟨m, hm⟩ : ∃ m, l0.length = m := ⟨_, rfl⟩
  obtain ⟨HSC, HS1, hnm⟩ := R0
  rw [hm] at hnm ⊢
  unfold maxLen at hnm
  have HL0 := Lib.hid hm
  have HZ0 := Lib.hid Z0
  clear hm Z0
  go_enter Try.func3, Try.ntmps3
  go_wp2_with (go_at_call 7; refine (m8_new w w (Lib.hid (Below.refl _ _))).mono ?_; rintro e w1 ⟨g, rfl, hM1, hb1⟩; have M1 := Lib.hid (s8_start hM1); clear hM1 hb1)
  obtain ⟨W1, hW1⟩ : ∃ W1, w1.alloc (.cells #[.slice none 0 0, .slice none 0 0] 29) = W1 := ⟨_, rfl⟩
  obtain ⟨k, hk⟩ : ∃ k, w1.heap.size = k := ⟨_, rfl⟩
  rw [hW1, hk] at M1 ⊢
  clear hW1 hk
  go_loopw [3, 5] (fun tv i wr => ∃ (j g N : Nat) (es : List Int) (ms : List Mk), j ≤ 60 ∧ N ≤ j ∧ tv = .pointer (some ⟨g, 0, none⟩) ∧ i = .int .i64 j ∧ ms.length ≤ j ∧ Hid (S8 w wr g N k es ms es ms) ∧ Hid (L8.Good es ms) ∧ Hid (Texts ms)) (fun _ i _ => 60 - (intOf i).toNat)
  case atStart => exact ⟨0, g, 0, [], [], by omega, by omega, rfl, rfl, by simp, M1, Lib.hid good_new, Lib.hid (fun m hm => by cases hm)⟩
  case round =>
    clear M1
    obtain ⟨j, g, N, es, ms, hj, hN, rfl, rfl, hml, HM, HG, HT⟩ := hrel
    by_cases hlt : j < m ∧ j < 60
    · obtain ⟨h1, h2⟩ := hlt
      obtain ⟨og, oo, rfl, hog, hc⟩ := HSC.out (by rw [HL0.out]; omega)
      obtain ⟨⟨kd, id, off, t, p, pr, ep, sq, RA, rl, rc⟩, hr⟩ : ∃ r, l0[j]? = some r := ⟨_, List.getElem?_eq_getElem (by rw [HL0.out]; exact h1)⟩
      obtain ⟨c0_, c1_, c2_, c3_, c4_, c5_, c6_, c7_, c8_⟩ := hc j _ hr
      obtain ⟨⟨hrec, _⟩, ⟨ht0, hp0⟩, _⟩ := HS1.out _ (List.mem_of_getElem? hr)
      have htz := HZ0.out _ (List.mem_of_getElem? hr)
      have hrl := hrec.2.2
      dsimp only at c0_ c1_ c2_ c3_ c4_ c5_ c6_ c7_ c8_ ht0 hp0 hrl htz hrec
      obtain ⟨nl, hnl⟩ : ∃ n, rl.length = n := ⟨_, rfl⟩
      rw [hnl] at c8_
      have HNL := Lib.hid hnl
      have hbw := HM.out.bel
      have d0 := (hbw.cell (p := ⟨og, oo + j * 9, none⟩) hog).trans c0_
      have d1 := (hbw.cell (p := ⟨og, oo + j * 9 + 1, none⟩) hog).trans c1_
      have d2 := (hbw.cell (p := ⟨og, oo + j * 9 + 2, none⟩) hog).trans c2_
      have d3 := (hbw.cell (p := ⟨og, oo + j * 9 + 3, none⟩) hog).trans c3_
      have d4 := (hbw.cell (p := ⟨og, oo + j * 9 + 4, none⟩) hog).trans c4_
      have d5 := (hbw.cell (p := ⟨og, oo + j * 9 + 5, none⟩) hog).trans c5_
      have d6 := (hbw.cell (p := ⟨og, oo + j * 9 + 6, none⟩) hog).trans c6_
      have d7 := (hbw.cell (p := ⟨og, oo + j * 9 + 7, none⟩) hog).trans c7_
      have d8 := (hbw.cell (p := ⟨og, oo + j * 9 + 8, none⟩) hog).trans c8_
      have PW := Lib.hid hp0
      have HTZ := Lib.hid htz
      have HRO : Hid (L3.ReadsO wr w.heap.size RA rl) := Lib.hid (hrec.1.out.below hbw)
      have HRS := hrec.2.1
      have HRL := Lib.hid hrl
      have HSZ := Lib.hid hbw.size
      have j0 : (0 : Int) ≤ (j : Int) := by omega
      have j1 : (j : Int) < (m : Int) := by omega
      have j2 : (j : Int) < 60 := by omega
      obtain ⟨L4, hL4⟩ : ∃ L, (rl.take 20).map L3.R.cut = L := ⟨_, rfl⟩
      have HL4 := Lib.hid hL4
      obtain ⟨n, hn⟩ : ∃ n, L4.length = n := ⟨_, rfl⟩
      have HN4 := Lib.hid hn
      clear c0_ c1_ c2_ c3_ c4_ c5_ c6_ c7_ c8_ hc hr hrec hp0 hbw hnl ht0 htz hrl hL4 hn
      go_upto_region 8 with fail
      obtain ⟨bo, hbo⟩ : ∃ b, wr.heap.size = b := ⟨_, rfl⟩
      obtain ⟨W3, hW3⟩ : ∃ W3, wr.alloc (.cells #[.int .i64 kd, .int .i64 id, .int .i64 off, .string t, .int .i64 p, .int .i64 pr, .int .i64 ep, .int .i64 sq, .slice RA nl rc] 36) = W3 := ⟨_, rfl⟩
      have hB3 : Below wr.heap.size wr W3 := hW3 ▸ one_box' _
      have HX3 : Hid (W3.heap[bo]? = some (.cells #[.int .i64 kd, .int .i64 id, .int .i64 off, .string t, .int .i64 p, .int .i64 pr, .int .i64 ep, .int .i64 sq, .slice RA nl rc] 36 (0, 0))) := Lib.hid (by rw [← hW3, ← hbo]; exact heap_alloc_new wr _)
      rw [hW3, hbo]
      have M3 := Lib.hid (HM.out.below hB3)
      have HRO3 : Hid (L3.ReadsO W3 w.heap.size RA rl) := Lib.hid (HRO.out.below (hB3.mono HSZ.out))
      have HSZ3 : Hid (w.heap.size ≤ W3.heap.size) := Lib.hid (Nat.le_trans HSZ.out hB3.size)
      have s5 : W3.cell? ⟨bo, 5, none⟩ = some (.int .i64 pr) := (cell_of_row _ _ 5 _ _ _ HX3.out).trans rfl
      have s6 : W3.cell? ⟨bo, 6, none⟩ = some (.int .i64 ep) := (cell_of_row _ _ 6 _ _ _ HX3.out).trans rfl
      have s7 : W3.cell? ⟨bo, 7, none⟩ = some (.int .i64 sq) := (cell_of_row _ _ 7 _ _ _ HX3.out).trans rfl
      have s8 : W3.cell? ⟨bo, 8, none⟩ = some (.slice RA nl rc) := (cell_of_row _ _ 8 _ _ _ HX3.out).trans rfl
      clear d0 d1 d2 d3 d4 d5 d6 d7 d8 hW3 hbo hB3 HM hog HRO HSZ
      go_upto_region 9 with (go_at_call 8; rw [← HNL.out]; refine (L3.bound_is pr ep sq RA rl L4 rc w.heap.size W3 HRO3 HSZ3.out HRL.out HRS HL4).mono ?_; rintro e w4 ⟨R4, c4, rfl, ho4, hb4⟩; rw [HN4.out]; have HB4 := Lib.hid hb4; clear ho4 hb4)
      obtain ⟨bb, hbb⟩ : ∃ b, w4.heap.size = b := ⟨_, rfl⟩
      obtain ⟨W5, hW5⟩ : ∃ W5, w4.alloc (.cells #[.int .i64 pr, .int .i64 ep, .int .i64 sq, .slice R4 n c4] 34) = W5 := ⟨_, rfl⟩
      have hB5 : Below w4.heap.size w4 W5 := hW5 ▸ one_box' _
      have HBB : Hid (W5.heap[bb]? = some (.cells #[.int .i64 pr, .int .i64 ep, .int .i64 sq, .slice R4 n c4] 34 (0, 0))) := Lib.hid (by rw [← hW5, ← hbb]; exact heap_alloc_new w4 _)
      have hB35 : Below W3.heap.size W3 W5 := HB4.out.trans (hB5.mono HB4.out.size)
      have HBO : Hid (W5.heap[bo]? = some (.cells #[.int .i64 kd, .int .i64 id, .int .i64 off, .string t, .int .i64 p, .int .i64 pr, .int .i64 ep, .int .i64 sq, .slice RA nl rc] 36 (0, 0))) := Lib.hid ((hB35.block bo (Array.getElem?_eq_some_iff.1 HX3.out).1).trans HX3.out)
      have M5 := Lib.hid (M3.out.below hB35)
      rw [hW5, hbb]
      clear hW5 hbb hB5 hB35 s5 s6 s7 s8 M3 HX3 HB4 HRO3 HSZ3
      have o0 : W5.cell? ⟨bo, 0, none⟩ = some (.int .i64 kd) := (cell_of_row _ _ 0 _ _ _ HBO.out).trans rfl
      have o1 : W5.cell? ⟨bo, 1, none⟩ = some (.int .i64 id) := (cell_of_row _ _ 1 _ _ _ HBO.out).trans rfl
      have o2 : W5.cell? ⟨bo, 2, none⟩ = some (.int .i64 off) := (cell_of_row _ _ 2 _ _ _ HBO.out).trans rfl
      have o3 : W5.cell? ⟨bo, 3, none⟩ = some (.string t) := (cell_of_row _ _ 3 _ _ _ HBO.out).trans rfl
      have o4 : W5.cell? ⟨bo, 4, none⟩ = some (.int .i64 p) := (cell_of_row _ _ 4 _ _ _ HBO.out).trans rfl
      have b0 : W5.cell? ⟨bb, 0, none⟩ = some (.int .i64 pr) := (cell_of_row _ _ 0 _ _ _ HBB.out).trans rfl
      have b1 : W5.cell? ⟨bb, 1, none⟩ = some (.int .i64 ep) := (cell_of_row _ _ 1 _ _ _ HBB.out).trans rfl
      have b2 : W5.cell? ⟨bb, 2, none⟩ = some (.int .i64 sq) := (cell_of_row _ _ 2 _ _ _ HBB.out).trans rfl
      have b3 : W5.cell? ⟨bb, 3, none⟩ = some (.slice R4 n c4) := (cell_of_row _ _ 3 _ _ _ HBB.out).trans rfl
      have HTM : Hid (t.size ≤ maxLen) := Lib.hid (by have := HTZ.out; unfold maxLen; omega)
      have hml5 : ms.length ≤ 100000 := by omega
      have hN5 : N ≤ 100000 := by omega
      have htz := HTZ.out
      go_upto_block 2 with fail
      go_cut [3] from 48 to 147 (fun tv wc => ∃ (g' N' : Nat) (es' : List Int) (ms' : List Mk), tv = .pointer (some ⟨g', 0, none⟩) ∧ N' ≤ j + 1 ∧ ms'.length ≤ j + 1 ∧ Hid (S8 w wc g' N' k es' ms' es' ms') ∧ Hid (L8.Good es' ms') ∧ Hid (Texts ms'))
      case first =>
        by_cases k0 : kd = 0
        · subst k0
          obtain ⟨⟨r1, r2, x⟩, hx⟩ : ∃ r, openR es id = r := ⟨_, rfl⟩
          have HX := Lib.hid hx
          have hr1 : (r1 != r1) = false := by simp
          have hr2 : (r2 != r2) = false := by simp
          have hx3 : (x != x) = false := by simp
          clear hx
          go_wp2_with (first
            | (go_at_call 10; have _q := S6; refine (s8_ropen id r1 r2 x S6 HG hml5 HX).mono ?_; rintro e w7 ⟨rfl, s7, k7⟩; have S7 := Lib.hid s7; clear s7)
            | (go_at_call 9; refine (s8_open id r1 r2 x M5 HG HX).mono ?_; rintro e w6 ⟨rfl, s6, k6⟩; have S6 := Lib.hid s6; have o1w6 : w6.cell? ⟨bo, 1, none⟩ = some (.int .i64 id) := (cell_of_row _ _ 1 _ _ _ (k6.2 _ _ _ _ HBO.out (by decide) (by decide) (by decide))).trans rfl; clear s6 k6))
          go_meet
          exact ⟨g, N, _, _, rfl, by omega, Nat.le_trans (openM_len es ms id) (by omega), S7, Lib.hid (good_open HG.out id), Lib.hid (texts_open HT.out id)⟩
        · have k0' : (kd == 0) = false := by simpa using k0
          by_cases k1 : kd = 1
          · subst k1
            clear k0 k0'
            obtain ⟨⟨x, v, er⟩, hx⟩ : ∃ r, askP es ms t p pr ep sq n = r := ⟨_, rfl⟩
            have HX := Lib.hid hx
            have hx1 : (x != x) = false := by simp
            have hx2 : (v != v) = false := by simp
            have hx3 : (er != er) = false := by simp
            clear hx
            go_wp2_with (first
              | (go_at_call 12; have _q := S6; refine (s8_rask t p pr ep sq x er v R4 n c4 S6 HG hml5 HTM.out PW HX).mono ?_; rintro e w7 ⟨rfl, hb7⟩)
              | (go_at_call 11; refine (s8_ask t p pr ep sq x er v R4 n c4 M5 HG HTM.out PW HX).mono ?_; rintro e w6 ⟨rfl, hb6⟩; have S6 := Lib.hid (M5.out.below hb6); have k6 := KB.below hb6; have o3w6 : w6.cell? ⟨bo, 3, none⟩ = some (.string t) := (cell_of_row _ _ 3 _ _ _ (k6.2 _ _ _ _ HBO.out (by decide) (by decide) (by decide))).trans rfl; have o4w6 : w6.cell? ⟨bo, 4, none⟩ = some (.int .i64 p) := (cell_of_row _ _ 4 _ _ _ (k6.2 _ _ _ _ HBO.out (by decide) (by decide) (by decide))).trans rfl; have b0w6 : w6.cell? ⟨bb, 0, none⟩ = some (.int .i64 pr) := (cell_of_row _ _ 0 _ _ _ (k6.2 _ _ _ _ HBB.out (by decide) (by decide) (by decide))).trans rfl; have b1w6 : w6.cell? ⟨bb, 1, none⟩ = some (.int .i64 ep) := (cell_of_row _ _ 1 _ _ _ (k6.2 _ _ _ _ HBB.out (by decide) (by decide) (by decide))).trans rfl; have b2w6 : w6.cell? ⟨bb, 2, none⟩ = some (.int .i64 sq) := (cell_of_row _ _ 2 _ _ _ (k6.2 _ _ _ _ HBB.out (by decide) (by decide) (by decide))).trans rfl; have b3w6 : w6.cell? ⟨bb, 3, none⟩ = some (.slice R4 n c4) := (cell_of_row _ _ 3 _ _ _ (k6.2 _ _ _ _ HBB.out (by decide) (by decide) (by decide))).trans rfl; clear hb6 k6))
            go_meet
            exact ⟨g, N, _, _, rfl, by omega, by omega, Lib.hid (S6.out.below hb7), HG, HT⟩
          · have k1' : (kd == 1) = false := by simpa using k1
            by_cases k2 : kd = 2
            · subst k2
              clear k0 k0' k1 k1'
              obtain ⟨x, hx⟩ : ∃ r, doneE es ms t p pr ep sq n off = r := ⟨_, rfl⟩
              have HX := Lib.hid hx
              have hx1 : (x != x) = false := by simp
              clear hx
              go_wp2_with (first
                | (go_at_call 14; have _q := S6; refine (s8_rdone t p pr ep sq off x R4 n c4 S6 HG hml5 HTM.out PW HX).mono ?_; rintro e w7 ⟨rfl, s7, k7⟩; have S7 := Lib.hid s7; clear s7)
                | (go_at_call 13; refine (s8_done t p pr ep sq off x R4 n c4 M5 HG htz PW hN5 HX).mono ?_; rintro e w6 ⟨rfl, s6, k6⟩; have S6 := Lib.hid s6; have o2w6 : w6.cell? ⟨bo, 2, none⟩ = some (.int .i64 off) := (cell_of_row _ _ 2 _ _ _ (k6.2 _ _ _ _ HBO.out (by decide) (by decide) (by decide))).trans rfl; have o3w6 : w6.cell? ⟨bo, 3, none⟩ = some (.string t) := (cell_of_row _ _ 3 _ _ _ (k6.2 _ _ _ _ HBO.out (by decide) (by decide) (by decide))).trans rfl; have o4w6 : w6.cell? ⟨bo, 4, none⟩ = some (.int .i64 p) := (cell_of_row _ _ 4 _ _ _ (k6.2 _ _ _ _ HBO.out (by decide) (by decide) (by decide))).trans rfl; have b0w6 : w6.cell? ⟨bb, 0, none⟩ = some (.int .i64 pr) := (cell_of_row _ _ 0 _ _ _ (k6.2 _ _ _ _ HBB.out (by decide) (by decide) (by decide))).trans rfl; have b1w6 : w6.cell? ⟨bb, 1, none⟩ = some (.int .i64 ep) := (cell_of_row _ _ 1 _ _ _ (k6.2 _ _ _ _ HBB.out (by decide) (by decide) (by decide))).trans rfl; have b2w6 : w6.cell? ⟨bb, 2, none⟩ = some (.int .i64 sq) := (cell_of_row _ _ 2 _ _ _ (k6.2 _ _ _ _ HBB.out (by decide) (by decide) (by decide))).trans rfl; have b3w6 : w6.cell? ⟨bb, 3, none⟩ = some (.slice R4 n c4) := (cell_of_row _ _ 3 _ _ _ (k6.2 _ _ _ _ HBB.out (by decide) (by decide) (by decide))).trans rfl; clear s6 k6))
              go_meet
              exact ⟨g, N + 1, _, _, rfl, by omega, Nat.le_trans (doneM_len es ms t p pr ep sq n off) (by omega), S7, Lib.hid (good_done HG.out t p pr ep sq n off HTM.out PW.out), Lib.hid (texts_done HG.out HT.out t p HTZ.out PW.out pr ep sq n off)⟩
            · have k2' : (kd == 2) = false := by simpa using k2
              by_cases k3 : kd = 3
              · subst k3
                clear k0 k0' k1 k1' k2 k2'
                obtain ⟨⟨r1, r2, x⟩, hx⟩ : ∃ r, openR es 0 = r := ⟨_, rfl⟩
                have HX := Lib.hid hx
                obtain ⟨⟨q1, q2, y⟩, hy⟩ : ∃ r, openR (openE es 0) id = r := ⟨_, rfl⟩
                have HY := Lib.hid hy
                obtain ⟨z, hz⟩ : ∃ r, doneE (openE (openE es 0) id) (openM (openE es 0) (openM es ms 0) id) t p pr ep sq n 5 = r := ⟨_, rfl⟩
                have HZ := Lib.hid hz
                have HG1 := Lib.hid (good_open HG.out 0)
                have HG2 := Lib.hid (good_open HG1.out id)
                clear hx hy hz
                go_wp2_with (first
                  | (go_at_call 13; have _q := S8; refine (s8w_done t p pr ep sq 5 z R4 n c4 S8 HG2 htz PW hN5 HZ).mono ?_; rintro e w9 ⟨rfl, s9, k9⟩; have S9 := Lib.hid s9; clear s9 k9)
                  | (go_at_call 9; have _q := S7; refine (s8w_open id q1 q2 y S7 HG1 HY).mono ?_; rintro e w8 ⟨rfl, s8, k8⟩; have S8 := Lib.hid s8; have k8' := k7'.trans k8; have o3w8 : w8.cell? ⟨bo, 3, none⟩ = some (.string t) := (cell_of_row _ _ 3 _ _ _ (k8'.2 _ _ _ _ HBO.out (by decide) (by decide) (by decide))).trans rfl; have o4w8 : w8.cell? ⟨bo, 4, none⟩ = some (.int .i64 p) := (cell_of_row _ _ 4 _ _ _ (k8'.2 _ _ _ _ HBO.out (by decide) (by decide) (by decide))).trans rfl; have b0w8 : w8.cell? ⟨bb, 0, none⟩ = some (.int .i64 pr) := (cell_of_row _ _ 0 _ _ _ (k8'.2 _ _ _ _ HBB.out (by decide) (by decide) (by decide))).trans rfl; have b1w8 : w8.cell? ⟨bb, 1, none⟩ = some (.int .i64 ep) := (cell_of_row _ _ 1 _ _ _ (k8'.2 _ _ _ _ HBB.out (by decide) (by decide) (by decide))).trans rfl; have b2w8 : w8.cell? ⟨bb, 2, none⟩ = some (.int .i64 sq) := (cell_of_row _ _ 2 _ _ _ (k8'.2 _ _ _ _ HBB.out (by decide) (by decide) (by decide))).trans rfl; have b3w8 : w8.cell? ⟨bb, 3, none⟩ = some (.slice R4 n c4) := (cell_of_row _ _ 3 _ _ _ (k8'.2 _ _ _ _ HBB.out (by decide) (by decide) (by decide))).trans rfl; clear s8 k8 k8')
                  | (go_at_call 9; have _q := S6; refine (s8w_open 0 r1 r2 x S6 HG HX).mono ?_; rintro e w7 ⟨rfl, s7, k7⟩; have S7 := Lib.hid s7; have k7' := k6.trans k7; have o1w7 : w7.cell? ⟨bo, 1, none⟩ = some (.int .i64 id) := (cell_of_row _ _ 1 _ _ _ (k7'.2 _ _ _ _ HBO.out (by decide) (by decide) (by decide))).trans rfl; clear s7 k7)
                  | (go_at_call 15; refine (s8_copy M5 HG).mono ?_; rintro e w6 ⟨g6, rfl, s6, k6⟩; have S6 := Lib.hid s6; clear s6))
                go_meet
                exact ⟨g6, N, _, _, rfl, by omega, by omega, S9, HG, HT⟩
              · have k3' : (kd == 3) = false := by simpa using k3
                clear k0 k1 k2 k3
                go_wp2_with fail
                go_meet
                exact ⟨g, N, _, _, rfl, by omega, by omega, M5, HG, HT⟩
      case rest =>
        obtain ⟨g', N', es', ms', rfl, hN', hml', S6, HG6, HT6⟩ := hcut
        have hml6 : ms'.length ≤ 100000 := by omega
        clear HG HT M5 o0 o1 o2 o3 o4 b0 b1 b2 b3 HBO HBB hml5 hN5
        go_wp2_with (first
          | (go_at_call 17; have _q := S7; refine (s8_makers S7 HG6 hml6).mono ?_; rintro e w8 ⟨A8, c8, vs, rfl, hvm, hrm, hro, hmb, hb8⟩; have HVM := Lib.hid hvm; have HRM := Lib.hid hrm; have HOD := Lib.hid (ownD_told hro); have HMB := Lib.hid hmb; have HB8 := Lib.hid hb8; clear hvm hrm hro hmb hb8)
          | (go_at_call 16; refine (s8_same S6 HG6 HT6 hml6).mono ?_; rintro e w7 ⟨rfl, hb7⟩; have S7 := Lib.hid (S6.out.below hb7); clear hb7))
        obtain ⟨q, hq⟩ : ∃ q, ms'.length = q := ⟨_, rfl⟩
        rw [hq]
        have HVL : Hid (vs.length = q) := Lib.hid (by have e := congrArg List.length HVM.out; rw [List.length_map, hq] at e; exact e)
        have hq6 : q ≤ 100000 := by rw [← hq]; exact hml6
        clear hq S6
        go_loopw [23] (fun i wx => ∃ z : Nat, z ≤ q ∧ i = .int .i64 z ∧ Hid (Below w7.heap.size w7 wx) ∧ Hid (ReadsM wx A8 vs ∧ OwnD wx w7.heap.size vs ∧ ∀ y ∈ bk A8, ∃ cs fr, wx.heap[y]? = some (.cells cs 48 fr))) (fun i _ => q - (intOf i).toNat)
        case atStart => exact ⟨0, by omega, rfl, HB8, Lib.hid ⟨HRM.out, HOD.out, fun y hy => (HMB.out y hy).2⟩⟩
        case round =>
          obtain ⟨z, hz, rfl, HBX, HRX⟩ := hrel
          by_cases hzq : z < q
          · obtain ⟨mg, mo, rfl, hmg, hmc⟩ := HRX.out.1 (by rw [HVL.out]; omega)
            obtain ⟨⟨⟨xi, xe, xt, xp, xl⟩, vA, vc⟩, hv⟩ : ∃ v, vs[z]? = some v := ⟨_, List.getElem?_eq_getElem (by rw [HVL.out]; exact hzq)⟩
            obtain ⟨_, _, _, _, b4⟩ := hmc z _ hv
            dsimp only at b4
            have hod := HRX.out.2.1 _ (List.mem_of_getElem? hv)
            dsimp only at hod
            obtain ⟨xn, hxn⟩ : ∃ n, xl.length = n := ⟨_, rfl⟩
            rw [hxn] at b4 hod
            have z0 : (0 : Int) ≤ (z : Int) := by omega
            have z1 : (z : Int) < (q : Int) := by omega
            clear hmc hv hmg hxn
            by_cases hx0 : xn = 0
            · subst hx0
              clear hod
              go_wp2_with fail
              go_roundw
              case rel => exact ⟨z + 1, by omega, by go_num, HBX, HRX⟩
              case measure => simp [intOf]; omega
            · obtain ⟨g9, cs9, rfl, hg9, hh9, hs9⟩ := hod (by omega)
              have y0 : (0 : Int) < (xn : Int) := by omega
              have y1 : (xn : Int) > 0 := y0
              have f9 : wr.frozen? ⟨g9, 2, none⟩ = false := frozen_of_row _ _ _ _ _ hh9
              obtain ⟨u9, hu9⟩ : ∃ u, wr.cell? ⟨g9, 2, none⟩ = some u := ⟨_, (cell_of_row _ _ _ _ _ _ hh9).trans (Array.getElem?_eq_getElem (by omega))⟩
              have HNE : Hid (mg ≠ g9) := Lib.hid (fun e => by
                obtain ⟨cs, fr, hy⟩ := HRX.out.2.2 mg (by simp [bk])
                rw [e, hh9] at hy; injection hy with e; injection e with _ e; exact absurd e (by decide))
              have HG9 := Lib.hid hg9
              clear hod hx0 hh9 hs9 hg9
              go_wp2_with fail
              go_roundw
              case rel =>
                refine ⟨z + 1, by omega, by go_num, Lib.hid (HBX.out.setCell (p := ⟨g9, 2, none⟩) HG9.out _), Lib.hid ⟨fun h0 => ?_, HRX.out.2.1.set _ _ _, fun y hy => ?_⟩⟩
                · obtain ⟨a1, a2, e, a3, a4⟩ := HRX.out.1 h0
                  injection e with e; injection e with e1 e2; subst e1; subst e2
                  have far : ∀ (o : Nat) (u : Value), wr.cell? ⟨mg, o, none⟩ = some u → (wr.setCell ⟨g9, 2, none⟩ (.int .i64 99)).cell? ⟨mg, o, none⟩ = some u := fun o u hu => (World.cell?_of_block (w := wr) (Below.heap_setCell _ _ _ _ HNE.out)).trans hu
                  refine ⟨mg, mo, rfl, by simpa using a3, fun i v hv => ?_⟩
                  obtain ⟨x0, x1, x2, x3, x4⟩ := a4 i v hv
                  exact ⟨far _ _ x0, far _ _ x1, far _ _ x2, far _ _ x3, far _ _ x4⟩
                · have hy' : y = mg := by simpa [bk, eq_comm] using hy
                  subst hy'
                  obtain ⟨cs, fr, h⟩ := HRX.out.2.2 y hy
                  exact ⟨cs, fr, (Below.heap_setCell _ _ _ _ HNE.out).trans h⟩
              case measure => simp [intOf]; omega
          · obtain rfl : z = q := by omega
            have z1 : ¬ (z : Int) < (z : Int) := by omega
            go_wp2_with fail
            go_roundw
            case rel => exact ⟨j + 1, g', N', es', ms', by omega, by omega, rfl, by go_num, by omega, Lib.hid (S7.out.below HBX.out), HG6, HT6⟩
            case measure => simp [intOf]; omega
    · have hd : m ≤ j ∨ (j < m ∧ 60 ≤ j) := by omega
      rcases hd with hd | ⟨hd1, hd2⟩
      · have j1 : ¬ (j : Int) < (m : Int) := by omega
        go_wp2_with (go_at_call 18; refine (fixed8_any _).mono ?_; rintro e w20 ⟨rfl, hb20⟩)
        go_ret
        exact ⟨rfl, (HM.out.below hb20).bel⟩
      · have j1 : (j : Int) < (m : Int) := by omega
        have j2 : ¬ (j : Int) < 60 := by omega
        go_wp2_with (go_at_call 18; refine (fixed8_any _).mono ?_; rintro e w20 ⟨rfl, hb20⟩)
        go_ret
        exact ⟨rfl, (HM.out.below hb20).bel⟩

set_option maxRecDepth 100000 in
set_option maxHeartbeats 1000000 in
theorem lifted (os : Os) (started : os.Started) (H : Type) (enc : TypeId × Value → H) :
    ReturnsInHanded {} Try.checked os 3 .any (Rows.dedupDoesSpec.pre6 enc Try.prog Try.f3 Rows.dedupDoesRow.domain false) (Rows.dedupDoesSpec.post enc Try.prog Try.f3 false true false false) := by
  refine returnsInHanded_of_change_sized (C := Try.checked) own started (by kernel_rfl) Try.func3
    (ChangeSpec.witness6 (enc := enc) (C := Try.checked) false ⟨#[], #[.slice none 0 0], []⟩ 8 (by kernel_rfl) (by kernel_rfl) (by kernel_rfl) (by kernel_rfl)) ?_
  intro W base args ds gs before hval0 hW _ hsz0 _
  have hval : ∀ (j : Nat) t v, Try.f3.params[j]? = some t → args[j]? = some v → Value.okWide Try.prog W .any base t v := hval0
  have hW' := hW
  obtain ⟨p, q, hA0, hV, rfl, hfz, hnd⟩ := hW
  have hA : DataW.TrodAll enc Try.prog W 0 (fun _ => true) true Try.f3.params.toList args.toList ds p := hA0
  have hsz : (DataW.weightsEach Try.prog (Try.f3.params.toList ++ Rows.dedupDoesSpec.plain.varTypes Try.prog) (ds ++ gs)).all (· ≤ reachBytes) = true := hsz0
  rw [Try.params3] at hA hval hsz
  obtain ⟨v0, vs0, d0, ds0, p0, q0, hargs, rfl, rfl, h0, r0⟩ := trodAll_cons hA
  obtain ⟨rfl, rfl, rfl⟩ := trodAll_nil r0
  obtain rfl : args = #[v0] := by cases args; simp_all
  obtain ⟨rfl, rfl⟩ := trodVars_none hV
  have k0 := h0
  have lt0 : ∀ x ∈ p0, x.block < W.heap.size := by obtain ⟨m, hm⟩ := k0; exact DataW.trod_lt m _ _ _ hm
  obtain ⟨A0, l0, c0, e0, R0⟩ := L8.open_scs (hval 0 22 v0 rfl rfl) h0
  subst e0
  have Z0 := L8.reach_scs hsz (j := 0) rfl rfl h0 R0.1.out
  clear hA0 hval0
  refine (walk W A0 l0 c0 R0 Z0).mono fun e W' ⟨he, bel⟩ => ?_
  subst he
  exact ⟨_, rfl, _, _, _, [], _, [], hW', trodAll_mk1 (shut_bool Try.underlying4 _), (trodAll_cons_mk (Below.trod laidOut (by kernel_rfl) (of_decide_eq_true (by kernel_rfl)) k0 bel lt0) trodAll_mk0), rfl, bel.frame _, fun h => by cases h⟩

theorem over : Rows.dedupDoesRow.holds Try.pinned (OpenSpec.ofChange Rows.dedupDoesSpec) :=
  OpenClaim.holds_of_wide 3 Try.f3 rfl rfl rfl rfl rfl rfl rfl ⟨rfl, rfl, rfl, rfl, rfl⟩ rfl rfl rfl rfl rfl (by kernel_rfl) Try.func3 (by kernel_rfl)
    (of_decide_eq_true (by kernel_rfl)) (by unfold Func.isWrapper; first | (rw [if_pos (by decide +kernel)]; kernel_rfl) | (rw [if_neg (by decide +kernel)]; exact ⟨rfl, rfl⟩))
    (fun os started H enc _ => lifted os started H enc)

/-- the statement -/
theorem proved : Rows.DedupDoesSaid :=
  over
#print axioms proved
end Go.Proofs.Ytcmlopflandlgaa.dedupDoes
