/-
  Proved: whether any segments are a log's is as the document says; loaded again a log is the same, and goes on alike (of at most 6 segments, 70 records each). No condition.
-/
import Derived.Test.YtflcggpeflagiaaRows
import Derived.WalkKit
import Derived.ProofKit
import Derived.OpenShut
import Derived.ShutString
import Derived.ChangeOld
import Derived.Below
import Derived.Test.YtflcggpeflagiaaPlLaws
import Derived.Test.YtflcggpeflagiaaMPlRl5
import Derived.DataShut
import Derived.Deep.QuietTactic
import Derived.BigQuiet
import Derived.LoopTactic
import Derived.Deep.DeepCutAuto
import Derived.Deep.CutBlock
namespace Go.Proofs.Ytflcggpeflagiaa.plogLoads
open Go.ChangeShapes Go.WideShapes Go.ChangeAt Go.RowKit
open Go.ChangeMaps (open_string shut_string)
open L3 L4 L5 L6

theorem own : ownKnob Try.prog.godebug = none := by kernel_rfl
theorem laidOut : laidOutB Try.prog = true := by kernel_rfl


theorem rload6_no (room : Int) (X : Option Addr) (l : List Sa) (n xc B : Nat) (x : Int) (w : World) (hR : Hid (ReadsS w B X l)) (hO : Hid (∀ s ∈ l, w.ownsRow 0 43 5 (.slice s.A s.L.length s.c) s.L.length (rowF s.L))) (hB : B ≤ w.heap.size) (hn : l.length = n) (hl : n ≤ 900) (hs : Hid (∀ s ∈ l, s.L.length ≤ maxLen ∧ ∀ f ∈ s.L, f.r.key.size ≤ maxLen ∧ f.r.val.size ≤ maxLen)) (HX : Hid (loadE6 room (l.map Sa.s) = x)) (hx : x ≠ 0) :
    Calls Try.prog 22 #[.int .i64 room, .slice X n xc] w fun e w' => e = .returned (.tuple #[.pointer none, .int .i64 x]) ∧ Below w.heap.size w w' := by
  refine (rload6_is room X l n xc B x w hR hO hB hn hl hs HX).mono ?_
  rintro e W' (⟨_, h1, h2⟩ | ⟨h0, _⟩)
  · exact ⟨h1, h2⟩
  · exact absurd h0 hx
theorem rload6_duo {W0 w : World} {g : Nat} {S : List Nat} {l : List Sg} (room : Int) (X : Option Addr) (ll : List Sa) (n xc B : Nat) (h : Hid (LogAt W0 w room.toNat g l S)) (hR : Hid (ReadsS w B X ll)) (hO : Hid (∀ s ∈ ll, w.ownsRow 0 43 5 (.slice s.A s.L.length s.c) s.L.length (rowF s.L))) (hB : B ≤ w.heap.size) (hn : ll.length = n) (hl : n ≤ 900) (hs : Hid (∀ s ∈ ll, s.L.length ≤ maxLen ∧ ∀ f ∈ s.L, f.r.key.size ≤ maxLen ∧ f.r.val.size ≤ maxLen)) (hll : Hid (ll.map Sa.s = l)) (HX : Hid (loadE6 room l = 0)) :
    Calls Try.prog 22 #[.int .i64 room, .slice X n xc] w fun e w' => ∃ k D, e = .returned (.tuple #[.pointer (some ⟨k, 0, none⟩), .int .i64 0]) ∧ Duo W0 w' room.toNat g k l l S D := by
  refine (rload6_is room X ll n xc B 0 w hR hO hB hn hl hs (Lib.hid (by rw [hll.out]; exact HX.out))).mono ?_
  rintro e W' (⟨hz, _⟩ | ⟨_, k, D, h1, h2⟩)
  · exact absurd rfl hz
  · rw [hll.out] at h2
    have hz := h.out.old.size
    exact ⟨k, D, h1, ⟨h.out.below h2.old, ⟨acc h.out.old h2.old, fun j hj => by have := h2.since j hj; omega, h2.log⟩, fun j hj hd => by have := h.out.lt j hj; have := h2.since j hd; omega⟩⟩

set_option maxRecDepth 100000 in
set_option maxHeartbeats 16000000 in
theorem walk (w : World) (a0 : Int) (_ : (Lit.int .i64 a0).wf = true) (A1 : Option Addr) (l1 : List L6.Sa) (c1 : Nat) (R1 : IsSegs w A1 l1) (A2 : Option Addr) (l2 : List L3.R) (c2 : Nat) (R2 : IsRecs w A2 l2 ∧ l2.length ≤ c2) :
    Calls Try.prog 4 #[.int .i64 a0, .slice A1 l1.length c1, .slice A2 l2.length c2] w fun e w' => e = .returned (.bool true) ∧ Below w.heap.size w w' := by
  obtain ⟨n1, hn1⟩ : ∃ n, l1.length = n := ⟨_, rfl⟩
  obtain ⟨n2, hn2⟩ : ∃ n, l2.length = n := ⟨_, rfl⟩
  obtain ⟨HSO, HS1, hnm⟩ := R1
  obtain ⟨⟨HRR, HRS2, hrm⟩, hrc⟩ := R2
  rw [hn1] at hnm ⊢
  rw [hn2] at hrm hrc ⊢
  unfold maxLen at hnm
  have HN1 := Lib.hid hn1
  have HN2 := Lib.hid hn2
  obtain ⟨i0, hi0, hz0, hz1, hz2⟩ := info_parts fdInfo
  obtain ⟨i1, hi1, hy0, hy1, hy2⟩ := info_parts segInfo
  clear hn1 hn2
  go_enter Try.func4, Try.ntmps4
  go_upto_block 0 with (fail)
  go_cut [7, 8] (fun v iv wc => ∃ (i : Nat) (A3 : Option Addr) (c3 : Nat) (ll : List Sa), i ≤ 6 ∧ iv = .int .i64 i ∧ v = .slice A3 i c3 ∧ Hid (LawS w wc i A3 c3 ll))
  case' first =>
    go_wp2_with fail
    go_loopw [7, 8] (fun v iv wr => ∃ (i : Nat) (A3 : Option Addr) (c3 : Nat) (ll : List Sa), i ≤ n1 ∧ i ≤ 6 ∧ iv = .int .i64 i ∧ v = .slice A3 i c3 ∧ Hid (LawS w wr i A3 c3 ll)) (fun _ iv _ => 6 - (intOf iv).toNat)
    case' atStart => exact ⟨0, some ⟨w.heap.size, 0, none⟩, 0, [], by omega, by omega, rfl, rfl, Lib.hid ⟨one_box _, rfl, World.ownsRow_made (size := 3) w #[] 0 (Nat.le_refl _) (by unfold maxLen; omega) rfl, fun r hr => (by cases hr), fun r hr => (by cases hr)⟩⟩
    case' round =>
      obtain ⟨i, A3, c3, ll, hi, hi6, rfl, rfl, HLW⟩ := hrel
      obtain ⟨wo, rfl⟩ : ∃ x, x = wr := ⟨_, rfl⟩
      by_cases hlt : i < n1 ∧ i < 6
      · obtain ⟨h1, h2⟩ := hlt
        obtain ⟨og, oo, rfl, hog, hcells⟩ := HSO.out (by rw [HN1.out]; omega)
        obtain ⟨⟨sb, sn, sA, sc, sL⟩, hr⟩ : ∃ r, l1[i]? = some r := ⟨_, List.getElem?_eq_getElem (by rw [HN1.out]; omega)⟩
        obtain ⟨c0, c1', c2⟩ := hcells i _ hr
        obtain ⟨⟨HFO, HFS, hfm⟩, _, _⟩ := HS1.out _ (List.mem_of_getElem? hr)
        dsimp only at c0 c1' c2 HFO HFS hfm
        obtain ⟨ls, hls⟩ : ∃ ls, sL.length = ls := ⟨_, rfl⟩
        rw [hls] at c2
        have d0 := (HLW.out.old.cell (p := ⟨og, oo + i * 3, none⟩) hog).trans c0
        have d1 := (HLW.out.old.cell (p := ⟨og, oo + i * 3 + 1, none⟩) hog).trans c1'
        have HC2 := Lib.hid c2
        have HLS := Lib.hid hls
        have hogo : og < wo.heap.size := Nat.lt_of_lt_of_le hog HLW.out.old.size
        have hT5 : ∀ w', Below wo.heap.size wo w' → (w'.cell? ⟨og, oo + i * 3, none⟩ = some (.int .i64 sb) ∧ w'.cell? ⟨og, oo + i * 3 + 1, none⟩ = some (.int .i64 sn)) ∧ Below wo.heap.size wo w' := fun w' q => ⟨⟨(q.cell (p := ⟨og, oo + i * 3, none⟩) hogo).trans d0, (q.cell (p := ⟨og, oo + i * 3 + 1, none⟩) hogo).trans d1⟩, q⟩
        have HT5 := Lib.hid hT5
        have i0' : (0 : Int) ≤ (i : Int) := by omega
        have i1' : (i : Int) < (n1 : Int) := by omega
        have i2' : (i : Int) < 6 := by omega
        have hls0 : ls ≤ maxLen := by rw [← hls]; exact hfm
        clear hcells hr c0 c1' c2 hls hT5 hfm
        go_wp2_with fail
        refine wp_region_held_drew (S := fun w' => (w'.cell? ⟨og, oo + i * 3, none⟩ = some (.int .i64 sb) ∧ w'.cell? ⟨og, oo + i * 3 + 1, none⟩ = some (.int .i64 sn)) ∧ Below wo.heap.size wo w') (by kernel_rfl) (HT5.out _ (Below.refl _ _).drew) (fun hHeld => ?_)
        refine wpAnyH_take (i := 0) (oi := ?o1) (v := ?v1) ?a1 (by kernel_rfl) (by kernel_rfl) (by kernel_rfl) ?q1 (Or.inl ⟨?g1, ?y1⟩) (by assumption) ?r1; (case' a1 => (simp only [List.getElem?_toArray, List.getElem?_cons_zero]; rfl)); (case' q1 => (exact fun _ _ _ h => h)); (case' g1 => rfl); (case' y1 => (intro w hSw; (try dsimp only at hSw); go_simp; try with_reducible rfl)); (case' r1 => (try simp only [Act.put, List.setIfInBounds_toArray, List.set_cons_zero, List.set_cons_succ]))
        refine wpAnyH_take (i := 1) (oi := ?o2) (v := ?v2) ?a2 (by kernel_rfl) (by kernel_rfl) (by kernel_rfl) ?q2 (Or.inl ⟨?g2, ?y2⟩) (by assumption) ?r2; (case' a2 => (simp only [List.getElem?_toArray, List.getElem?_cons_zero, List.getElem?_cons_succ]; rfl)); (case' q2 => (exact fun _ _ _ h => h)); (case' g2 => rfl); (case' y2 => (intro w hSw; (try dsimp only at hSw); go_simp; try with_reducible rfl)); (case' r2 => (try simp only [Act.put, List.setIfInBounds_toArray, List.set_cons_zero, List.set_cons_succ]))
        refine wpAnyH_take (i := 2) (oi := ?o3) (v := ?v3) ?a3 (by kernel_rfl) (by kernel_rfl) (by kernel_rfl) ?q3 (Or.inl ⟨?g3, ?y3⟩) (by assumption) ?r3; (case' a3 => (simp only [List.getElem?_toArray, List.getElem?_cons_zero, List.getElem?_cons_succ]; rfl)); (case' q3 => (exact fun _ _ _ h => h)); (case' g3 => rfl); (case' y3 => (intro w hSw; (try dsimp only at hSw); go_simp; try with_reducible rfl)); (case' r3 => (try simp only [Act.put, List.setIfInBounds_toArray, List.set_cons_zero, List.set_cons_succ]))
        refine wpAnyH_take (i := 3) (oi := ?o4) (v := ?v4) ?a4 (by kernel_rfl) (by kernel_rfl) (by kernel_rfl) ?q4 (Or.inl ⟨?g4, ?y4⟩) (by assumption) ?r4; (case' a4 => (simp only [List.getElem?_toArray, List.getElem?_cons_zero, List.getElem?_cons_succ]; rfl)); (case' q4 => (exact fun _ _ _ h => h)); (case' g4 => rfl); (case' y4 => (intro w hSw; (try dsimp only at hSw); go_simp; try with_reducible rfl)); (case' r4 => (try simp only [Act.put, List.setIfInBounds_toArray, List.set_cons_zero, List.set_cons_succ]))
        refine wpAnyH_take (i := 4) (oi := ?o5) (v := ?v5) ?a5 (by kernel_rfl) (by kernel_rfl) (by kernel_rfl) ?q5 (Or.inl ⟨?g5, ?y5⟩) (by assumption) ?r5; (case' a5 => (simp only [List.getElem?_toArray, List.getElem?_cons_zero, List.getElem?_cons_succ]; rfl)); (case' q5 => (exact fun _ _ _ h => h)); (case' g5 => rfl); (case' y5 => (intro w hSw; (try dsimp only at hSw); go_simp; try with_reducible rfl)); (case' r5 => (try simp only [Act.put, List.setIfInBounds_toArray, List.set_cons_zero, List.set_cons_succ]))
        refine wpAnyH_take (i := 5) (oi := ?o6) (v := ?v6) ?a6 (by kernel_rfl) (by kernel_rfl) (by kernel_rfl) ?q6 (Or.inl ⟨?g6, ?y6⟩) (by assumption) ?r6; (case' a6 => (simp only [List.getElem?_toArray, List.getElem?_cons_zero, List.getElem?_cons_succ]; rfl)); (case' q6 => (exact fun _ _ _ h => h)); (case' g6 => rfl); (case' y6 => (intro w hSw; (try dsimp only at hSw); go_simp; try with_reducible rfl)); (case' r6 => (try simp only [Act.put, List.setIfInBounds_toArray, List.set_cons_zero, List.set_cons_succ]))
        refine wpAnyH_take (i := 6) (oi := ?o7) (v := ?v7) ?a7 (by kernel_rfl) (by kernel_rfl) (by kernel_rfl) ?q7 (Or.inl ⟨?g7, ?y7⟩) (by assumption) ?r7; (case' a7 => (simp only [List.getElem?_toArray, List.getElem?_cons_zero, List.getElem?_cons_succ]; rfl)); (case' q7 => (exact fun _ _ _ h => h)); (case' g7 => rfl); (case' y7 => (intro w hSw; (try dsimp only at hSw); go_simp; try with_reducible rfl)); (case' r7 => (try simp only [Act.put, List.setIfInBounds_toArray, List.set_cons_zero, List.set_cons_succ]))
        refine wpAnyH_take (i := 7) (oi := ?o8) (v := ?v8) ?a8 (by kernel_rfl) (by kernel_rfl) (by kernel_rfl) ?q8 (Or.inl ⟨?g8, ?y8⟩) (by assumption) ?r8; (case' a8 => (simp only [List.getElem?_toArray, List.getElem?_cons_zero, List.getElem?_cons_succ]; rfl)); (case' q8 => (exact fun _ _ _ h => h)); (case' g8 => rfl); (case' y8 => (intro w hSw; (try dsimp only at hSw); go_simp; try with_reducible rfl)); (case' r8 => (try simp only [Act.put, List.setIfInBounds_toArray, List.set_cons_zero, List.set_cons_succ]))
        refine wpAnyH_take (i := 8) (oi := ?o9) (v := ?v9) ?a9 (by kernel_rfl) (by kernel_rfl) (by kernel_rfl) ?q9 (Or.inl ⟨?g9, ?y9⟩) (by assumption) ?r9; (case' a9 => (simp only [List.getElem?_toArray, List.getElem?_cons_zero, List.getElem?_cons_succ]; rfl)); (case' q9 => (exact fun _ _ _ h => h)); (case' g9 => rfl); (case' y9 => (intro w hSw; (try dsimp only at hSw); go_simp; try with_reducible rfl)); (case' r9 => (try simp only [Act.put, List.setIfInBounds_toArray, List.set_cons_zero, List.set_cons_succ]))
        refine wpAnyH_take (i := 9) (oi := ?o10) (v := ?v10) ?a10 (by kernel_rfl) (by kernel_rfl) (by kernel_rfl) ?q10 (Or.inl ⟨?g10, ?y10⟩) (by assumption) ?r10; (case' a10 => (simp only [List.getElem?_toArray, List.getElem?_cons_zero, List.getElem?_cons_succ]; rfl)); (case' q10 => (exact fun _ _ _ h => h)); (case' g10 => rfl); (case' y10 => (intro w hSw; (try dsimp only at hSw); go_simp; try with_reducible rfl)); (case' r10 => (try simp only [Act.put, List.setIfInBounds_toArray, List.set_cons_zero, List.set_cons_succ]))
        refine wpAnyH_take (i := 10) (oi := ?o11) (v := ?v11) ?a11 (by kernel_rfl) (by kernel_rfl) (by kernel_rfl) ?q11 (Or.inl ⟨?g11, ?y11⟩) (by assumption) ?r11; (case' a11 => (simp only [List.getElem?_toArray, List.getElem?_cons_zero, List.getElem?_cons_succ]; rfl)); (case' q11 => (exact fun _ _ _ h => h)); (case' g11 => rfl); (case' y11 => (intro w hSw; (try dsimp only at hSw); go_simp; try with_reducible rfl)); (case' r11 => (try simp only [Act.put, List.setIfInBounds_toArray, List.set_cons_zero, List.set_cons_succ]))
        refine wpAnyH_ready (rs := [11]) (by kernel_rfl) (by simp) ?_
        refine AllReadyH.cons (o := ?o12) ?a12 (fun K hK => ?s12) ?m12; (case' a12 => (simp only [List.getElem?_toArray, List.getElem?_cons_zero, List.getElem?_cons_succ]; rfl))
        case s12 =>
          go_simp
          refine hK.out _ _ (HT5.out _ (hHeld.2.alloc (Nat.le_refl _) _)) (fun hHeld => ?_)
          clear hK K
          (try simp only [Act.put, List.setIfInBounds_toArray, List.set_cons_zero, List.set_cons_succ])
          refine wpAnyH_ready (rs := [12]) (by kernel_rfl) (by simp) ?_
          refine AllReadyH.cons (o := ?o13) ?a13 (fun K hK => ?s13) ?m13; (case' a13 => (simp only [List.getElem?_toArray, List.getElem?_cons_zero, List.getElem?_cons_succ]; rfl))
          case s13 =>
            go_simp
            refine hK.out _ _ (HT5.out _ (one_box _).drew) (fun hHeld => ?_)
            clear hK K
            (try simp only [Act.put, List.setIfInBounds_toArray, List.set_cons_zero, List.set_cons_succ])
            refine wpAnyH_done (by kernel_rfl) ?_ _
            obtain ⟨hs5, hb5⟩ := box_filled wo sb sn
            have HS5 := Lib.hid hs5
            have HB5 := Lib.hid hb5
            clear hHeld HT5 d0 d1 hs5 hb5
            generalize (wo.alloc (.cells #[.int .i64 sb, .int .i64 sn, .slice none 0 0] 53)).drew = W5 at HS5 HB5 ⊢
            obtain ⟨gx, hgx⟩ : ∃ gx, wo.heap.size = gx := ⟨_, rfl⟩
            rw [hgx] at HS5 ⊢
            have HGX := Lib.hid hgx
            clear hgx
            go_wp2_with fail
            go_loopw [10] (fun jv wr => ∃ (j : Nat) (A' : Option Addr) (cap' : Nat), j ≤ ls ∧ j ≤ 70 ∧ jv = .int .i64 j ∧ Hid (Seg 53 wr gx A' cap' sb sn ((sL.take j).map cut6F)) ∧ Hid (BoxI wo wr gx A')) (fun jv _ => 70 - (intOf jv).toNat)
            case atStart => exact ⟨0, none, 0, by omega, by omega, rfl, by simpa using HS5, Lib.hid ⟨HB5.out, by rw [HGX.out]; exact Nat.le_refl _, fun z e => (by cases e)⟩⟩
            case round =>
              clear HS5 HB5
              obtain ⟨j, A', cap', hj, hj70, rfl, hseg, HBX⟩ := hrel
              have hbo : Below w.heap.size w wr := acc HLW.out.old HBX.out.below
              have e2 := (hbo.cell (p := ⟨og, oo + i * 3 + 2, none⟩) hog).trans HC2.out
              by_cases hjl : j < ls ∧ j < 70
              · obtain ⟨hj1, hj2⟩ := hjl
                obtain ⟨fg, fo, rfl, hfg, hfc⟩ := HFO.out (by rw [HLS.out]; omega)
                obtain ⟨⟨o, ⟨rk, key, tb, val⟩⟩, hf⟩ : ∃ s, sL[j]? = some s := ⟨_, List.getElem?_eq_getElem (by rw [HLS.out]; exact hj1)⟩
                obtain ⟨f0, f1, f2, f3, f4⟩ := hfc j _ hf
                have g0 := (hbo.cell (p := ⟨fg, fo + j * 5, none⟩) hfg).trans f0
                have g1 := (hbo.cell (p := ⟨fg, fo + j * 5 + 1, none⟩) hfg).trans f1
                have g2 := (hbo.cell (p := ⟨fg, fo + j * 5 + 2, none⟩) hfg).trans f2
                have g3 := (hbo.cell (p := ⟨fg, fo + j * 5 + 3, none⟩) hfg).trans f3
                have g4 := (hbo.cell (p := ⟨fg, fo + j * 5 + 4, none⟩) hfg).trans f4
                obtain ⟨sz1, sz2⟩ := (HFS.out _ (List.mem_of_getElem? hf)).1
                dsimp only at g0 g1 g2 g3 g4 sz1 sz2
                obtain ⟨⟨rk2, key2, tb2, val2⟩, hcut⟩ : ∃ q, R.cut ⟨rk, key, tb, val⟩ = q := ⟨_, rfl⟩
                have HNX : Hid ((sL.take (j + 1)).map cut6F = (sL.take j).map cut6F ++ [⟨o, ⟨rk2, key2, tb2, val2⟩⟩]) := Lib.hid (by rw [cut_next hf]; unfold cut6F; rw [hcut])
                have HRC : Hid (recsL [⟨rk, key, tb, val⟩] = [⟨rk2, key2, tb2, val2⟩]) := Lib.hid (by show [R.cut ⟨rk, key, tb, val⟩] = _; rw [hcut])
                have SZ : Hid (∀ r ∈ [(⟨rk, key, tb, val⟩ : R)], r.key.size ≤ maxLen ∧ r.val.size ≤ maxLen) := Lib.hid (fun r hr => by rw [List.mem_singleton.1 hr]; exact ⟨sz1, sz2⟩)
                have hwz := hbo.size
                have j0 : (0 : Int) ≤ (j : Int) := by omega
                have j1 : (j : Int) < (ls : Int) := by omega
                clear f0 f1 f2 f3 f4 hfc hf hcut sz1 sz2
                go_upto_region 12 with (go_at_call 7; refine (records_any (some ⟨wr.heap.size, 0, none⟩) [⟨rk, key, tb, val⟩] 1 1 (wr.heap.size + 1) _ (Lib.hid (reads_o (reads_rows (heap_alloc_new wr _) rfl))) (by simp) rfl (by decide) (Nat.le_refl _) SZ).mono ?_; rw [HRC.out]; rintro e w7 ⟨RA, rc, rfl, ho7, hb7⟩; have HO7 := Lib.hid ho7; have HB7 : Hid (Below wr.heap.size wr w7) := Lib.hid ((one_box _).trans (hb7.mono (by simp))); clear ho7 hb7)
                have HS7 := Lib.hid (hseg.out.below HB7.out)
                have HN7 : Hid (((sL.take j).map cut6F).length = j) := Lib.hid (by rw [cut_len, HLS.out]; omega)
                obtain ⟨rb, rc', hrv, hrb, _⟩ := HO7.out.form (by simp)
                injection hrv with r1 r2 r3
                subst r1 r3
                obtain ⟨p0, p1, p2, p3⟩ := own_recs (r := 0) HO7.out rfl
                simp only [Nat.zero_mul, Nat.zero_add] at p0 p1 p2 p3
                have hrc1 := own_cap HO7.out
                have k2 := (HB7.out.cell (p := ⟨og, oo + i * 3 + 2, none⟩) (Nat.lt_of_lt_of_le hog hwz)).trans e2
                have k0 := (HB7.out.cell (p := ⟨fg, fo + j * 5, none⟩) (Nat.lt_of_lt_of_le hfg hwz)).trans g0
                have HR2 := Lib.hid HS7.out.row
                have HO := Lib.hid HS7.out.own
                have HNE := Lib.hid HS7.out.ne
                have hgw := HS7.out.lt
                rw [HN7.out] at HR2 HO
                have hgxr : gx < wr.heap.size := hseg.out.lt
                have hA' := hseg.out.blkLt
                have c7 := HS7.out.c2
                rw [HN7.out] at c7
                have hT : ∀ w', But gx (blk A') w7 w' → (w'.cell? ⟨og, oo + i * 3 + 2, none⟩ = some (.slice (some ⟨fg, fo, none⟩) ls sc) ∧ w'.cell? ⟨fg, fo + j * 5, none⟩ = some (.int .i64 o) ∧ w'.cell? ⟨rb, 0, none⟩ = some (.bool rk2) ∧ w'.cell? ⟨rb, 1, none⟩ = some (.string key2) ∧ w'.cell? ⟨rb, 2, none⟩ = some (.bool tb2) ∧ w'.cell? ⟨rb, 3, none⟩ = some (.string val2)) ∧ But gx (blk A') w7 w' := fun w' q => by
                  have hw2 := HLW.out.old.size
                  have hgx0 : wo.heap.size ≤ gx := HBX.out.g0
                  have hold : ∀ z, z < w.heap.size → z ≠ gx ∧ some z ≠ blk A' := fun z hz => ⟨by omega, fun e => by have := HBX.out.a0 z e.symm; omega⟩
                  have hnew : rb ≠ gx ∧ some rb ≠ blk A' := by
                    have hrb' : wr.heap.size ≤ rb := by simp at hrb; omega
                    exact ⟨by omega, fun e => by have := hA' rb e.symm; omega⟩
                  exact ⟨⟨q.cell k2 (hold og hog).1 (hold og hog).2, q.cell k0 (hold fg hfg).1 (hold fg hfg).2, q.cell p0 hnew.1 hnew.2, q.cell p1 hnew.1 hnew.2, q.cell p2 hnew.1 hnew.2, q.cell p3 hnew.1 hnew.2⟩, q⟩
                have HT12 := Lib.hid hT
                clear hT hA' hrb
                refine wp_region_held_drew (S := fun w' => (w'.cell? ⟨og, oo + i * 3 + 2, none⟩ = some (.slice (some ⟨fg, fo, none⟩) ls sc) ∧ w'.cell? ⟨fg, fo + j * 5, none⟩ = some (.int .i64 o) ∧ w'.cell? ⟨rb, 0, none⟩ = some (.bool rk2) ∧ w'.cell? ⟨rb, 1, none⟩ = some (.string key2) ∧ w'.cell? ⟨rb, 2, none⟩ = some (.bool tb2) ∧ w'.cell? ⟨rb, 3, none⟩ = some (.string val2)) ∧ But gx (blk A') w7 w') (by kernel_rfl) (HT12.out _ (But.ofBelow (Below.refl _ _).drew)) (fun hHeld => ?_)
                refine wpAnyH_take (i := 0) (oi := ?o14) (v := ?v14) ?a14 (by kernel_rfl) (by kernel_rfl) (by kernel_rfl) ?q14 (Or.inl ⟨?g14, ?y14⟩) (by assumption) ?r14; (case' a14 => (simp only [List.getElem?_toArray, List.getElem?_cons_zero]; rfl)); (case' q14 => (exact fun _ _ _ h => h)); (case' g14 => rfl); (case' y14 => (intro w hSw; (try dsimp only at hSw); go_simp; try with_reducible rfl)); (case' r14 => (try simp only [Act.put, List.setIfInBounds_toArray, List.set_cons_zero, List.set_cons_succ]))
                refine wpAnyH_take (i := 2) (oi := ?o15) (v := ?v15) ?a15 (by kernel_rfl) (by kernel_rfl) (by kernel_rfl) ?q15 (Or.inl ⟨?g15, ?y15⟩) (by assumption) ?r15; (case' a15 => (simp only [List.getElem?_toArray, List.getElem?_cons_zero, List.getElem?_cons_succ]; rfl)); (case' q15 => (exact fun _ _ _ h => h)); (case' g15 => rfl); (case' y15 => (intro w hSw; (try dsimp only at hSw); go_simp; try with_reducible rfl)); (case' r15 => (try simp only [Act.put, List.setIfInBounds_toArray, List.set_cons_zero, List.set_cons_succ]))
                refine wpAnyH_take (i := 3) (oi := ?o16) (v := ?v16) ?a16 (by kernel_rfl) (by kernel_rfl) (by kernel_rfl) ?q16 (Or.inl ⟨?g16, ?y16⟩) (by assumption) ?r16; (case' a16 => (simp only [List.getElem?_toArray, List.getElem?_cons_zero, List.getElem?_cons_succ]; rfl)); (case' q16 => (exact fun _ _ _ h => h)); (case' g16 => rfl); (case' y16 => (intro w hSw; (try dsimp only at hSw); go_simp; try with_reducible rfl)); (case' r16 => (try simp only [Act.put, List.setIfInBounds_toArray, List.set_cons_zero, List.set_cons_succ]))
                refine wpAnyH_take (i := 4) (oi := ?o17) (v := ?v17) ?a17 (by kernel_rfl) (by kernel_rfl) (by kernel_rfl) ?q17 (Or.inl ⟨?g17, ?y17⟩) (by assumption) ?r17; (case' a17 => (simp only [List.getElem?_toArray, List.getElem?_cons_zero, List.getElem?_cons_succ]; rfl)); (case' q17 => (exact fun _ _ _ h => h)); (case' g17 => rfl); (case' y17 => (intro w hSw; (try dsimp only at hSw); go_simp; try with_reducible rfl)); (case' r17 => (try simp only [Act.put, List.setIfInBounds_toArray, List.set_cons_zero, List.set_cons_succ]))
                refine wpAnyH_take (i := 5) (oi := ?o18) (v := ?v18) ?a18 (by kernel_rfl) (by kernel_rfl) (by kernel_rfl) ?q18 (Or.inl ⟨?g18, ?y18⟩) (by assumption) ?r18; (case' a18 => (simp only [List.getElem?_toArray, List.getElem?_cons_zero, List.getElem?_cons_succ]; rfl)); (case' q18 => (exact fun _ _ _ h => h)); (case' g18 => rfl); (case' y18 => (intro w hSw; (try dsimp only at hSw); go_simp; try with_reducible rfl)); (case' r18 => (try simp only [Act.put, List.setIfInBounds_toArray, List.set_cons_zero, List.set_cons_succ]))
                refine wpAnyH_take (i := 6) (oi := ?o19) (v := ?v19) ?a19 (by kernel_rfl) (by kernel_rfl) (by kernel_rfl) ?q19 (Or.inl ⟨?g19, ?y19⟩) (by assumption) ?r19; (case' a19 => (simp only [List.getElem?_toArray, List.getElem?_cons_zero, List.getElem?_cons_succ]; rfl)); (case' q19 => (exact fun _ _ _ h => h)); (case' g19 => rfl); (case' y19 => (intro w hSw; (try dsimp only at hSw); go_simp; try with_reducible rfl)); (case' r19 => (try simp only [Act.put, List.setIfInBounds_toArray, List.set_cons_zero, List.set_cons_succ]))
                refine wpAnyH_take (i := 7) (oi := ?o20) (v := ?v20) ?a20 (by kernel_rfl) (by kernel_rfl) (by kernel_rfl) ?q20 (Or.inl ⟨?g20, ?y20⟩) (by assumption) ?r20; (case' a20 => (simp only [List.getElem?_toArray, List.getElem?_cons_zero, List.getElem?_cons_succ]; rfl)); (case' q20 => (exact fun _ _ _ h => h)); (case' g20 => rfl); (case' y20 => (intro w hSw; (try dsimp only at hSw); go_simp; try with_reducible rfl)); (case' r20 => (try simp only [Act.put, List.setIfInBounds_toArray, List.set_cons_zero, List.set_cons_succ]))
                refine wpAnyH_take (i := 8) (oi := ?o21) (v := ?v21) ?a21 (by kernel_rfl) (by kernel_rfl) (by kernel_rfl) ?q21 (Or.inl ⟨?g21, ?y21⟩) (by assumption) ?r21; (case' a21 => (simp only [List.getElem?_toArray, List.getElem?_cons_zero, List.getElem?_cons_succ]; rfl)); (case' q21 => (exact fun _ _ _ h => h)); (case' g21 => rfl); (case' y21 => (intro w hSw; (try dsimp only at hSw); go_simp; try with_reducible rfl)); (case' r21 => (try simp only [Act.put, List.setIfInBounds_toArray, List.set_cons_zero, List.set_cons_succ]))
                refine wpAnyH_take (i := 9) (oi := ?o22) (v := ?v22) ?a22 (by kernel_rfl) (by kernel_rfl) (by kernel_rfl) ?q22 (Or.inl ⟨?g22, ?y22⟩) (by assumption) ?r22; (case' a22 => (simp only [List.getElem?_toArray, List.getElem?_cons_zero, List.getElem?_cons_succ]; rfl)); (case' q22 => (exact fun _ _ _ h => h)); (case' g22 => rfl); (case' y22 => (intro w hSw; (try dsimp only at hSw); go_simp; try with_reducible rfl)); (case' r22 => (try simp only [Act.put, List.setIfInBounds_toArray, List.set_cons_zero, List.set_cons_succ]))
                refine wpAnyH_take (i := 10) (oi := ?o23) (v := ?v23) ?a23 (by kernel_rfl) (by kernel_rfl) (by kernel_rfl) ?q23 (Or.inl ⟨?g23, ?y23⟩) (by assumption) ?r23; (case' a23 => (simp only [List.getElem?_toArray, List.getElem?_cons_zero, List.getElem?_cons_succ]; rfl)); (case' q23 => (exact fun _ _ _ h => h)); (case' g23 => rfl); (case' y23 => (intro w hSw; (try dsimp only at hSw); go_simp; try with_reducible rfl)); (case' r23 => (try simp only [Act.put, List.setIfInBounds_toArray, List.set_cons_zero, List.set_cons_succ]))
                refine wpAnyH_take (i := 11) (oi := ?o24) (v := ?v24) ?a24 (by kernel_rfl) (by kernel_rfl) (by kernel_rfl) ?q24 (Or.inl ⟨?g24, ?y24⟩) (by assumption) ?r24; (case' a24 => (simp only [List.getElem?_toArray, List.getElem?_cons_zero, List.getElem?_cons_succ]; rfl)); (case' q24 => (exact fun _ _ _ h => h)); (case' g24 => rfl); (case' y24 => (intro w hSw; (try dsimp only at hSw); go_simp; try with_reducible rfl)); (case' r24 => (try simp only [Act.put, List.setIfInBounds_toArray, List.set_cons_zero, List.set_cons_succ]))
                refine wpAnyH_take (i := 12) (oi := ?o25) (v := ?v25) ?a25 (by kernel_rfl) (by kernel_rfl) (by kernel_rfl) ?q25 (Or.inl ⟨?g25, ?y25⟩) (by assumption) ?r25; (case' a25 => (simp only [List.getElem?_toArray, List.getElem?_cons_zero, List.getElem?_cons_succ]; rfl)); (case' q25 => (exact fun _ _ _ h => h)); (case' g25 => rfl); (case' y25 => (intro w hSw; (try dsimp only at hSw); go_simp; try with_reducible rfl)); (case' r25 => (try simp only [Act.put, List.setIfInBounds_toArray, List.set_cons_zero, List.set_cons_succ]))
                refine wpAnyH_take (i := 13) (oi := ?o26) (v := ?v26) ?a26 (by kernel_rfl) (by kernel_rfl) (by kernel_rfl) ?q26 (Or.inl ⟨?g26, ?y26⟩) (by assumption) ?r26; (case' a26 => (simp only [List.getElem?_toArray, List.getElem?_cons_zero, List.getElem?_cons_succ]; rfl)); (case' q26 => (exact fun _ _ _ h => h)); (case' g26 => rfl); (case' y26 => (intro w hSw; (try dsimp only at hSw); go_simp; try with_reducible rfl)); (case' r26 => (try simp only [Act.put, List.setIfInBounds_toArray, List.set_cons_zero, List.set_cons_succ]))
                refine wpAnyH_take (i := 14) (oi := ?o27) (v := ?v27) ?a27 (by kernel_rfl) (by kernel_rfl) (by kernel_rfl) ?q27 (Or.inl ⟨?g27, ?y27⟩) (by assumption) ?r27; (case' a27 => (simp only [List.getElem?_toArray, List.getElem?_cons_zero, List.getElem?_cons_succ]; rfl)); (case' q27 => (exact fun _ _ _ h => h)); (case' g27 => rfl); (case' y27 => (intro w hSw; (try dsimp only at hSw); go_simp; try with_reducible rfl)); (case' r27 => (try simp only [Act.put, List.setIfInBounds_toArray, List.set_cons_zero, List.set_cons_succ]))
                refine wpAnyH_ready (rs := [1, 15]) (by kernel_rfl) (by simp) ?_
                refine AllReadyH.cons (o := ?o28) ?a28 (fun K hK => ?s28) ?m28; (case' a28 => (simp only [List.getElem?_toArray, List.getElem?_cons_zero, List.getElem?_cons_succ]; rfl))
                case s28 =>
                  go_simp
                  refine hK.out _ _ (hHeld) (fun hHeld => ?_)
                  clear hK K
                  (try simp only [Act.put, List.setIfInBounds_toArray, List.set_cons_zero, List.set_cons_succ])
                  refine wpAnyH_ready (rs := [15]) (by kernel_rfl) (by simp) ?_
                  refine AllReadyH.cons (o := ?o29) ?a29 (fun K hK => ?s29) ?m29; (case' a29 => (simp only [List.getElem?_toArray, List.getElem?_cons_zero, List.getElem?_cons_succ]; rfl))
                  case s29 =>
                    go_simp
                    refine hK.out _ _ (HT12.out _ (hHeld.2.alloc _)) (fun hHeld => ?_)
                    clear hK K
                    (try simp only [Act.put, List.setIfInBounds_toArray, List.set_cons_zero, List.set_cons_succ])
                    refine wpAnyH_ready (rs := [16]) (by kernel_rfl) (by simp) ?_
                    refine AllReadyH.cons (o := ?o30) ?a30 (fun K hK => ?s30) ?m30; (case' a30 => (simp only [List.getElem?_toArray, List.getElem?_cons_zero, List.getElem?_cons_succ]; rfl))
                    case s30 =>
                      refine step_append_lies _ (by rfl) _ _ _ (by rfl) 0 43 i0 _ 5 56 Try.underlying36 hi0 hz0 hz1 hz2 rfl (by omega) (.slice A' j cap') j (rowF ((sL.take j).map cut6F)) (by rfl) ((own_below HO.out (Below.refl _ _).drew).alloc _) ⟨w7.heap.size, 0, none⟩ 1 1 [.int .i64 o, .bool rk2, .string key2, .bool tb2, .string val2] (by rfl) (by rfl) (World.news_of_block (cs := #[.int .i64 o, .bool rk2, .string key2, .bool tb2, .string val2]) (t := 43) (fr := (0, 0)) (heap_alloc_new w7.drew _)) (by simp [Value.oneCell']) (by omega) (by unfold maxLen; omega) (by omega) (Nat.zero_le _) (w7.heap.size + 1) (by simp) ?_
                      intro gg cc w8 hown2 hgrow hat hltg
                      have hrow := grown_row HR2.out hgrow HNE.out
                      have x2 := (cell_of_row _ _ 2 _ _ _ hrow).trans rfl
                      have y2 := frozen_of_row _ _ 2 _ _ hrow
                      have HROW := Lib.hid hrow
                      clear hrow
                      refine hK.out _ _ (HT12.out _ (but_grown hgrow)) (fun hHeld => ?_)
                      clear hK K
                      (try simp only [Act.put, List.setIfInBounds_toArray, List.set_cons_zero, List.set_cons_succ])
                      refine wpAnyH_take (i := 17) (oi := ?o31) (v := ?v31) ?a31 (by kernel_rfl) (by kernel_rfl) (by kernel_rfl) ?q31 (Or.inl ⟨?g31, ?y31⟩) (by assumption) ?r31; (case' a31 => (simp only [List.getElem?_toArray, List.getElem?_cons_zero, List.getElem?_cons_succ]; rfl)); (case' q31 => (exact fun _ _ _ h => h)); (case' g31 => rfl); (case' y31 => (intro w hSw; (try dsimp only at hSw); go_simp; try with_reducible rfl)); (case' r31 => (try simp only [Act.put, List.setIfInBounds_toArray, List.set_cons_zero, List.set_cons_succ]))
                      refine wpAnyH_ready (rs := [18]) (by kernel_rfl) (by simp) ?_
                      refine AllReadyH.cons (o := ?o32) ?a32 (fun K hK => ?s32) ?m32; (case' a32 => (simp only [List.getElem?_toArray, List.getElem?_cons_zero, List.getElem?_cons_succ]; rfl))
                      case s32 =>
                        go_simp
                        refine hK.out _ _ (HT12.out _ (hHeld.2.setCell (.inl rfl) _)) (fun hHeld => ?_)
                        clear hK K
                        (try simp only [Act.put, List.setIfInBounds_toArray, List.set_cons_zero, List.set_cons_succ])
                        refine wpAnyH_done (by kernel_rfl) ?_ _
                        have hst := put_step (x := ⟨o, ⟨rk2, key2, tb2, val2⟩⟩) HS7.out HN7.out (Below.refl _ _) hHeld.2 HROW.out hown2 hat
                        have HST := Lib.hid hst
                        clear hst hHeld
                        go_wp2_with fail
                        go_roundw
                        case rel =>
                          obtain ⟨A2, c2, s1, s2, s3⟩ := HST.out
                          exact ⟨j + 1, A2, c2, by omega, by omega, by go_num, Lib.hid (by rw [HNX.out]; exact s1), Lib.hid (box_step ⟨HBX.out.below.trans (HB7.out.mono HBX.out.below.size), HBX.out.g0, HBX.out.a0⟩ s2 s3)⟩
                        case measure => simp [intOf]; omega
                      exact AllReadyH.nil
                    exact AllReadyH.nil
                  exact AllReadyH.nil
                refine AllReadyH.cons (o := ?o33) ?a33 (fun K hK => ?s33) ?m33; (case' a33 => (simp only [List.getElem?_toArray, List.getElem?_cons_zero, List.getElem?_cons_succ]; rfl))
                case s33 =>
                  go_simp
                  refine hK.out _ _ (HT12.out _ (hHeld.2.alloc _)) (fun hHeld => ?_)
                  clear hK K
                  (try simp only [Act.put, List.setIfInBounds_toArray, List.set_cons_zero, List.set_cons_succ])
                  refine wpAnyH_ready (rs := [1]) (by kernel_rfl) (by simp) ?_
                  refine AllReadyH.cons (o := ?o34) ?a34 (fun K hK => ?s34) ?m34; (case' a34 => (simp only [List.getElem?_toArray, List.getElem?_cons_zero, List.getElem?_cons_succ]; rfl))
                  case s34 =>
                    go_simp
                    refine hK.out _ _ (hHeld) (fun hHeld => ?_)
                    clear hK K
                    (try simp only [Act.put, List.setIfInBounds_toArray, List.set_cons_zero, List.set_cons_succ])
                    refine wpAnyH_ready (rs := [16]) (by kernel_rfl) (by simp) ?_
                    refine AllReadyH.cons (o := ?o35) ?a35 (fun K hK => ?s35) ?m35; (case' a35 => (simp only [List.getElem?_toArray, List.getElem?_cons_zero, List.getElem?_cons_succ]; rfl))
                    case s35 =>
                      refine step_append_lies _ (by rfl) _ _ _ (by rfl) 0 43 i0 _ 5 56 Try.underlying36 hi0 hz0 hz1 hz2 rfl (by omega) (.slice A' j cap') j (rowF ((sL.take j).map cut6F)) (by rfl) ((own_below HO.out (Below.refl _ _).drew).alloc _) ⟨w7.heap.size, 0, none⟩ 1 1 [.int .i64 o, .bool rk2, .string key2, .bool tb2, .string val2] (by rfl) (by rfl) (World.news_of_block (cs := #[.int .i64 o, .bool rk2, .string key2, .bool tb2, .string val2]) (t := 43) (fr := (0, 0)) (heap_alloc_new w7.drew _)) (by simp [Value.oneCell']) (by omega) (by unfold maxLen; omega) (by omega) (Nat.zero_le _) (w7.heap.size + 1) (by simp) ?_
                      intro gg cc w8 hown2 hgrow hat hltg
                      have hrow := grown_row HR2.out hgrow HNE.out
                      have x2 := (cell_of_row _ _ 2 _ _ _ hrow).trans rfl
                      have y2 := frozen_of_row _ _ 2 _ _ hrow
                      have HROW := Lib.hid hrow
                      clear hrow
                      refine hK.out _ _ (HT12.out _ (but_grown hgrow)) (fun hHeld => ?_)
                      clear hK K
                      (try simp only [Act.put, List.setIfInBounds_toArray, List.set_cons_zero, List.set_cons_succ])
                      refine wpAnyH_take (i := 17) (oi := ?o36) (v := ?v36) ?a36 (by kernel_rfl) (by kernel_rfl) (by kernel_rfl) ?q36 (Or.inl ⟨?g36, ?y36⟩) (by assumption) ?r36; (case' a36 => (simp only [List.getElem?_toArray, List.getElem?_cons_zero, List.getElem?_cons_succ]; rfl)); (case' q36 => (exact fun _ _ _ h => h)); (case' g36 => rfl); (case' y36 => (intro w hSw; (try dsimp only at hSw); go_simp; try with_reducible rfl)); (case' r36 => (try simp only [Act.put, List.setIfInBounds_toArray, List.set_cons_zero, List.set_cons_succ]))
                      refine wpAnyH_ready (rs := [18]) (by kernel_rfl) (by simp) ?_
                      refine AllReadyH.cons (o := ?o37) ?a37 (fun K hK => ?s37) ?m37; (case' a37 => (simp only [List.getElem?_toArray, List.getElem?_cons_zero, List.getElem?_cons_succ]; rfl))
                      case s37 =>
                        go_simp
                        refine hK.out _ _ (HT12.out _ (hHeld.2.setCell (.inl rfl) _)) (fun hHeld => ?_)
                        clear hK K
                        (try simp only [Act.put, List.setIfInBounds_toArray, List.set_cons_zero, List.set_cons_succ])
                        refine wpAnyH_done (by kernel_rfl) ?_ _
                        have hst := put_step (x := ⟨o, ⟨rk2, key2, tb2, val2⟩⟩) HS7.out HN7.out (Below.refl _ _) hHeld.2 HROW.out hown2 hat
                        have HST := Lib.hid hst
                        clear hst hHeld
                        go_wp2_with fail
                        go_roundw
                        case rel =>
                          obtain ⟨A2, c2, s1, s2, s3⟩ := HST.out
                          exact ⟨j + 1, A2, c2, by omega, by omega, by go_num, Lib.hid (by rw [HNX.out]; exact s1), Lib.hid (box_step ⟨HBX.out.below.trans (HB7.out.mono HBX.out.below.size), HBX.out.g0, HBX.out.a0⟩ s2 s3)⟩
                        case measure => simp [intOf]; omega
                      exact AllReadyH.nil
                    exact AllReadyH.nil
                  exact AllReadyH.nil
                exact AllReadyH.nil
              · have hjm : j = min ls 70 := by omega
                have c2' := hseg.out.c2
                have c0' := hseg.out.c0
                have c1'' := hseg.out.c1
                obtain ⟨mm, hmm⟩ : ∃ mm, ((sL.take j).map cut6F).length = mm := ⟨_, rfl⟩
                rw [hmm] at c2'
                have hmm70 : mm ≤ 70 := by rw [← hmm, cut_len, HLS.out]; omega
                have HMM := Lib.hid hmm
                have HOW := Lib.hid (own_below HLW.out.own HBX.out.below)
                have hwz := hbo.size
                clear hmm
                have hjd : ls ≤ j ∨ (j < ls ∧ 70 ≤ j) := by omega
                rcases hjd with hjd | ⟨hjd1, hjd2⟩
                · go_wp2_with (at_builtin; refine wpList_append_lies _ rfl _ _ 51 (by rfl) w.heap.size 53 i1 _ 3 40 Try.underlying51 hi1 hy0 hy1 hy2 rfl (by omega) _ i (rowS ll) (by rfl) (HOW.out.alloc _) ⟨wr.heap.size, 0, none⟩ 1 1 [.int .i64 sb, .int .i64 sn, .slice A' mm cap'] (by rfl) (by rfl) (World.news_of_block (cs := #[.int .i64 sb, .int .i64 sn, .slice A' mm cap']) (t := 53) (fr := (0, 0)) (heap_alloc_new wr _)) (by simp [Value.oneCell']) (by omega) (by unfold maxLen; omega) (by omega) (by simp; omega) _ rfl ?_; intro g2 c4 w8 hown8 hgrow8 hat8 hlt8; have HLW2 := Lib.hid ((HLW.out.below HBX.out.below).more hseg.out (fun z e => Nat.le_trans HLW.out.old.size (HBX.out.a0 z e)) HMM.out hmm70 cut_small hown8 hgrow8); clear hown8 hgrow8 hat8 hlt8)
                  go_roundw
                  case rel => exact ⟨i + 1, some ⟨g2, 0, none⟩, c4, _, by omega, by omega, by go_num, rfl, HLW2⟩
                  case measure => simp [intOf]; omega
                · go_wp2_with (at_builtin; refine wpList_append_lies _ rfl _ _ 51 (by rfl) w.heap.size 53 i1 _ 3 40 Try.underlying51 hi1 hy0 hy1 hy2 rfl (by omega) _ i (rowS ll) (by rfl) (HOW.out.alloc _) ⟨wr.heap.size, 0, none⟩ 1 1 [.int .i64 sb, .int .i64 sn, .slice A' mm cap'] (by rfl) (by rfl) (World.news_of_block (cs := #[.int .i64 sb, .int .i64 sn, .slice A' mm cap']) (t := 53) (fr := (0, 0)) (heap_alloc_new wr _)) (by simp [Value.oneCell']) (by omega) (by unfold maxLen; omega) (by omega) (by simp; omega) _ rfl ?_; intro g2 c4 w8 hown8 hgrow8 hat8 hlt8; have HLW2 := Lib.hid ((HLW.out.below HBX.out.below).more hseg.out (fun z e => Nat.le_trans HLW.out.old.size (HBX.out.a0 z e)) HMM.out hmm70 cut_small hown8 hgrow8); clear hown8 hgrow8 hat8 hlt8)
                  go_roundw
                  case rel => exact ⟨i + 1, some ⟨g2, 0, none⟩, c4, _, by omega, by omega, by go_num, rfl, HLW2⟩
                  case measure => simp [intOf]; omega
          exact AllReadyH.nil
        exact AllReadyH.nil
      · have hd : n1 ≤ i ∨ (i < n1 ∧ 6 ≤ i) := by omega
        rcases hd with hd | ⟨hd1, hd2⟩
        · go_wp2_with fail
          go_meet
          exact ⟨i, A3, c3, ll, hi6, rfl, rfl, HLW⟩
        · go_wp2_with fail
          go_meet
          exact ⟨i, A3, c3, ll, hi6, rfl, rfl, HLW⟩
  case' rest =>
    obtain ⟨i, A3, c3, ll, hi6, rfl, rfl, HLW⟩ := hcut
    have HRS := Lib.hid HLW.out.readsS
    have HLL := Lib.hid HLW.out.len
    have HSZ : Hid (∀ s ∈ ll, s.L.length ≤ maxLen ∧ ∀ f ∈ s.L, f.r.key.size ≤ maxLen ∧ f.r.val.size ≤ maxLen) := Lib.hid (fun s hs => ⟨by have := (HLW.out.small s hs).1; unfold maxLen; omega, fun f hf => by have := (HLW.out.small s hs).2 f hf; unfold maxLen; omega⟩)
    have HSZ2 : Hid (∀ s ∈ ll.map Sa.s, s.L.length ≤ maxLen ∧ ∀ f ∈ s.L, f.r.key.size ≤ maxLen ∧ f.r.val.size ≤ maxLen) := Lib.hid (fun s hs => by obtain ⟨q, hq, rfl⟩ := List.mem_map.1 hs; exact HSZ.out q hq)
    obtain ⟨x, hx⟩ : ∃ x, loadE6 a0 (ll.map Sa.s) = x := ⟨_, rfl⟩
    have HX := Lib.hid hx
    clear hx
    by_cases hx0 : x = 0
    · subst hx0
      have hrecs : (recsL l2).length ≤ 70 := by rw [recs_len]; omega
      obtain ⟨m, hm⟩ : ∃ m, (recsL l2).length = m := ⟨_, rfl⟩
      have hm70 : m ≤ 70 := by rw [← hm]; exact hrecs
      have HM := Lib.hid hm
      have HSM : Hid (∀ r ∈ recsL l2, r.key.size ≤ maxLen ∧ r.val.size ≤ maxLen) := Lib.hid (fun r hr => by have := recs_small r hr; unfold maxLen; omega)
      obtain ⟨l, hl⟩ : ∃ l, ll.map Sa.s = l := ⟨_, rfl⟩
      have hln : l.length ≤ 6 := by rw [← hl, List.length_map, HLL.out]; exact hi6
      obtain ⟨y, hy⟩ : ∃ y, L6.appE a0.toNat l (recsL l2) = y := ⟨_, rfl⟩
      obtain ⟨en, hen⟩ : ∃ en, endL l = en := ⟨_, rfl⟩
      rw [hl] at HX
      have HLL2 := Lib.hid hl
      have HEN := Lib.hid hen
      have HYY := Lib.hid hy
      have hlen' : l.length + 1 ≤ 1000 := by omega
      have hlen6 : l.length = i := by rw [← hl, List.length_map, HLL.out]
      have HL6 := Lib.hid hlen6
      clear hm hl hen hy hrecs hlen6
      by_cases hy0 : y = 0
      · subst hy0
        obtain ⟨l', hl'⟩ : ∃ l', appL a0.toNat (recsL l2) l = l' := ⟨_, rfl⟩
        have hln2 := app_len a0.toNat (recsL l2) l
        rw [hl'] at hln2
        have HL' := Lib.hid hl'
        have hlen2 : l'.length ≤ 1000 := by omega
        clear hl' hln2
        go_wp2_with (first
          | (go_at_call 20; refine (fixed6_any _).mono ?_; rintro e wz ⟨rfl, hbz⟩)
          | (go_at_call 19; have _q := P5; refine (duo_same P5 hlen2).mono ?_; rintro e w6 ⟨rfl, hb6⟩; have P6 := Lib.hid (P5.out.below hb6))
          | (go_at_call 9; have _q := P4; refine (duo_rappend P4 HG (by omega) RA2 (recsL l2) m rc2 _ R4 (Lib.hid (fun z e => (AP.out z e).2)) hB4 HM.out (by omega) HSM HYY en HEN).mono ?_; rw [HL'.out]; rintro e w5 ⟨rfl, D', hp5⟩; have P5 := Lib.hid hp5; clear hp5)
          | (go_at_call 8; have _q := P3; refine (duo_append P3 hlen' RA2 (recsL l2) m rc2 w3.heap.size R3 AP (Nat.le_refl _) HM.out (by unfold maxLen; omega) HSM HYY en HEN).mono ?_; rw [HL'.out]; rintro e w4 ⟨rfl, hr4, hB4, S', hp4⟩; have P4 := Lib.hid hp4; have R4 := Lib.hid hr4; clear hp4 hr4)
          | (go_at_call 7; have _q := P2; refine (records_any A2 l2 n2 c2 w.heap.size _ (Lib.hid (HRR.out.below (acc HLW.out.old P2.out.log.old))) (acc HLW.out.old P2.out.log.old).size HN2.out hrm hrc HRS2).mono ?_; rintro e w3 ⟨RA2, rc2, rfl, ho3, hb3⟩; rw [HM.out] at ho3 ⊢; have P3 := Lib.hid (P2.out.below hb3); have R3 := Lib.hid (recs_own HM.out ho3); have AP : Hid (∀ z, blk RA2 = some z → z ∉ S ∧ z ∉ D) := Lib.hid (fun z e => ⟨fun hm => (by have h1 := (own_blk ho3 z e).1; have h2 := P2.out.log.lt z hm; omega), fun hm => (by have h1 := (own_blk ho3 z e).1; have h2 := P2.out.doc.lt z hm; omega)⟩); clear ho3)
          | (go_at_call 22; have _q := P1; refine (rload6_duo a0 A3 ll i c3 wc.heap.size P1 (Lib.hid (HRS.out.below P1.out.old)) (Lib.hid (fun s hs => own_low (own_below (HLW.out.recs s hs) P1.out.old) (Nat.zero_le _))) P1.out.old.size HLL.out (by omega) HSZ HLL2 HX).mono ?_; rintro e w2 ⟨k, D, rfl, hp2⟩; have P2 := Lib.hid hp2; have HG := Lib.hid hp2.log.good; clear hp2)
          | (go_at_call 21; refine (m6_load a0 i c3 wc.heap.size l HRS (Nat.le_refl _) HLL2 HL6.out (by omega) (Lib.hid (by rw [← HLL2.out]; exact HSZ2.out)) HX).mono ?_; rintro e w1 ⟨g, S, rfl, hl1⟩; have P1 := Lib.hid hl1; clear hl1))
        go_ret
        exact ⟨rfl, acc (acc HLW.out.old P6.out.log.old) hbz⟩
      · have hyn : (y != 0) = true := by simpa using hy0
        have HYN := Lib.hid hy0
        have hlen2 : l.length ≤ 1000 := by omega
        clear hy0
        go_wp2_with (first
          | (go_at_call 20; refine (fixed6_any _).mono ?_; rintro e wz ⟨rfl, hbz⟩)
          | (go_at_call 19; have _q := P5; refine (duo_same P5 hlen2).mono ?_; rintro e w6 ⟨rfl, hb6⟩; have P6 := Lib.hid (P5.out.below hb6))
          | (go_at_call 9; have _q := P4; refine (duo_rappend_no P4 HG (by omega) RA2 (recsL l2) m rc2 _ y R4 (Lib.hid (fun z e => (AP.out z e).2)) hB4 HM.out (by omega) HSM HYY HYN.out).mono ?_; rintro e w5 ⟨rfl, hp5⟩; have P5 := Lib.hid hp5; clear hp5)
          | (go_at_call 8; have _q := P3; refine (duo_append_no P3 hlen' RA2 (recsL l2) m rc2 w3.heap.size y R3 AP (Nat.le_refl _) HM.out (by unfold maxLen; omega) HSM HYY HYN.out).mono ?_; rintro e w4 ⟨rfl, hr4, hB4, hp4⟩; have P4 := Lib.hid hp4; have R4 := Lib.hid hr4; clear hp4 hr4)
          | (go_at_call 7; have _q := P2; refine (records_any A2 l2 n2 c2 w.heap.size _ (Lib.hid (HRR.out.below (acc HLW.out.old P2.out.log.old))) (acc HLW.out.old P2.out.log.old).size HN2.out hrm hrc HRS2).mono ?_; rintro e w3 ⟨RA2, rc2, rfl, ho3, hb3⟩; rw [HM.out] at ho3 ⊢; have P3 := Lib.hid (P2.out.below hb3); have R3 := Lib.hid (recs_own HM.out ho3); have AP : Hid (∀ z, blk RA2 = some z → z ∉ S ∧ z ∉ D) := Lib.hid (fun z e => ⟨fun hm => (by have h1 := (own_blk ho3 z e).1; have h2 := P2.out.log.lt z hm; omega), fun hm => (by have h1 := (own_blk ho3 z e).1; have h2 := P2.out.doc.lt z hm; omega)⟩); clear ho3)
          | (go_at_call 22; have _q := P1; refine (rload6_duo a0 A3 ll i c3 wc.heap.size P1 (Lib.hid (HRS.out.below P1.out.old)) (Lib.hid (fun s hs => own_low (own_below (HLW.out.recs s hs) P1.out.old) (Nat.zero_le _))) P1.out.old.size HLL.out (by omega) HSZ HLL2 HX).mono ?_; rintro e w2 ⟨k, D, rfl, hp2⟩; have P2 := Lib.hid hp2; have HG := Lib.hid hp2.log.good; clear hp2)
          | (go_at_call 21; refine (m6_load a0 i c3 wc.heap.size l HRS (Nat.le_refl _) HLL2 HL6.out (by omega) (Lib.hid (by rw [← HLL2.out]; exact HSZ2.out)) HX).mono ?_; rintro e w1 ⟨g, S, rfl, hl1⟩; have P1 := Lib.hid hl1; clear hl1))
        go_ret
        exact ⟨rfl, acc (acc HLW.out.old P6.out.log.old) hbz⟩
    · have hxn : (x != 0) = true := by simpa using hx0
      have HXN := Lib.hid hx0
      go_wp2_with (first
        | (go_at_call 20; have _q := hb2; refine (fixed6_any _).mono ?_; rintro e wz ⟨rfl, hbz⟩)
        | (go_at_call 22; have _q := hb1; refine (rload6_no a0 A3 ll i c3 wc.heap.size x w1 (Lib.hid (HRS.out.below hb1)) (Lib.hid (fun s hs => own_low (own_below (HLW.out.recs s hs) hb1) (Nat.zero_le _))) hb1.size HLL.out (by omega) HSZ HX HXN.out).mono ?_; rintro e w2 ⟨rfl, hb2⟩)
        | (go_at_call 21; refine (m6_load_no a0 x i c3 wc.heap.size (ll.map Sa.s) HRS (Nat.le_refl _) (Lib.hid rfl) (by rw [List.length_map]; exact HLL.out) (by omega) HSZ2 HX HXN.out).mono ?_; rintro e w1 ⟨rfl, hb1⟩))
      go_ret
      exact ⟨rfl, acc (acc (acc HLW.out.old hb1) hb2) hbz⟩

set_option maxRecDepth 100000 in
set_option maxHeartbeats 1000000 in
theorem lifted (os : Os) (started : os.Started) (H : Type) (enc : TypeId × Value → H) :
    ReturnsInHanded {} Try.checked os 4 .any (Rows.plogLoadsSpec.pre6 enc Try.prog Try.f4 Rows.plogLoadsRow.domain false) (Rows.plogLoadsSpec.post enc Try.prog Try.f4 false true false false) := by
  refine returnsInHanded_of_change (C := Try.checked) own started (by kernel_rfl) Try.func4
    (ChangeSpec.witness6 (enc := enc) (C := Try.checked) false ⟨#[], #[.int .i64 0, .slice none 0 0, .slice none 0 0], []⟩ 8 (by kernel_rfl) (by kernel_rfl) (by kernel_rfl) (by kernel_rfl)) ?_
  intro W base args ds gs before hval0 hW _ _
  have hval : ∀ (j : Nat) t v, Try.f4.params[j]? = some t → args[j]? = some v → Value.okWide Try.prog W .any base t v := hval0
  have hW' := hW
  obtain ⟨p, q, hA0, hV, rfl, hfz, hnd⟩ := hW
  have hA : DataW.TrodAll enc Try.prog W 0 (fun _ => true) true Try.f4.params.toList args.toList ds p := hA0
  rw [Try.params4] at hA hval
  obtain ⟨v0, vs0, d0, ds0, p0, q0, hargs, rfl, rfl, h0, r0⟩ := trodAll_cons hA
  obtain ⟨v1, vs1, d1, ds1, p1, q1, rfl, rfl, rfl, h1, r1⟩ := trodAll_cons r0
  obtain ⟨v2, vs2, d2, ds2, p2, q2, rfl, rfl, rfl, h2, r2⟩ := trodAll_cons r1
  obtain ⟨rfl, rfl, rfl⟩ := trodAll_nil r2
  obtain rfl : args = #[v0, v1, v2] := by cases args; simp_all
  obtain ⟨rfl, rfl⟩ := trodVars_none hV
  have k0 := h0
  have lt0 : ∀ x ∈ p0, x.block < W.heap.size := by obtain ⟨m, hm⟩ := k0; exact DataW.trod_lt m _ _ _ hm
  have k1 := h1
  have lt1 : ∀ x ∈ p1, x.block < W.heap.size := by obtain ⟨m, hm⟩ := k1; exact DataW.trod_lt m _ _ _ hm
  have k2 := h2
  have lt2 : ∀ x ∈ p2, x.block < W.heap.size := by obtain ⟨m, hm⟩ := k2; exact DataW.trod_lt m _ _ _ hm
  obtain ⟨a0, e0, _, _, w0⟩ := open_int Try.underlying3 (hval 0 3 v0 rfl rfl) h0
  subst e0
  obtain ⟨A1, l1, c1, e1, R1⟩ := L6.open_segs (hval 1 51 v1 rfl rfl) h1
  subst e1
  obtain ⟨A2, l2, c2, e2, R2⟩ := L6.open_rcap (hval 2 30 v2 rfl rfl) h2
  subst e2
  clear hA0 hval0
  refine (walk W a0 w0 A1 l1 c1 R1 A2 l2 c2 R2).mono fun e W' ⟨he, bel⟩ => ?_
  subst he
  exact ⟨_, rfl, _, _, _, [], _, [], hW', trodAll_mk1 (shut_bool Try.underlying4 _), (trodAll_cons_mk (Below.trod laidOut (by kernel_rfl) (of_decide_eq_true (by kernel_rfl)) k0 bel lt0) (trodAll_cons_mk (Below.trod laidOut (by kernel_rfl) (of_decide_eq_true (by kernel_rfl)) k1 bel lt1) (trodAll_cons_mk (Below.trod laidOut (by kernel_rfl) (of_decide_eq_true (by kernel_rfl)) k2 bel lt2) trodAll_mk0))), rfl, bel.frame _, fun h => by cases h⟩

theorem over : Rows.plogLoadsRow.holds Try.pinned (OpenSpec.ofChange Rows.plogLoadsSpec) :=
  OpenClaim.holds_of_wide 4 Try.f4 rfl rfl rfl rfl rfl rfl rfl ⟨rfl, rfl, rfl, rfl, rfl⟩ rfl rfl rfl rfl rfl (by kernel_rfl) Try.func4 (by kernel_rfl)
    (of_decide_eq_true (by kernel_rfl)) (by unfold Func.isWrapper; first | (rw [if_pos (by decide +kernel)]; kernel_rfl) | (rw [if_neg (by decide +kernel)]; exact ⟨rfl, rfl⟩))
    (fun os started H enc _ => lifted os started H enc)

/-- the statement -/
theorem proved : Rows.PlogLoadsSaid :=
  over
#print axioms proved
end Go.Proofs.Ytflcggpeflagiaa.plogLoads
