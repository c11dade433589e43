/-
  Contracts: the document's segment: records are put behind all.
-/
import Derived.Test.YtpagoeoilkbmjaaSegRef
namespace Go.Proofs.Ytpagoeoilkbmjaa.L5
open Go.RowKit
open L3 L4

set_option maxRecDepth 100000 in
set_option maxHeartbeats 8000000 in
theorem rappend_is {T : TypeId} {w : World} {g : Nat} {A : Option Addr} {cap : Nat} {base next : Int} {L : List L4.Fd} (X : Option Addr) (rs : List R) (xc B : Nat) (x : Int) (h : Hid (Seg T w g A cap base next L)) (hl : L.length ≤ 64) (hn0 : 0 ≤ next) (hn1 : next ≤ 1099511627776)
    (hR : Hid (Reads w B X rs)) (hX : Hid (Apart g A X)) (hB : B ≤ w.heap.size) (hrl : rs.length ≤ 1000000) (hs : Hid (∀ r ∈ rs, r.key.size ≤ maxLen ∧ r.val.size ≤ maxLen)) (HX : Hid (appE next L.length rs = x)) :
    Calls Try.prog 15 #[.pointer (some ⟨g, 0, none⟩), .slice X rs.length xc] w (AppP T w g A base next L rs x) := by
  go_enter Try.func15, Try.ntmps15
  go_wp2_with fail
  go_loopw [6] (fun i wr => ∃ k : Nat, k ≤ rs.length ∧ i = .int .i64 k ∧ Below w.heap.size w wr ∧ Hid (chkL (rs.drop k) = chkL rs)) (fun i _ => rs.length - (intOf i).toNat)
  case atStart => exact ⟨0, by omega, rfl, Below.refl _ _, Lib.hid (by simp)⟩
  case round =>
    obtain ⟨k, hk, rfl, hbel, hC⟩ := hrel
    by_cases hlt : k < rs.length
    · obtain ⟨b, rfl, hb, hcells⟩ := hR.out (by omega)
      obtain ⟨⟨rk, key, tb, val⟩, hr⟩ : ∃ s, rs[k]? = some s := ⟨rs[k], List.getElem?_eq_getElem hlt⟩
      obtain ⟨q1, q2⟩ := hs.out _ (List.mem_of_getElem? hr)
      have Q1 := Lib.hid q1
      have Q2 := Lib.hid q2
      obtain ⟨c0, c1, c2, c3⟩ := hcells k _ hr
      have d0 := (hbel.cell (p := ⟨b, k * 4, none⟩) (by show b < _; omega)).trans c0
      have d1 := (hbel.cell (p := ⟨b, k * 4 + 1, none⟩) (by show b < _; omega)).trans c1
      have d2 := (hbel.cell (p := ⟨b, k * 4 + 2, none⟩) (by show b < _; omega)).trans c2
      have d3 := (hbel.cell (p := ⟨b, k * 4 + 3, none⟩) (by show b < _; omega)).trans c3
      have k0 : (0 : Int) ≤ (k : Int) := by omega
      have k1 : (k : Int) < (rs.length : Int) := by omega
      obtain ⟨y, hy⟩ : ∃ y, chk rk key tb val = y := ⟨_, rfl⟩
      have hnext := chkL_next hr hy
      have HY := Lib.hid hy
      clear c0 c1 c2 c3 hcells hr hy q1 q2
      dsimp only at d0 d1 d2 d3 Q1 Q2
      by_cases hy0 : y = 0
      · subst hy0
        have hC' : Hid (chkL (rs.drop (k + 1)) = chkL rs) := Lib.hid ((hnext.2 rfl).symm.trans hC.out)
        clear hnext
        go_wp2_with (go_at_call 49; refine (refcheck_any _ _ _ _ _ Q1.out Q2.out).mono ?_; rw [HY.out]; rintro e w1 ⟨rfl, hb1⟩)
        go_roundw
        case rel => exact ⟨k + 1, by omega, by go_num, hbel.trans (hb1.mono hbel.size), hC'⟩
        case measure => simp [intOf]; omega
      · have hy1 : (y != 0) = true := by simpa using hy0
        have hx : x = y := by
          rw [← HX.out]; unfold appE
          rw [← hC.out, hnext.1 hy0, if_pos hy0]
        subst hx
        have HN0 := Lib.hid hy0
        clear hnext hy0
        go_wp2_with (go_at_call 49; refine (refcheck_any _ _ _ _ _ Q1.out Q2.out).mono ?_; rw [HY.out]; rintro e w1 ⟨rfl, hb1⟩)
        go_ret2
        exact .inl ⟨HN0.out, rfl, hbel.trans (hb1.mono hbel.size)⟩
    · obtain rfl : k = rs.length := by omega
      have hc0 : chkL rs = 0 := by have := hC.out; rw [List.drop_length] at this; exact this.symm
      have hx := HX.out
      unfold appE at hx
      rw [if_neg (by rw [hc0]; simp)] at hx
      have hseg0 := h.out.below hbel
      have c2 := hseg0.c2
      have c1 := hseg0.c1
      clear hc0
      have w1 : wrap64 ((L.length : Int) + (rs.length : Int)) = (L.length : Int) + (rs.length : Int) := by simp only [wrap64]; omega
      have w2 : wrap64 (next + (rs.length : Int)) = next + (rs.length : Int) := by simp only [wrap64]; omega
      by_cases hf1 : 64 < (L.length : Int) + (rs.length : Int)
      · rw [if_pos (by omega)] at hx
        subst hx
        clear hseg0
        go_wp2_with fail
        go_ret2
        exact .inl ⟨by decide, rfl, hbel⟩
      · by_cases hf2 : 1099511627776 < next + (rs.length : Int)
        · rw [if_pos (by omega)] at hx
          subst hx
          clear hseg0
          go_wp2_with fail
          go_ret2
          exact .inl ⟨by decide, rfl, hbel⟩
        · rw [if_neg (by omega)] at hx
          subst hx
          have hrl2 : rs.length ≤ 64 := by omega
          have hnr : next + (rs.length : Int) ≤ 1099511627776 := by omega
          clear hseg0
          go_wp2_with fail
          clear c1 c2 hf1 hf2 w1 w2 hC
          go_loopw [9] (fun i wr => ∃ (k : Nat) (A' : Option Addr) (cap' : Nat), k ≤ rs.length ∧ i = .int .i64 k ∧ Hid (Seg T wr g A' cap' base next (L ++ numbered next (rs.take k))) ∧ But g (blk A) w wr ∧ Hid (∀ j, blk A' = some j → blk A = some j ∨ w.heap.size ≤ j)) (fun i _ => rs.length - (intOf i).toNat)
          case atStart => exact ⟨0, A, cap, by omega, rfl, Lib.hid (by simpa [numbered] using h.out.below hbel), .ofBelow hbel, Lib.hid (fun j e => .inl e)⟩
          case round =>
            obtain ⟨k, A', cap', hk, rfl, hseg, hbut, hA'⟩ := hrel
            obtain ⟨n, hn⟩ : ∃ n, L.length + k = n := ⟨_, rfl⟩
            have hlen : (L ++ numbered next (rs.take k)).length = n := by rw [List.length_append, numbered_len, List.length_take]; omega
            have HN := Lib.hid hlen
            have c2 := hseg.out.c2
            rw [hlen] at c2
            clear hlen
            by_cases hlt : k < rs.length
            · have hR2 := reads_but hR.out hbut hX.out
              have hXA := hX.out
              obtain ⟨b, rfl, hb, hcells⟩ := hR2 (by omega)
              obtain ⟨⟨rk, key, tb, val⟩, hr⟩ : ∃ s, rs[k]? = some s := ⟨rs[k], List.getElem?_eq_getElem hlt⟩
              obtain ⟨d0, d1, d2, d3⟩ := hcells k _ hr
              have k0 : (0 : Int) ≤ (k : Int) := by omega
              have k1 : (k : Int) < (rs.length : Int) := by omega
              have HR := Lib.hid hr
              have e1 : IntKind.i64.wrap (next + (k : Int)) = next + (k : Int) := by rw [IntKind.wrap_i64]; omega
              have hn130 : n ≤ 130 := by omega
              dsimp only at d0 d1 d2 d3
              have HR2 := Lib.hid hseg.out.row
              have HO := Lib.hid hseg.out.own
              have HNE := Lib.hid hseg.out.ne
              have hgw := hseg.out.lt
              rw [HN.out] at HR2 HO
              obtain ⟨i0, hi0, hz0, hz1, hz2⟩ := info_parts fdInfo
              have hbg : b ≠ g := (hXA b rfl).1
              have hbA : some b ≠ blk A' := fun e => by
                rcases hA'.out b e.symm with q | q
                · exact (hXA b rfl).2 q.symm
                · omega
              have hT : ∀ w', But g (blk A') wr w' → (w'.cell? ⟨b, k * 4, none⟩ = some (.bool rk) ∧ w'.cell? ⟨b, k * 4 + 1, none⟩ = some (.string key) ∧ w'.cell? ⟨b, k * 4 + 2, none⟩ = some (.bool tb) ∧ w'.cell? ⟨b, k * 4 + 3, none⟩ = some (.string val)) ∧ But g (blk A') wr w' := fun w' q => ⟨⟨q.cell d0 hbg hbA, q.cell d1 hbg hbA, q.cell d2 hbg hbA, q.cell d3 hbg hbA⟩, q⟩
              have HT := Lib.hid hT
              clear hcells hr hR2 hXA hT hbg hbA hn
              go_wp2_with fail
              refine wp_region_held_drew (S := fun w' => (w'.cell? ⟨b, k * 4, none⟩ = some (.bool rk) ∧ w'.cell? ⟨b, k * 4 + 1, none⟩ = some (.string key) ∧ w'.cell? ⟨b, k * 4 + 2, none⟩ = some (.bool tb) ∧ w'.cell? ⟨b, k * 4 + 3, none⟩ = some (.string val)) ∧ But g (blk A') wr w') (by kernel_rfl) (HT.out _ (But.ofBelow (Below.refl _ _).drew)) (fun hHeld => ?_)
              refine wpAnyH_take (i := 0) (oi := ?o1) (v := ?v1) ?a1 (by kernel_rfl) (by kernel_rfl) (by kernel_rfl) ?q1 (Or.inl ⟨?g1, ?y1⟩) (by assumption) ?r1; (case' a1 => (simp only [List.getElem?_toArray, List.getElem?_cons_zero]; rfl)); (case' q1 => (exact fun _ _ _ h => h)); (case' g1 => rfl); (case' y1 => (intro w hSw; (try dsimp only at hSw); go_simp; try with_reducible rfl)); (case' r1 => (try simp only [Act.put, List.setIfInBounds_toArray, List.set_cons_zero, List.set_cons_succ]))
              refine wpAnyH_take (i := 1) (oi := ?o2) (v := ?v2) ?a2 (by kernel_rfl) (by kernel_rfl) (by kernel_rfl) ?q2 (Or.inl ⟨?g2, ?y2⟩) (by assumption) ?r2; (case' a2 => (simp only [List.getElem?_toArray, List.getElem?_cons_zero, List.getElem?_cons_succ]; rfl)); (case' q2 => (exact fun _ _ _ h => h)); (case' g2 => rfl); (case' y2 => (intro w hSw; (try dsimp only at hSw); go_simp; try with_reducible rfl)); (case' r2 => (try simp only [Act.put, List.setIfInBounds_toArray, List.set_cons_zero, List.set_cons_succ]))
              refine wpAnyH_take (i := 2) (oi := ?o3) (v := ?v3) ?a3 (by kernel_rfl) (by kernel_rfl) (by kernel_rfl) ?q3 (Or.inl ⟨?g3, ?y3⟩) (by assumption) ?r3; (case' a3 => (simp only [List.getElem?_toArray, List.getElem?_cons_zero, List.getElem?_cons_succ]; rfl)); (case' q3 => (exact fun _ _ _ h => h)); (case' g3 => rfl); (case' y3 => (intro w hSw; (try dsimp only at hSw); go_simp; try with_reducible rfl)); (case' r3 => (try simp only [Act.put, List.setIfInBounds_toArray, List.set_cons_zero, List.set_cons_succ]))
              refine wpAnyH_take (i := 3) (oi := ?o4) (v := ?v4) ?a4 (by kernel_rfl) (by kernel_rfl) (by kernel_rfl) ?q4 (Or.inl ⟨?g4, ?y4⟩) (by assumption) ?r4; (case' a4 => (simp only [List.getElem?_toArray, List.getElem?_cons_zero, List.getElem?_cons_succ]; rfl)); (case' q4 => (exact fun _ _ _ h => h)); (case' g4 => rfl); (case' y4 => (intro w hSw; (try dsimp only at hSw); go_simp; try with_reducible rfl)); (case' r4 => (try simp only [Act.put, List.setIfInBounds_toArray, List.set_cons_zero, List.set_cons_succ]))
              refine wpAnyH_take (i := 5) (oi := ?o5) (v := ?v5) ?a5 (by kernel_rfl) (by kernel_rfl) (by kernel_rfl) ?q5 (Or.inl ⟨?g5, ?y5⟩) (by assumption) ?r5; (case' a5 => (simp only [List.getElem?_toArray, List.getElem?_cons_zero, List.getElem?_cons_succ]; rfl)); (case' q5 => (exact fun _ _ _ h => h)); (case' g5 => rfl); (case' y5 => (intro w hSw; (try dsimp only at hSw); go_simp; try with_reducible rfl)); (case' r5 => (try simp only [Act.put, List.setIfInBounds_toArray, List.set_cons_zero, List.set_cons_succ]))
              refine wpAnyH_take (i := 6) (oi := ?o6) (v := ?v6) ?a6 (by kernel_rfl) (by kernel_rfl) (by kernel_rfl) ?q6 (Or.inl ⟨?g6, ?y6⟩) (by assumption) ?r6; (case' a6 => (simp only [List.getElem?_toArray, List.getElem?_cons_zero, List.getElem?_cons_succ]; rfl)); (case' q6 => (exact fun _ _ _ h => h)); (case' g6 => rfl); (case' y6 => (intro w hSw; (try dsimp only at hSw); go_simp; try with_reducible rfl)); (case' r6 => (try simp only [Act.put, List.setIfInBounds_toArray, List.set_cons_zero, List.set_cons_succ]))
              refine wpAnyH_take (i := 7) (oi := ?o7) (v := ?v7) ?a7 (by kernel_rfl) (by kernel_rfl) (by kernel_rfl) ?q7 (Or.inl ⟨?g7, ?y7⟩) (by assumption) ?r7; (case' a7 => (simp only [List.getElem?_toArray, List.getElem?_cons_zero, List.getElem?_cons_succ]; rfl)); (case' q7 => (exact fun _ _ _ h => h)); (case' g7 => rfl); (case' y7 => (intro w hSw; (try dsimp only at hSw); go_simp; try with_reducible rfl)); (case' r7 => (try simp only [Act.put, List.setIfInBounds_toArray, List.set_cons_zero, List.set_cons_succ]))
              refine wpAnyH_take (i := 8) (oi := ?o8) (v := ?v8) ?a8 (by kernel_rfl) (by kernel_rfl) (by kernel_rfl) ?q8 (Or.inl ⟨?g8, ?y8⟩) (by assumption) ?r8; (case' a8 => (simp only [List.getElem?_toArray, List.getElem?_cons_zero, List.getElem?_cons_succ]; rfl)); (case' q8 => (exact fun _ _ _ h => h)); (case' g8 => rfl); (case' y8 => (intro w hSw; (try dsimp only at hSw); go_simp; try with_reducible rfl)); (case' r8 => (try simp only [Act.put, List.setIfInBounds_toArray, List.set_cons_zero, List.set_cons_succ]))
              refine wpAnyH_take (i := 9) (oi := ?o9) (v := ?v9) ?a9 (by kernel_rfl) (by kernel_rfl) (by kernel_rfl) ?q9 (Or.inl ⟨?g9, ?y9⟩) (by assumption) ?r9; (case' a9 => (simp only [List.getElem?_toArray, List.getElem?_cons_zero, List.getElem?_cons_succ]; rfl)); (case' q9 => (exact fun _ _ _ h => h)); (case' g9 => rfl); (case' y9 => (intro w hSw; (try dsimp only at hSw); go_simp; try with_reducible rfl)); (case' r9 => (try simp only [Act.put, List.setIfInBounds_toArray, List.set_cons_zero, List.set_cons_succ]))
              refine wpAnyH_take (i := 10) (oi := ?o10) (v := ?v10) ?a10 (by kernel_rfl) (by kernel_rfl) (by kernel_rfl) ?q10 (Or.inl ⟨?g10, ?y10⟩) (by assumption) ?r10; (case' a10 => (simp only [List.getElem?_toArray, List.getElem?_cons_zero, List.getElem?_cons_succ]; rfl)); (case' q10 => (exact fun _ _ _ h => h)); (case' g10 => rfl); (case' y10 => (intro w hSw; (try dsimp only at hSw); go_simp; try with_reducible rfl)); (case' r10 => (try simp only [Act.put, List.setIfInBounds_toArray, List.set_cons_zero, List.set_cons_succ]))
              refine wpAnyH_take (i := 11) (oi := ?o11) (v := ?v11) ?a11 (by kernel_rfl) (by kernel_rfl) (by kernel_rfl) ?q11 (Or.inl ⟨?g11, ?y11⟩) (by assumption) ?r11; (case' a11 => (simp only [List.getElem?_toArray, List.getElem?_cons_zero, List.getElem?_cons_succ]; rfl)); (case' q11 => (exact fun _ _ _ h => h)); (case' g11 => rfl); (case' y11 => (intro w hSw; (try dsimp only at hSw); go_simp; try with_reducible rfl)); (case' r11 => (try simp only [Act.put, List.setIfInBounds_toArray, List.set_cons_zero, List.set_cons_succ]))
              refine wpAnyH_take (i := 12) (oi := ?o12) (v := ?v12) ?a12 (by kernel_rfl) (by kernel_rfl) (by kernel_rfl) ?q12 (Or.inl ⟨?g12, ?y12⟩) (by assumption) ?r12; (case' a12 => (simp only [List.getElem?_toArray, List.getElem?_cons_zero, List.getElem?_cons_succ]; rfl)); (case' q12 => (exact fun _ _ _ h => h)); (case' g12 => rfl); (case' y12 => (intro w hSw; (try dsimp only at hSw); go_simp; try with_reducible rfl)); (case' r12 => (try simp only [Act.put, List.setIfInBounds_toArray, List.set_cons_zero, List.set_cons_succ]))
              refine wpAnyH_ready (rs := [4, 13]) (by kernel_rfl) (by simp) ?_
              refine AllReadyH.cons (o := ?o13) ?a13 (fun K hK => ?s13) ?m13; (case' a13 => (simp only [List.getElem?_toArray, List.getElem?_cons_zero, List.getElem?_cons_succ]; rfl))
              case s13 =>
                go_simp
                refine hK.out _ _ (hHeld) (fun hHeld => ?_)
                clear hK K
                (try simp only [Act.put, List.setIfInBounds_toArray, List.set_cons_zero, List.set_cons_succ])
                refine wpAnyH_ready (rs := [13]) (by kernel_rfl) (by simp) ?_
                refine AllReadyH.cons (o := ?o14) ?a14 (fun K hK => ?s14) ?m14; (case' a14 => (simp only [List.getElem?_toArray, List.getElem?_cons_zero, List.getElem?_cons_succ]; rfl))
                case s14 =>
                  go_simp
                  refine hK.out _ _ (HT.out _ (hHeld.2.alloc _)) (fun hHeld => ?_)
                  clear hK K
                  (try simp only [Act.put, List.setIfInBounds_toArray, List.set_cons_zero, List.set_cons_succ])
                  refine wpAnyH_ready (rs := [14]) (by kernel_rfl) (by simp) ?_
                  refine AllReadyH.cons (o := ?o15) ?a15 (fun K hK => ?s15) ?m15; (case' a15 => (simp only [List.getElem?_toArray, List.getElem?_cons_zero, List.getElem?_cons_succ]; rfl))
                  case s15 =>
                    refine step_append_lies _ (by rfl) _ _ _ (by rfl) 0 43 i0 _ 5 56 Try.underlying37 hi0 hz0 hz1 hz2 rfl (by omega) (.slice A' n cap') n (rowF (L ++ numbered next (rs.take k))) (by rfl) ((own_below HO.out (Below.refl _ _).drew).alloc _) ⟨wr.heap.size, 0, none⟩ 1 1 [.int .i64 (next + k), .bool rk, .string key, .bool tb, .string val] (by rfl) (by rfl) (World.news_of_block (cs := #[.int .i64 (next + k), .bool rk, .string key, .bool tb, .string val]) (t := 43) (fr := (0, 0)) (heap_alloc_new wr.drew _)) (by simp [Value.oneCell']) (by omega) (by unfold maxLen; omega) (by omega) (Nat.zero_le _) (wr.heap.size + 1) (by simp) ?_
                    intro gg cc w2 hown2 hgrow hat hltg
                    have hrow := grown_row HR2.out hgrow HNE.out
                    have x2 := (cell_of_row _ _ 2 _ _ _ hrow).trans rfl
                    have y2 := frozen_of_row _ _ 2 _ _ hrow
                    have HROW := Lib.hid hrow
                    clear hrow
                    refine hK.out _ _ (HT.out _ (but_grown hgrow)) (fun hHeld => ?_)
                    clear hK K
                    (try simp only [Act.put, List.setIfInBounds_toArray, List.set_cons_zero, List.set_cons_succ])
                    refine wpAnyH_take (i := 15) (oi := ?o16) (v := ?v16) ?a16 (by kernel_rfl) (by kernel_rfl) (by kernel_rfl) ?q16 (Or.inl ⟨?g16, ?y16⟩) (by assumption) ?r16; (case' a16 => (simp only [List.getElem?_toArray, List.getElem?_cons_zero, List.getElem?_cons_succ]; rfl)); (case' q16 => (exact fun _ _ _ h => h)); (case' g16 => rfl); (case' y16 => (intro w hSw; (try dsimp only at hSw); go_simp; try with_reducible rfl)); (case' r16 => (try simp only [Act.put, List.setIfInBounds_toArray, List.set_cons_zero, List.set_cons_succ]))
                    refine wpAnyH_take (i := 16) (oi := ?o17) (v := ?v17) ?a17 (by kernel_rfl) (by kernel_rfl) (by kernel_rfl) ?q17 (Or.inl ⟨?g17, ?y17⟩) (by assumption) ?r17; (case' a17 => (simp only [List.getElem?_toArray, List.getElem?_cons_zero, List.getElem?_cons_succ]; rfl)); (case' q17 => (exact fun _ _ _ h => h)); (case' g17 => rfl); (case' y17 => (intro w hSw; (try dsimp only at hSw); go_simp; try with_reducible rfl)); (case' r17 => (try simp only [Act.put, List.setIfInBounds_toArray, List.set_cons_zero, List.set_cons_succ]))
                    refine wpAnyH_ready (rs := [17]) (by kernel_rfl) (by simp) ?_
                    refine AllReadyH.cons (o := ?o18) ?a18 (fun K hK => ?s18) ?m18; (case' a18 => (simp only [List.getElem?_toArray, List.getElem?_cons_zero, List.getElem?_cons_succ]; rfl))
                    case s18 =>
                      go_simp
                      refine hK.out _ _ (HT.out _ (hHeld.2.setCell (.inl rfl) _)) (fun hHeld => ?_)
                      clear hK K
                      (try simp only [Act.put, List.setIfInBounds_toArray, List.set_cons_zero, List.set_cons_succ])
                      refine wpAnyH_done (by kernel_rfl) ?_ _
                      have hst := put_step (x := ⟨next + k, ⟨rk, key, tb, val⟩⟩) hseg.out HN.out (Below.refl _ _) hHeld.2 HROW.out hown2 hat
                      have HST := Lib.hid hst
                      clear hst hHeld
                      go_wp2_with fail
                      go_roundw
                      case rel =>
                        obtain ⟨A2, c2, s1, s2, s3⟩ := HST.out
                        refine ⟨k + 1, A2, c2, by omega, by go_num, Lib.hid ?_, hbut.trans s2 hA'.out, Lib.hid (fun j e => ?_)⟩
                        · rw [numbered_take HR.out, ← List.append_assoc]; exact s1
                        · rcases s3 j e with e' | e'
                          · exact hA'.out j e'
                          · right; have := hbut.size; omega
                      case measure => simp [intOf]; omega
                    exact AllReadyH.nil
                  exact AllReadyH.nil
                exact AllReadyH.nil
              refine AllReadyH.cons (o := ?o19) ?a19 (fun K hK => ?s19) ?m19; (case' a19 => (simp only [List.getElem?_toArray, List.getElem?_cons_zero, List.getElem?_cons_succ]; rfl))
              case s19 =>
                go_simp
                refine hK.out _ _ (HT.out _ (hHeld.2.alloc _)) (fun hHeld => ?_)
                clear hK K
                (try simp only [Act.put, List.setIfInBounds_toArray, List.set_cons_zero, List.set_cons_succ])
                refine wpAnyH_ready (rs := [4]) (by kernel_rfl) (by simp) ?_
                refine AllReadyH.cons (o := ?o20) ?a20 (fun K hK => ?s20) ?m20; (case' a20 => (simp only [List.getElem?_toArray, List.getElem?_cons_zero, List.getElem?_cons_succ]; rfl))
                case s20 =>
                  go_simp
                  refine hK.out _ _ (hHeld) (fun hHeld => ?_)
                  clear hK K
                  (try simp only [Act.put, List.setIfInBounds_toArray, List.set_cons_zero, List.set_cons_succ])
                  refine wpAnyH_ready (rs := [14]) (by kernel_rfl) (by simp) ?_
                  refine AllReadyH.cons (o := ?o21) ?a21 (fun K hK => ?s21) ?m21; (case' a21 => (simp only [List.getElem?_toArray, List.getElem?_cons_zero, List.getElem?_cons_succ]; rfl))
                  case s21 =>
                    refine step_append_lies _ (by rfl) _ _ _ (by rfl) 0 43 i0 _ 5 56 Try.underlying37 hi0 hz0 hz1 hz2 rfl (by omega) (.slice A' n cap') n (rowF (L ++ numbered next (rs.take k))) (by rfl) ((own_below HO.out (Below.refl _ _).drew).alloc _) ⟨wr.heap.size, 0, none⟩ 1 1 [.int .i64 (next + k), .bool rk, .string key, .bool tb, .string val] (by rfl) (by rfl) (World.news_of_block (cs := #[.int .i64 (next + k), .bool rk, .string key, .bool tb, .string val]) (t := 43) (fr := (0, 0)) (heap_alloc_new wr.drew _)) (by simp [Value.oneCell']) (by omega) (by unfold maxLen; omega) (by omega) (Nat.zero_le _) (wr.heap.size + 1) (by simp) ?_
                    intro gg cc w2 hown2 hgrow hat hltg
                    have hrow := grown_row HR2.out hgrow HNE.out
                    have x2 := (cell_of_row _ _ 2 _ _ _ hrow).trans rfl
                    have y2 := frozen_of_row _ _ 2 _ _ hrow
                    have HROW := Lib.hid hrow
                    clear hrow
                    refine hK.out _ _ (HT.out _ (but_grown hgrow)) (fun hHeld => ?_)
                    clear hK K
                    (try simp only [Act.put, List.setIfInBounds_toArray, List.set_cons_zero, List.set_cons_succ])
                    refine wpAnyH_take (i := 15) (oi := ?o22) (v := ?v22) ?a22 (by kernel_rfl) (by kernel_rfl) (by kernel_rfl) ?q22 (Or.inl ⟨?g22, ?y22⟩) (by assumption) ?r22; (case' a22 => (simp only [List.getElem?_toArray, List.getElem?_cons_zero, List.getElem?_cons_succ]; rfl)); (case' q22 => (exact fun _ _ _ h => h)); (case' g22 => rfl); (case' y22 => (intro w hSw; (try dsimp only at hSw); go_simp; try with_reducible rfl)); (case' r22 => (try simp only [Act.put, List.setIfInBounds_toArray, List.set_cons_zero, List.set_cons_succ]))
                    refine wpAnyH_take (i := 16) (oi := ?o23) (v := ?v23) ?a23 (by kernel_rfl) (by kernel_rfl) (by kernel_rfl) ?q23 (Or.inl ⟨?g23, ?y23⟩) (by assumption) ?r23; (case' a23 => (simp only [List.getElem?_toArray, List.getElem?_cons_zero, List.getElem?_cons_succ]; rfl)); (case' q23 => (exact fun _ _ _ h => h)); (case' g23 => rfl); (case' y23 => (intro w hSw; (try dsimp only at hSw); go_simp; try with_reducible rfl)); (case' r23 => (try simp only [Act.put, List.setIfInBounds_toArray, List.set_cons_zero, List.set_cons_succ]))
                    refine wpAnyH_ready (rs := [17]) (by kernel_rfl) (by simp) ?_
                    refine AllReadyH.cons (o := ?o24) ?a24 (fun K hK => ?s24) ?m24; (case' a24 => (simp only [List.getElem?_toArray, List.getElem?_cons_zero, List.getElem?_cons_succ]; rfl))
                    case s24 =>
                      go_simp
                      refine hK.out _ _ (HT.out _ (hHeld.2.setCell (.inl rfl) _)) (fun hHeld => ?_)
                      clear hK K
                      (try simp only [Act.put, List.setIfInBounds_toArray, List.set_cons_zero, List.set_cons_succ])
                      refine wpAnyH_done (by kernel_rfl) ?_ _
                      have hst := put_step (x := ⟨next + k, ⟨rk, key, tb, val⟩⟩) hseg.out HN.out (Below.refl _ _) hHeld.2 HROW.out hown2 hat
                      have HST := Lib.hid hst
                      clear hst hHeld
                      go_wp2_with fail
                      go_roundw
                      case rel =>
                        obtain ⟨A2, c2, s1, s2, s3⟩ := HST.out
                        refine ⟨k + 1, A2, c2, by omega, by go_num, Lib.hid ?_, hbut.trans s2 hA'.out, Lib.hid (fun j e => ?_)⟩
                        · rw [numbered_take HR.out, ← List.append_assoc]; exact s1
                        · rcases s3 j e with e' | e'
                          · exact hA'.out j e'
                          · right; have := hbut.size; omega
                      case measure => simp [intOf]; omega
                    exact AllReadyH.nil
                  exact AllReadyH.nil
                exact AllReadyH.nil
              exact AllReadyH.nil
            · obtain rfl : k = rs.length := by omega
              have hs2 : Seg T wr g A' cap' base next (L ++ numbered next rs) := by have := hseg.out; rwa [List.take_length] at this
              have n2 := hs2.froz 1
              have n1 := hs2.c1
              have HS := Lib.hid hs2
              have e1 : wrap64 (next + (rs.length : Int)) = next + (rs.length : Int) := by simp only [wrap64]; omega
              clear hs2
              go_wp2_with fail
              go_ret2
              exact .inr ⟨rfl, rfl, A', cap', HS.out.setNext _, But.setCell (p := ⟨g, 1, none⟩) hbut (.inl rfl) _, hA'.out⟩
end Go.Proofs.Ytpagoeoilkbmjaa.L5
