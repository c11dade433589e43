/-
  Contracts: may a reply be: the document's.
-/
import Derived.Test.YtlhkhccpeohefaaMRepChk
import Derived.Test.YtlhkhccpeohefaaMRecRall
import Derived.Deep.DeepCutAuto
namespace Go.Proofs.Ytlhkhccpeohefaa.L4
open Go.RowKit
open L3

def b4 (r : Rp) : Bool := numB r.e && numB r.off && numB r.n && numB r.gen
theorem refchk_is (hk : Bool) (k : ByteArray) (tb : Bool) (v : ByteArray) (x : Int) (w : World) (h1 : k.size ≤ maxLen) (h2 : v.size ≤ maxLen) (HX : Hid (chk hk k tb v = x)) :
    Calls Try.prog 68 #[.agg #[.bool hk, .string k, .bool tb, .string v]] w fun e w' => e = .returned (.int .i64 x) ∧ Below w.heap.size w w' := by
  have h := refcheck_any hk k tb v w h1 h2
  rw [HX.out] at h
  exact h
theorem rnam_is (s : ByteArray) (v : Bool) (w : World) (hs : s.size ≤ maxLen) (HV : Hid (nameB s = v)) : Calls Try.prog 16 #[.string s] w fun e w' => e = .returned (.bool v) ∧ w = w' := by
  have h := rname_any s w hs
  rw [HV.out] at h
  exact h

set_option maxRecDepth 100000 in
set_option maxHeartbeats 16000000 in
theorem right_is (r : Rp) (FA PA : Option Addr) (fc pc B : Nat) (w : World) (hB : B ≤ w.heap.size) (hF : Hid (ReadsF w B FA r.found)) (hP : Hid (ReadsP w B PA r.parts)) (zF : Hid (r.found.length ≤ maxLen)) (zP : Hid (r.parts.length ≤ maxLen)) (sF : Hid (FSz r.found)) (sP : Hid (PSz r.parts)) (x : Int) (HC : Hid (r.chk = x)) :
    Calls Try.prog 47 #[.agg #[.int .i64 r.e, .int .i64 r.off, .int .i64 r.n, .int .i64 r.gen, .slice FA r.found.length fc, .slice PA r.parts.length pc]] w fun e w' => e = .returned (.int .i64 x) ∧ Below w.heap.size w w' := by
  have RW := Lib.hid (heap_alloc_new w (.cells #[.int .i64 r.e, .int .i64 r.off, .int .i64 r.n, .int .i64 r.gen, .slice FA r.found.length fc, .slice PA r.parts.length pc] 42 (0, 0)))
  have BW := Lib.hid (one_box (w := w) (.cells #[.int .i64 r.e, .int .i64 r.off, .int .i64 r.n, .int .i64 r.gen, .slice FA r.found.length fc, .slice PA r.parts.length pc] 42 (0, 0)))
  have HF := Lib.hid ((hF.out.mono hB).below BW.out)
  have HP := Lib.hid ((hP.out.mono hB).below BW.out)
  have hlF : (r.found.length : Int) ≤ 9223372036854775807 := by have := zF.out; unfold maxLen at this; omega
  have hlP : (r.parts.length : Int) ≤ 9223372036854775807 := by have := zP.out; unfold maxLen at this; omega
  clear hF hP
  go_enter Try.func47, Try.ntmps47
  go_upto_region 1 with (fail)
  generalize w.alloc (.cells #[.int .i64 r.e, .int .i64 r.off, .int .i64 r.n, .int .i64 r.gen, .slice FA r.found.length fc, .slice PA r.parts.length pc] 42 (0, 0)) = W1 at RW BW HF HP ⊢
  have x0 := (cell_of_row _ _ 0 _ _ _ RW.out).trans rfl
  have x1 := (cell_of_row _ _ 1 _ _ _ RW.out).trans rfl
  have x2 := (cell_of_row _ _ 2 _ _ _ RW.out).trans rfl
  have x3 := (cell_of_row _ _ 3 _ _ _ RW.out).trans rfl
  have x4 := (cell_of_row _ _ 4 _ _ _ RW.out).trans rfl
  have x5 := (cell_of_row _ _ 5 _ _ _ RW.out).trans rfl
  go_cut [3] (fun s3 wx => s3 = .bool (b4 r) ∧ W1 = wx)
  case first =>
    go_wp2_with (go_at_call 37; refine (L3.num_any _ _).mono ?_; rintro e w1 ⟨rfl, rfl⟩)
    all_goals (go_meet; exact ⟨congrArg Value.bool (by simp [b4, *]), rfl⟩)
  case rest =>
    obtain ⟨rfl, rfl⟩ := hcut
    go_wp2_with fail
    go_loop [3, 4] (fun t i => ∃ k : Nat, k ≤ r.found.length ∧ i = .int .i64 k ∧ t = .bool (b4 r && !(r.found.take k).any badOff)) (fun _ i => r.found.length - (intOf i).toNat)
    case atStart => exact ⟨0, Nat.zero_le _, rfl, congrArg Value.bool (by simp)⟩
    case round =>
      obtain ⟨k, hk, rfl, rfl⟩ := hrel
      obtain ⟨c, hc⟩ : ∃ c, (b4 r && !(r.found.take k).any badOff) = c := ⟨_, rfl⟩
      rw [hc]
      by_cases hlt : k < r.found.length
      · obtain ⟨g, rfl, hg, hcells⟩ := HF.out (by omega)
        obtain ⟨⟨fo, fr⟩, hf⟩ : ∃ f, r.found[k]? = some f := ⟨r.found[k], List.getElem?_eq_getElem hlt⟩
        have d0 := (hcells k _ hf).1
        dsimp only at d0
        have HNX : Hid ((b4 r && !(r.found.take (k + 1)).any badOff) = (c && numB fo)) := Lib.hid (by
          rw [List.take_add_one, hf, ← hc]
          simp [badOff, Bool.and_assoc])
        have k0 : (0 : Int) ≤ (k : Int) := by omega
        have k1 : (k : Int) < (r.found.length : Int) := by omega
        clear hcells hf hc
        cases c with
        | true =>
          go_wp2_with (go_at_call 37; refine (L3.num_any _ _).mono ?_; rintro e w1 ⟨rfl, rfl⟩)
          go_round
          case rel => exact ⟨k + 1, by omega, by go_num, congrArg Value.bool (by rw [HNX.out]; rfl)⟩
          case measure => simp [intOf]; omega
        | false =>
          go_wp2_with fail
          go_round
          case rel => exact ⟨k + 1, by omega, by go_num, congrArg Value.bool (by rw [HNX.out]; rfl)⟩
          case measure => simp [intOf]; omega
      · obtain rfl : k = r.found.length := by omega
        rw [List.take_length] at hc
        have HC1 := Lib.hid hc
        clear hc hk hlt
        go_wp2_with fail
        go_loop [3, 5] (fun t i => ∃ k : Nat, k ≤ r.parts.length ∧ i = .int .i64 k ∧ t = .bool (c && !(r.parts.take k).any badN)) (fun _ i => r.parts.length - (intOf i).toNat)
        case atStart => exact ⟨0, Nat.zero_le _, rfl, congrArg Value.bool (by simp)⟩
        case round =>
          obtain ⟨k, hk, rfl, rfl⟩ := hrel
          obtain ⟨c2, hc2⟩ : ∃ c2, (c && !(r.parts.take k).any badN) = c2 := ⟨_, rfl⟩
          rw [hc2]
          by_cases hlt : k < r.parts.length
          · obtain ⟨g, rfl, hg, hcells⟩ := HP.out (by omega)
            obtain ⟨⟨pt, pn⟩, hf⟩ : ∃ f, r.parts[k]? = some f := ⟨r.parts[k], List.getElem?_eq_getElem hlt⟩
            have d1 := (hcells k _ hf).2
            dsimp only at d1
            have HNX : Hid ((c && !(r.parts.take (k + 1)).any badN) = (c2 && numB pn)) := Lib.hid (by
              rw [List.take_add_one, hf, ← hc2]
              simp [badN, Bool.and_assoc])
            have k0 : (0 : Int) ≤ (k : Int) := by omega
            have k1 : (k : Int) < (r.parts.length : Int) := by omega
            clear hcells hf hc2
            cases c2 with
            | true =>
              go_wp2_with (go_at_call 37; refine (L3.num_any _ _).mono ?_; rintro e w1 ⟨rfl, rfl⟩)
              go_round
              case rel => exact ⟨k + 1, by omega, by go_num, congrArg Value.bool (by rw [HNX.out]; rfl)⟩
              case measure => simp [intOf]; omega
            | false =>
              go_wp2_with fail
              go_round
              case rel => exact ⟨k + 1, by omega, by go_num, congrArg Value.bool (by rw [HNX.out]; rfl)⟩
              case measure => simp [intOf]; omega
          · obtain rfl : k = r.parts.length := by omega
            rw [List.take_length] at hc2
            have hN : numsR r = c2 := by rw [← hc2, ← HC1.out]; rfl
            have hx := HC.out
            unfold Rp.chk at hx
            rw [hN] at hx
            clear hc2 hN hk hlt HC
            cases c2 with
            | false =>
              have HX : Hid (1 = x) := Lib.hid (by rw [← hx]; rfl)
              clear hx
              go_wp2_with fail
              go_ret
              exact ⟨ret_int HX.out, BW.out⟩
            | true =>
              have hc : 64 < r.found.length ∨ (¬ 64 < r.found.length ∧ 64 < r.parts.length) ∨ (¬ 64 < r.found.length ∧ ¬ 64 < r.parts.length) := by omega
              rcases hc with c | ⟨c, d⟩ | ⟨c, d⟩
              · have HX : Hid (2 = x) := Lib.hid (by rw [← hx]; simp [c])
                have c1 : (64 : Int) < (r.found.length : Int) := by omega
                clear hx c
                go_wp2_with fail
                go_ret
                exact ⟨ret_int HX.out, BW.out⟩
              · have HX : Hid (2 = x) := Lib.hid (by rw [← hx]; simp [d])
                have c1 : ¬ (64 : Int) < (r.found.length : Int) := by omega
                have d1 : (64 : Int) < (r.parts.length : Int) := by omega
                clear hx c d
                go_wp2_with fail
                go_ret
                exact ⟨ret_int HX.out, BW.out⟩
              · have HX2 : Hid ((if (r.found.any badRec || r.parts.any badTop) = true then (40 : Int) else 0) = x) := Lib.hid (by rw [← hx]; simp [c, d])
                have c1 : ¬ (64 : Int) < (r.found.length : Int) := by omega
                have d1 : ¬ (64 : Int) < (r.parts.length : Int) := by omega
                clear hx c d
                go_wp2_with fail
                clear x0 x1 x2 x3 x4 x5
                go_loopw [6] (fun i wr => ∃ k : Nat, k ≤ r.found.length ∧ i = .int .i64 k ∧ Hid ((r.found.take k).any badRec = false) ∧ Below W1.heap.size W1 wr) (fun i _ => r.found.length - (intOf i).toNat)
                case atStart => exact ⟨0, Nat.zero_le _, rfl, Lib.hid (by simp), Below.refl _ _⟩
                case round =>
                  obtain ⟨k, hk, rfl, hany, hbel⟩ := hrel
                  have x4 := (hbel.cell (p := ⟨w.heap.size, 4, none⟩) (Array.getElem?_eq_some_iff.1 RW.out).1).trans ((cell_of_row _ _ 4 _ _ _ RW.out).trans rfl)
                  have HB1 := Lib.hid hbel
                  by_cases hlt : k < r.found.length
                  · obtain ⟨g, hge, hg, hcells⟩ := HF.out (by omega)
                    rw [hge] at x4
                    obtain ⟨⟨fo, ⟨fk, fkey, ft, fval⟩⟩, hf⟩ : ∃ f, r.found[k]? = some f := ⟨r.found[k], List.getElem?_eq_getElem hlt⟩
                    obtain ⟨s1, s2⟩ := sF.out _ (List.mem_of_getElem? hf)
                    obtain ⟨_, e1, e2, e3, e4⟩ := hcells k _ hf
                    have hgl : g < W1.heap.size := Nat.lt_of_lt_of_le hg BW.out.size
                    have d1 := (hbel.cell (p := ⟨g, k * 5 + 1, none⟩) hgl).trans e1
                    have d2 := (hbel.cell (p := ⟨g, k * 5 + 2, none⟩) hgl).trans e2
                    have d3 := (hbel.cell (p := ⟨g, k * 5 + 3, none⟩) hgl).trans e3
                    have d4 := (hbel.cell (p := ⟨g, k * 5 + 4, none⟩) hgl).trans e4
                    dsimp only at d1 d2 d3 d4 s1 s2
                    obtain ⟨y, hy⟩ : ∃ y, chk fk fkey ft fval = y := ⟨_, rfl⟩
                    have HY := Lib.hid hy
                    have HS1 := Lib.hid s1
                    have HS2 := Lib.hid s2
                    have k0 : (0 : Int) ≤ (k : Int) := by omega
                    have k1 : (k : Int) < (r.found.length : Int) := by omega
                    by_cases h0 : y = 0
                    · subst h0
                      have HNX : Hid ((r.found.take (k + 1)).any badRec = false) := Lib.hid (any_next hany.out hf (by show (chk fk fkey ft fval != 0) = false; rw [hy]; rfl))
                      clear hcells hf hy hge e1 e2 e3 e4 hbel s1 s2 hany
                      go_wp2_with (go_at_call 68; refine (refchk_is _ _ _ _ 0 _ HS1.out HS2.out HY).mono ?_; rintro e w2 ⟨rfl, hb2⟩)
                      go_roundw
                      case rel => exact ⟨k + 1, by omega, by go_num, HNX, acc HB1.out hb2⟩
                      case measure => simp [intOf]; omega
                    · have hne : (y != 0) = true := by simpa using h0
                      have HX : Hid (40 = x) := Lib.hid (by
                        rw [← HX2.out, any_hit hf (show badRec ⟨fo, ⟨fk, fkey, ft, fval⟩⟩ = true by show (chk fk fkey ft fval != 0) = true; rw [hy]; exact hne)]
                        rfl)
                      clear hcells hf hy hge e1 e2 e3 e4 hbel s1 s2 h0 hany
                      go_wp2_with (go_at_call 68; refine (refchk_is _ _ _ _ y _ HS1.out HS2.out HY).mono ?_; rintro e w2 ⟨rfl, hb2⟩)
                      go_ret
                      exact ⟨ret_int HX.out, BW.out.trans ((acc HB1.out hb2).mono BW.out.size)⟩
                  · obtain rfl : k = r.found.length := by omega
                    have HA : Hid (r.found.any badRec = false) := Lib.hid (by have := hany.out; rwa [List.take_length] at this)
                    clear hbel hk hlt hany
                    go_wp2_with fail
                    clear x4
                    obtain ⟨W2, hW2⟩ : ∃ W2 : World, W2 = wr := ⟨_, rfl⟩
                    subst hW2
                    go_loopw [7] (fun i wr => ∃ k : Nat, k ≤ r.parts.length ∧ i = .int .i64 k ∧ Hid ((r.parts.take k).any badTop = false) ∧ Below W1.heap.size W1 wr) (fun i _ => r.parts.length - (intOf i).toNat)
                    case atStart => exact ⟨0, Nat.zero_le _, rfl, Lib.hid (by simp), HB1.out⟩
                    case round =>
                      obtain ⟨k, hk, rfl, hany, hbel⟩ := hrel
                      have x5 := (hbel.cell (p := ⟨w.heap.size, 5, none⟩) (Array.getElem?_eq_some_iff.1 RW.out).1).trans ((cell_of_row _ _ 5 _ _ _ RW.out).trans rfl)
                      have HB2 := Lib.hid hbel
                      by_cases hlt : k < r.parts.length
                      · obtain ⟨g, hge, hg, hcells⟩ := HP.out (by omega)
                        rw [hge] at x5
                        obtain ⟨⟨pt, pn⟩, hf⟩ : ∃ f, r.parts[k]? = some f := ⟨r.parts[k], List.getElem?_eq_getElem hlt⟩
                        have s1 := sP.out _ (List.mem_of_getElem? hf)
                        have e0 := (hcells k _ hf).1
                        have d0 := (hbel.cell (p := ⟨g, k * 2, none⟩) (Nat.lt_of_lt_of_le hg BW.out.size)).trans e0
                        dsimp only at d0 s1
                        obtain ⟨y, hy⟩ : ∃ y, nameB pt = y := ⟨_, rfl⟩
                        have HY := Lib.hid hy
                        have HS1 := Lib.hid s1
                        have k0 : (0 : Int) ≤ (k : Int) := by omega
                        have k1 : (k : Int) < (r.parts.length : Int) := by omega
                        cases y with
                        | true =>
                          have HNX : Hid ((r.parts.take (k + 1)).any badTop = false) := Lib.hid (any_next hany.out hf (by show (!nameB pt) = false; rw [hy]; rfl))
                          clear hcells hf hy hge e0 hbel s1 hany
                          go_wp2_with (go_at_call 16; refine (rnam_is _ _ _ HS1.out HY).mono ?_; rintro e w2 ⟨rfl, rfl⟩)
                          go_roundw
                          case rel => exact ⟨k + 1, by omega, by go_num, HNX, HB2.out⟩
                          case measure => simp [intOf]; omega
                        | false =>
                          have HX : Hid (40 = x) := Lib.hid (by
                            rw [← HX2.out, any_hit hf (show badTop ⟨pt, pn⟩ = true by show (!nameB pt) = true; rw [hy]; rfl), Bool.or_true]
                            rfl)
                          clear hcells hf hy hge e0 hbel s1 hany
                          go_wp2_with (go_at_call 16; refine (rnam_is _ _ _ HS1.out HY).mono ?_; rintro e w2 ⟨rfl, rfl⟩)
                          go_ret
                          exact ⟨ret_int HX.out, BW.out.trans (HB2.out.mono BW.out.size)⟩
                      · obtain rfl : k = r.parts.length := by omega
                        have HX : Hid (0 = x) := Lib.hid (by have := hany.out; rw [List.take_length] at this; rw [← HX2.out, HA.out, this]; rfl)
                        clear hbel hk hlt hany
                        go_wp2_with fail
                        go_ret
                        exact ⟨ret_int HX.out, BW.out.trans (HB2.out.mono BW.out.size)⟩
end Go.Proofs.Ytlhkhccpeohefaa.L4
