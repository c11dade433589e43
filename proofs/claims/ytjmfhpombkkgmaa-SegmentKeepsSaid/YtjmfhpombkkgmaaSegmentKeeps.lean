/-
  Proved: what is kept is there as it was, in order, the rest is not; base and next stay, and what comes then has further offsets (of at most 40 records). No condition.
-/
import Derived.Test.YtjmfhpombkkgmaaRows
import Derived.WalkKit
import Derived.ProofKit
import Derived.OpenShut
import Derived.ShutString
import Derived.ChangeOld
import Derived.Below
import Derived.Test.YtjmfhpombkkgmaaSegOpen
import Derived.Deep.QuietTactic
import Derived.BigQuiet
import Derived.LoopTactic
import Derived.Deep.Cut
namespace Go.Proofs.Ytjmfhpombkkgmaa.segmentKeeps
open Go.ChangeShapes Go.WideShapes Go.ChangeAt Go.RowKit
open Go.ChangeMaps (open_string shut_string)
open L3 L4 L5

theorem own : ownKnob Try.prog.godebug = none := by kernel_rfl
theorem laidOut : laidOutB Try.prog = true := by kernel_rfl


theorem mask (x : Int) : 0 ≤ bits .and .i64 x 65535 ∧ bits .and .i64 x 65535 ≤ 65535 := by
  have e : (BitVec.ofInt 64 x &&& BitVec.ofInt 64 65535).toNat ≤ 65535 := by
    rw [BitVec.toNat_and]
    exact Nat.le_trans Nat.and_le_right (by decide)
  show 0 ≤ IntKind.i64.wrap ((BitVec.ofInt 64 x &&& BitVec.ofInt 64 65535).toNat : Int) ∧ IntKind.i64.wrap ((BitVec.ofInt 64 x &&& BitVec.ofInt 64 65535).toNat : Int) ≤ 65535
  rw [IntKind.wrap_i64]
  omega
/-- so many records, from an offset on -/
def VL (b : Int) (k : Nat) : List L4.Fd := numbered b (List.replicate k rV)
theorem VL_len (b : Int) (k : Nat) : (VL b k).length = k := by unfold VL; rw [numbered_len, List.length_replicate]
theorem VL_next (b : Int) (k : Nat) : VL b k ++ numbered (b + k) [rV] = VL b (k + 1) := by
  unfold VL
  rw [List.replicate_succ', numbered_app, List.length_replicate]
theorem VL_rise (b : Int) (k : Nat) : riseB b (b + k) (VL b k) = true := by
  have := numbered_rise b (List.replicate k rV)
  rwa [List.length_replicate] at this
theorem app_one {next : Int} {k : Nat} (h1 : k < 64) (h2 : next < 1099511627776) : appE next k [rV] = 0 := by
  unfold appE
  have h : chkL [rV] = 0 := by decide
  rw [h, if_neg (by simp), if_neg (by simp; omega)]
theorem reads_v {W : World} {g : Nat} (h : W.heap[g]? = some (.cells #[.bool false, .string ⟨#[]⟩, .bool false, .string ⟨#[118]⟩] 41 (0, 0))) : Reads W (g + 1) (some ⟨g, 0, none⟩) [rV] := reads_rows h rfl
theorem wrap_seven {q : Nat} (h : q ≤ 40) : wrap64 (7 + (q : Int)) = 7 + (q : Int) := by simp only [wrap64]; omega
theorem wrap_less {q m d : Nat} (h : q ≤ 40) (h1 : m ≤ q) (h2 : q - m = d) : wrap64 ((q : Int) - (m : Int)) = (d : Int) ∧ (q : Int) - (m : Int) = (d : Int) := by
  have e : (q : Int) - (m : Int) = (d : Int) := by omega
  refine ⟨?_, e⟩
  rw [e]; simp only [wrap64]; omega
theorem reads_own {w : World} {base : Nat} {T : TypeId} {A : Option Addr} {m c : Nat} {M : List L4.Fd} (hm : M.length = m) (h : w.ownsRow base T 5 (.slice A m c) m (rowF M)) : ReadsF w w.heap.size A M := by
  subst hm; exact ReadsF.own h
theorem found_same (A A' : Option Addr) (M : List L4.Fd) (m c c' : Nat) (w : World) (hR : Hid (ReadsF w w.heap.size A M)) (hR' : Hid (ReadsF w w.heap.size A' M)) (hm : M.length = m) (hl : m ≤ maxLen) :
    Calls Try.prog 14 #[.slice A m c, .slice A' m c'] w fun e w' => e = .returned (.bool true) ∧ Below w.heap.size w w' := by
  subst hm
  exact rfound_is A A' M M c c' w.heap.size true w hR hR' (Nat.le_refl _) hl (Lib.hid (by simp))
/-- what was kept is read, as many as there are, ahead of one that came then -/
theorem read_kept {b n : Int} {W : List L4.Fd} {f : L4.Fd} (h : riseB b n (W ++ [f]) = true) (hb : 0 ≤ b) : readL (W ++ [f]) 0 W.length = W := by
  unfold readL
  rw [List.filter_eq_self.2 (fun g hg => by have := rise_mem h g hg; simp; omega), Int.toNat_natCast, List.take_left]
theorem own_cells {w : World} {base : Nat} {T : TypeId} {xb n c r : Nat} {X : List L4.Fd} {f : L4.Fd} (h : w.ownsRow base T 5 (.slice (some ⟨xb, 0, none⟩) n c) n (rowF X)) (hf : X[r]? = some f) :
    w.cell? ⟨xb, r * 5, none⟩ = some (.int .i64 f.o) ∧ w.cell? ⟨xb, r * 5 + 1, none⟩ = some (.bool f.r.hk) ∧ w.cell? ⟨xb, r * 5 + 2, none⟩ = some (.string f.r.key) ∧ w.cell? ⟨xb, r * 5 + 3, none⟩ = some (.bool f.r.tb) ∧ w.cell? ⟨xb, r * 5 + 4, none⟩ = some (.string f.r.val) := by
  obtain ⟨a, b, c, d, e⟩ := rowF_at X r f hf
  have q := fun j v hv => h.cells (g := xb) rfl j v hv
  have q0 := q _ _ a; have q1 := q _ _ b; have q2 := q _ _ c; have q3 := q _ _ d; have q4 := q _ _ e
  rw [addr_add] at q0 q1 q2 q3 q4
  exact ⟨q0, q1, q2, q3, q4⟩

set_option maxRecDepth 100000 in
set_option maxHeartbeats 8000000 in
theorem walk (w : World) (a0 : Int) (_ : (Lit.int .i64 a0).wf = true) (A1 : Option Addr) (l1 : List Int) (c1 : Nat) (R1 : IsNums w A1 l1 ∧ l1.length ≤ c1) :
    Calls Try.prog 7 #[.int .i64 a0, .slice A1 l1.length c1] w fun e w' => e = .returned (.bool true) ∧ Below w.heap.size w w' := by
  obtain ⟨i0, hi0, hz0, hz1, hz2⟩ := info_parts fdInfo
  obtain ⟨b, hbm⟩ : ∃ b, bits .and .i64 a0 65535 = b := ⟨_, rfl⟩
  have hb := mask a0
  rw [hbm] at hb
  obtain ⟨b0, b1⟩ := hb
  obtain ⟨k, hk⟩ : ∃ k : Nat, b % 41 = (k : Int) := ⟨(b % 41).toNat, by omega⟩
  have k40 : k ≤ 40 := by omega
  have ek : wrap64 (b.tmod 41) = (k : Int) := by rw [Int.tmod_eq_emod_of_nonneg b0, hk]; simp only [wrap64]; omega
  have ek2 : b % 41 = (k : Int) := hk
  have ek3 : b.tmod 41 = (k : Int) := by rw [Int.tmod_eq_emod_of_nonneg b0]; exact hk
  obtain ⟨n, hn⟩ : ∃ n, l1.length = n := ⟨_, rfl⟩
  have hnm : n ≤ maxLen := by rw [← hn]; exact R1.1.2.2
  have hnc : n ≤ c1 := by rw [← hn]; exact R1.2
  unfold maxLen at hnm
  obtain ⟨ms, hms⟩ : ∃ ms, min n 60 = ms := ⟨_, rfl⟩
  have hmi : min (n : Int) 60 = (ms : Int) := by omega
  have hs60 : ms ≤ 60 := by omega
  have hsn : ms ≤ n := by omega
  have hsc : ms ≤ c1 := by omega
  obtain ⟨S, hS⟩ : ∃ S, l1.take ms = S := ⟨_, rfl⟩
  have HSL : Hid (S.length = ms) := Lib.hid (by rw [← hS, List.length_take]; omega)
  have HSR : Hid (0 < ms → ∃ g o, A1 = some ⟨g, o, none⟩ ∧ g < w.heap.size ∧ ∀ i x, S[i]? = some x → w.cell? ⟨g, o + i, none⟩ = some (.int .i64 x)) := Lib.hid (fun h0 => by
    obtain ⟨g, o, e, hg, hc⟩ := R1.1.1.out.reads (by omega)
    refine ⟨g, o, e, hg, fun i x hx => hc i x ?_⟩
    rw [← hS] at hx
    have hi := (List.getElem?_eq_some_iff.1 hx).1
    rw [List.length_take] at hi
    rwa [List.getElem?_take_of_lt (by omega)] at hx)
  have HWF : Hid (∀ x ∈ S, (Lit.int .i64 x).wf = true) := Lib.hid (fun x hx => R1.1.2.1.out x (List.mem_of_mem_take (by rw [hS]; exact hx)))
  have N7 : Hid (newE 7 = 0) := Lib.hid (by decide)
  have SMV : Hid (∀ r ∈ [rV], r.key.size ≤ maxLen ∧ r.val.size ≤ maxLen) := Lib.hid (by decide)
  rw [hn]
  clear hn R1 hms hS hk
  go_enter Try.func7, Try.ntmps7
  go_wp2_with (go_at_call 8; refine (new_ok 7 w w (Lib.hid (Below.refl _ _)) N7).mono ?_; rintro e w1 ⟨g, rfl, hm1⟩; have M1 := Lib.hid hm1; clear hm1)
  clear ek ek2 ek3
  go_loopw [8] (fun i wr => ∃ j : Nat, j ≤ k ∧ i = .int .i64 j ∧ Hid (Mine 69 w wr.heap.size wr g 7 (7 + j) (VL 7 j))) (fun i _ => k - (intOf i).toNat)
  case atStart => exact ⟨0, by omega, rfl, Lib.hid (by have := M1.out; simpa [VL, numbered] using this)⟩
  case round =>
    obtain ⟨j, hjk, rfl, hM⟩ := hrel
    have hl64 : (VL 7 j).length ≤ 64 := by rw [VL_len]; omega
    have HL64 := Lib.hid hl64
    clear hl64
    by_cases hlt : j < k
    · have AE : Hid (appE (7 + j) (VL 7 j).length [rV] = 0) := Lib.hid (by rw [VL_len]; exact app_one (by omega) (by omega))
      go_wp2_with (first
        | (go_at_call 11; have _q := M2; refine (mine_append (Lib.hid (M2.out.below' (one_box _))) (some ⟨w2.heap.size, 0, none⟩) [rV] 1 1 (w2.heap.size + 1) HL64.out (by omega) (by omega) (Lib.hid (reads_v (heap_alloc_new w2 _))) (Lib.hid (fun k e => .inl (by injection e with e; have := M2.out.1; subst e; exact this))) (by simp) rfl (by decide) SMV AE).mono ?_; rintro e w3 ⟨rfl, hm3, _⟩; have M3 := Lib.hid hm3; clear hm3)
        | (go_at_call 19; refine (v_any _).mono ?_; rintro e w2 ⟨rfl, hb2⟩; have M2 := Lib.hid (hM.out.below' hb2)))
      go_roundw
      case rel => exact ⟨j + 1, by omega, by go_num, Lib.hid (by have := M3.out; rw [VL_next] at this; simpa [Int.add_assoc] using this)⟩
      case measure => simp [intOf]; omega
    · obtain rfl : j = k := by omega
      have HVL := Lib.hid (VL_len 7 j)
      have HRI := Lib.hid (VL_rise 7 j)
      have HOF : Hid (∀ f ∈ VL 7 j, 0 ≤ f.o ∧ f.o ≤ 1099511627776) := Lib.hid (fun f hf => by have := rise_mem HRI.out f hf; omega)
      have HRS : Hid (∀ W', Below w.heap.size w W' → ReadsI W' w.heap.size A1 S) := Lib.hid (fun W' hb h0 => by
        obtain ⟨g, o, e, hg, hc⟩ := HSR.out (by rw [← HSL.out]; exact h0)
        exact ⟨g, o, e, hg, fun i x hx => (hb.cell (p := ⟨g, o + i, none⟩) hg).trans (hc i x hx)⟩)
      cases A1 with
      | none =>
        obtain ⟨mw, hmw⟩ : ∃ mw, (keepL (VL 7 j) S).length = mw := ⟨_, rfl⟩
        have HMW := Lib.hid hmw
        have hmj : mw ≤ j := by rw [← hmw]; have := keep_le S (VL 7 j); rw [VL_len] at this; exact this
        obtain ⟨dd, hdd⟩ : ∃ dd, j - mw = dd := ⟨_, rfl⟩
        have HDD := Lib.hid hdd
        clear hmw hdd
        go_wp2_with (first
          | (go_at_call 16; have _q := M4; refine (mine_keep M4 _ S ms c1 w4.heap.size HL64.out HOF (Lib.hid ((HRS.out _ M4.out.old).mono M4.out.old.size)) (Nat.le_refl _) HSL.out (by omega) HWF).mono ?_; rintro e w5 ⟨rfl, hm5, ho5⟩; rw [HVL.out, HMW.out, HDD.out]; have M5 := Lib.hid hm5; have O5 := Lib.hid (ho5.own O4.out (Nat.le_refl _)); clear hm5 ho5)
          | (go_at_call 24; refine (mine_all hM HL64.out).mono ?_; rintro e w4 ⟨A4, c4, rfl, hown4, hb4⟩; rw [HVL.out] at hown4 ⊢; have M4 := Lib.hid (hM.out.below' hb4); have O4 := Lib.hid hown4; clear hown4))
        go_loopw [12, 13] (fun v i wr => ∃ (q m : Nat) (A6 : Option Addr) (c6 : Nat), q ≤ j ∧ m ≤ q ∧ i = .int .i64 q ∧ v = .slice A6 m c6 ∧ Hid ((keepL ((VL 7 j).take q) S).length = m) ∧ Hid (wr.ownsRow w5.heap.size 43 5 (.slice A6 m c6) m (rowF (keepL ((VL 7 j).take q) S))) ∧ Below w5.heap.size w5 wr) (fun _ i _ => j - (intOf i).toNat)
        case atStart => exact ⟨0, 0, some ⟨w5.heap.size, 0, none⟩, 0, by omega, by omega, rfl, rfl, Lib.hid (by simp [keepL]), Lib.hid (by simpa [keepL, rowF] using World.ownsRow_made (size := 5) w5 #[] 0 (Nat.le_refl _) (by unfold maxLen; omega) rfl), one_box _⟩
        case round =>
          obtain ⟨q, m, A6, c6, hq, hmq, rfl, rfl, hm, hown, hbel⟩ := hrel
          by_cases hlt : q < j
          · have o6 := own_below O5.out hbel
            obtain ⟨xb, xc, hxv, _, hxl⟩ := o6.form (by omega)
            injection hxv with e1 e2 e3
            subst e1 e3
            obtain ⟨⟨o, ⟨rk, key, tb, val⟩⟩, hf⟩ : ∃ s, (VL 7 j)[q]? = some s := ⟨_, List.getElem?_eq_getElem (by rw [HVL.out]; omega)⟩
            obtain ⟨d0, d1, d2, d3, d4⟩ := own_cells o6 hf
            have HNX := Lib.hid (keep_next (s := S) hf)
            have k0 : (0 : Int) ≤ (q : Int) := by omega
            have k1 : (q : Int) < (j : Int) := by omega
            clear hf o6
            dsimp only at d0 d1 d2 d3 d4
            have D := Lib.hid (And.intro d0 (And.intro d1 (And.intro d2 (And.intro d3 d4))))
            clear d0 d1 d2 d3 d4
            go_wp2_with fail
            go_loopw [14, 15] (fun v i wi => ∃ (t : Nat) (y : Bool), t ≤ ms ∧ i = .int .i64 t ∧ v = .bool y ∧ Hid (decide (o ∈ S.take t) = y) ∧ Below wr.heap.size wr wi) (fun _ i _ => ms - (intOf i).toNat)
            case atStart => exact ⟨0, false, by omega, rfl, rfl, Lib.hid (by simp), Below.refl _ _⟩
            case round =>
              obtain ⟨t, y, ht, rfl, rfl, hy, hbi⟩ := hrel
              have d0 := (hbi.cell (p := ⟨xb, q * 5, none⟩) hxl).trans D.out.1
              by_cases htl : t < ms
              · obtain ⟨sg, so, e, hsg, hsc⟩ := HRS.out _ (M5.out.old.trans ((hbel.trans (hbi.mono hbel.size)).mono M5.out.old.size)) (by rw [HSL.out]; omega)
                cases e
              · obtain rfl : t = ms := by omega
                have hy' := hy.out
                rw [List.take_of_length_le (by rw [HSL.out]; omega)] at hy'
                have HY := Lib.hid hy'
                have hbw := hbel.trans (hbi.mono hbel.size)
                have HO := Lib.hid (own_below hown.out hbi)
                have d1 := (hbi.cell (p := ⟨xb, q * 5 + 1, none⟩) hxl).trans D.out.2.1
                have d2 := (hbi.cell (p := ⟨xb, q * 5 + 2, none⟩) hxl).trans D.out.2.2.1
                have d3 := (hbi.cell (p := ⟨xb, q * 5 + 3, none⟩) hxl).trans D.out.2.2.2.1
                have d4 := (hbi.cell (p := ⟨xb, q * 5 + 4, none⟩) hxl).trans D.out.2.2.2.2
                have hz := hbw.size
                clear hy'
                cases y
                · have HNX2 : Hid (keepL ((VL 7 j).take (q + 1)) S = keepL ((VL 7 j).take q) S) := Lib.hid (by rw [HNX.out, if_neg (of_decide_eq_false HY.out), List.append_nil])
                  go_wp2_with fail
                  go_roundw
                  case rel => exact ⟨q + 1, m, A6, c6, by omega, by omega, by go_num, rfl, Lib.hid (by rw [HNX2.out]; exact hm.out), Lib.hid (by rw [HNX2.out]; exact HO.out), hbw⟩
                  case measure => simp [intOf]; omega
                · have HNX2 : Hid (keepL ((VL 7 j).take (q + 1)) S = keepL ((VL 7 j).take q) S ++ [⟨o, ⟨rk, key, tb, val⟩⟩]) := Lib.hid (by rw [HNX.out, if_pos (of_decide_eq_true HY.out)])
                  go_wp2_with (at_builtin; refine wpList_append_own _ rfl _ _ 37 (by rfl) w5.heap.size 43 i0 _ 5 56 Try.underlying37 hi0 hz0 hz1 hz2 rfl (by omega) _ m _ (by rfl) (HO.out.alloc _) ⟨_, 0, none⟩ 1 1 [.int .i64 o, .bool rk, .string key, .bool tb, .string val] (by rfl) (by rfl) (World.news_of_block (cs := #[.int .i64 o, .bool rk, .string key, .bool tb, .string val]) (t := 43) (fr := (0, 0)) (heap_alloc_new _ _)) (by simp [Value.oneCell']) (by unfold maxLen; omega) (by omega) (by simp; omega) ?_; intro v1 w7 hown1 hgrow1 hnil1)
                  obtain ⟨A7, c7, rfl⟩ := own_form hown1
                  go_roundw
                  case rel =>
                    refine ⟨q + 1, m + 1, A7, c7, by omega, by omega, by go_num, rfl, Lib.hid ?_, Lib.hid ?_, (hbw.alloc hz _).grown hgrow1 (by simp; omega) (fun j e => (HO.out.lt j e).1)⟩
                    · rw [HNX2.out, List.length_append, hm.out]; rfl
                    · rw [HNX2.out, rowF_app]; exact hown1
                  case measure => simp [intOf]; omega
          · obtain rfl : q = j := by omega
            have ht : (VL 7 q).take q = VL 7 q := List.take_of_length_le (by rw [HVL.out]; omega)
            have hm' := hm.out
            have ho' := hown.out
            rw [ht] at hm' ho'
            obtain rfl : mw = m := HMW.out.symm.trans hm'
            have O6 := Lib.hid ho'
            have M6 := Lib.hid (M5.out.below' hbel)
            have AE : Hid (appE (7 + q) (keepL (VL 7 q) S).length [rV] = 0) := Lib.hid (by rw [HMW.out]; exact app_one (by omega) (by omega))
            have HWL : Hid ((keepL (VL 7 q) S).length ≤ 64) := Lib.hid (by rw [HMW.out]; omega)
            have hrise : riseB 7 (7 + q + 1) (keepL (VL 7 q) S ++ numbered (7 + q) [rV]) = true := rise_app (rise_filter _ HRI.out) (by omega) (by omega) (by have := numbered_rise (7 + (q : Int)) [rV]; simpa using this)
            have HRD : Hid (readL (keepL (VL 7 q) S ++ numbered (7 + q) [rV]) 0 mw = keepL (VL 7 q) S) := Lib.hid (by rw [← HMW.out]; exact read_kept hrise (by omega))
            have HRW : Hid (riseB 7 (7 + q + [rV].length) (keepL (VL 7 q) S ++ numbered (7 + q) [rV]) = true) := Lib.hid hrise
            have HWL2 : Hid ((keepL (VL 7 q) S ++ numbered (7 + q) [rV]).length ≤ 64) := Lib.hid (by rw [List.length_append, HMW.out, numbered_len]; simp; omega)
            have u1 := wrap_seven (q := q) (by omega)
            obtain ⟨u2, u3⟩ := wrap_less (by omega : q ≤ 40) hmj HDD.out
            have U1 := Lib.hid u1
            have U2 := Lib.hid u2
            have U3 := Lib.hid u3
            clear hm' ho' ht hrise u1 u2 u3 hnm hmi HWF b0 b1 hbm
            go_upto_region 25 with (first
              | (go_at_call 11; have _q := M8; refine (mine_append (Lib.hid (M8.out.below' (one_box _))) (some ⟨w8.heap.size, 0, none⟩) [rV] 1 1 (w8.heap.size + 1) HWL.out (by omega) (by omega) (Lib.hid (reads_v (heap_alloc_new w8 _))) (Lib.hid (fun k e => .inl (by injection e with e; have := M8.out.1; subst e; exact this))) (by simp) rfl (by decide) SMV AE).mono ?_; rintro e w9 ⟨rfl, hm9, ho9⟩; have M9 := Lib.hid hm9; have P9 := Lib.hid (ho9.own (own_below P8.out (one_box _)) (Nat.le_refl _)); clear hm9 ho9)
              | (go_at_call 19; have _q := M7; refine (v_any _).mono ?_; rintro e w8 ⟨rfl, hb8⟩; have M8 := Lib.hid (M7.out.below' hb8); have P8 := Lib.hid (own_below P7.out hb8))
              | (go_at_call 27; refine (mine_span M6).mono ?_; rintro e w7 ⟨rfl, hb7⟩; have M7 := Lib.hid (M6.out.below' hb7); have P7 := Lib.hid (own_below O6.out hb7)))
            have u1 := U1.out
            have u2 := U2.out
            have u3 := U3.out
            go_wp2_with (first
              | (go_at_call 21; have _q := MB; refine (fixed5_any _).mono ?_; rintro e wz ⟨rfl, hbz⟩)
              | (go_at_call 14; have _q := MA; refine (found_same AA A6 (keepL (VL 7 q) S) mw cA c6 _ (Lib.hid (reads_own HMW.out OA.out)) (Lib.hid (reads_own HMW.out PA.out)) HMW.out (by unfold maxLen; omega)).mono ?_; rintro e wb ⟨rfl, hbb⟩; have MB := Lib.hid (MA.out.below' hbb))
              | (go_at_call 13; have _q := M9; refine (mine_read M9 0 mw HWL2.out HRW).mono ?_; rw [HRD.out]; rintro e wa ⟨AA, cA, rfl, hownA, hbA⟩; rw [HMW.out] at hownA ⊢; have MA := Lib.hid (M9.out.below' hbA); have OA := Lib.hid hownA; have PA := Lib.hid (own_below P9.out hbA); clear hownA))
            go_ret
            exact ⟨rfl, MB.out.old.trans (hbz.mono MB.out.old.size)⟩
      | some x =>
        obtain ⟨mw, hmw⟩ : ∃ mw, (keepL (VL 7 j) S).length = mw := ⟨_, rfl⟩
        have HMW := Lib.hid hmw
        have hmj : mw ≤ j := by rw [← hmw]; have := keep_le S (VL 7 j); rw [VL_len] at this; exact this
        obtain ⟨dd, hdd⟩ : ∃ dd, j - mw = dd := ⟨_, rfl⟩
        have HDD := Lib.hid hdd
        clear hmw hdd
        go_wp2_with (first
          | (go_at_call 16; have _q := M4; refine (mine_keep M4 _ S ms c1 w4.heap.size HL64.out HOF (Lib.hid ((HRS.out _ M4.out.old).mono M4.out.old.size)) (Nat.le_refl _) HSL.out (by omega) HWF).mono ?_; rintro e w5 ⟨rfl, hm5, ho5⟩; rw [HVL.out, HMW.out, HDD.out]; have M5 := Lib.hid hm5; have O5 := Lib.hid (ho5.own O4.out (Nat.le_refl _)); clear hm5 ho5)
          | (go_at_call 24; refine (mine_all hM HL64.out).mono ?_; rintro e w4 ⟨A4, c4, rfl, hown4, hb4⟩; rw [HVL.out] at hown4 ⊢; have M4 := Lib.hid (hM.out.below' hb4); have O4 := Lib.hid hown4; clear hown4))
        go_loopw [12, 13] (fun v i wr => ∃ (q m : Nat) (A6 : Option Addr) (c6 : Nat), q ≤ j ∧ m ≤ q ∧ i = .int .i64 q ∧ v = .slice A6 m c6 ∧ Hid ((keepL ((VL 7 j).take q) S).length = m) ∧ Hid (wr.ownsRow w5.heap.size 43 5 (.slice A6 m c6) m (rowF (keepL ((VL 7 j).take q) S))) ∧ Below w5.heap.size w5 wr) (fun _ i _ => j - (intOf i).toNat)
        case atStart => exact ⟨0, 0, some ⟨w5.heap.size, 0, none⟩, 0, by omega, by omega, rfl, rfl, Lib.hid (by simp [keepL]), Lib.hid (by simpa [keepL, rowF] using World.ownsRow_made (size := 5) w5 #[] 0 (Nat.le_refl _) (by unfold maxLen; omega) rfl), one_box _⟩
        case round =>
          obtain ⟨q, m, A6, c6, hq, hmq, rfl, rfl, hm, hown, hbel⟩ := hrel
          by_cases hlt : q < j
          · have o6 := own_below O5.out hbel
            obtain ⟨xb, xc, hxv, _, hxl⟩ := o6.form (by omega)
            injection hxv with e1 e2 e3
            subst e1 e3
            obtain ⟨⟨o, ⟨rk, key, tb, val⟩⟩, hf⟩ : ∃ s, (VL 7 j)[q]? = some s := ⟨_, List.getElem?_eq_getElem (by rw [HVL.out]; omega)⟩
            obtain ⟨d0, d1, d2, d3, d4⟩ := own_cells o6 hf
            have HNX := Lib.hid (keep_next (s := S) hf)
            have k0 : (0 : Int) ≤ (q : Int) := by omega
            have k1 : (q : Int) < (j : Int) := by omega
            clear hf o6
            dsimp only at d0 d1 d2 d3 d4
            have D := Lib.hid (And.intro d0 (And.intro d1 (And.intro d2 (And.intro d3 d4))))
            clear d0 d1 d2 d3 d4
            go_wp2_with fail
            go_loopw [14, 15] (fun v i wi => ∃ (t : Nat) (y : Bool), t ≤ ms ∧ i = .int .i64 t ∧ v = .bool y ∧ Hid (decide (o ∈ S.take t) = y) ∧ Below wr.heap.size wr wi) (fun _ i _ => ms - (intOf i).toNat)
            case atStart => exact ⟨0, false, by omega, rfl, rfl, Lib.hid (by simp), Below.refl _ _⟩
            case round =>
              obtain ⟨t, y, ht, rfl, rfl, hy, hbi⟩ := hrel
              have d0 := (hbi.cell (p := ⟨xb, q * 5, none⟩) hxl).trans D.out.1
              by_cases htl : t < ms
              · obtain ⟨sg, so, e, hsg, hsc⟩ := HRS.out _ (M5.out.old.trans ((hbel.trans (hbi.mono hbel.size)).mono M5.out.old.size)) (by rw [HSL.out]; omega)
                injection e with e
                subst e
                obtain ⟨x, hx⟩ : ∃ x, S[t]? = some x := ⟨_, List.getElem?_eq_getElem (by rw [HSL.out]; exact htl)⟩
                have e0 := hsc t x hx
                have t0 : (0 : Int) ≤ (t : Int) := by omega
                have t1 : (t : Int) < (ms : Int) := by omega
                have hmem : (o ∈ S.take (t + 1)) ↔ (o ∈ S.take t ∨ x = o) := by
                  rw [List.take_add_one, hx]; simp [eq_comm]
                have HMEM := Lib.hid hmem
                clear hsc hx hmem
                cases y
                · by_cases hxo : x = o
                  · have q1 : (x == o) = true := by simpa using hxo
                    have HY : Hid (decide (o ∈ S.take (t + 1)) = true) := Lib.hid (decide_eq_true (HMEM.out.2 (.inr hxo)))
                    clear hxo
                    go_wp2_with fail
                    go_quiet (fail)
                    go_wp2_with fail
                    go_roundw
                    case rel => exact ⟨t + 1, true, by omega, by go_num, rfl, HY, drewN_below hbi _⟩
                    case measure => simp [intOf]; omega
                  · have q1 : (x == o) = false := by simpa using hxo
                    have HY : Hid (decide (o ∈ S.take (t + 1)) = false) := Lib.hid (decide_eq_false (fun h => by
                      rcases HMEM.out.1 h with h | h
                      · exact absurd h (of_decide_eq_false hy.out)
                      · exact hxo h))
                    clear hxo
                    go_wp2_with fail
                    go_quiet (fail)
                    go_wp2_with fail
                    go_roundw
                    case rel => exact ⟨t + 1, false, by omega, by go_num, rfl, HY, drewN_below hbi _⟩
                    case measure => simp [intOf]; omega
                · have HY : Hid (decide (o ∈ S.take (t + 1)) = true) := Lib.hid (decide_eq_true (HMEM.out.2 (.inl (of_decide_eq_true hy.out))))
                  go_wp2_with fail
                  go_quiet (fail)
                  go_wp2_with fail
                  go_roundw
                  case rel => exact ⟨t + 1, true, by omega, by go_num, rfl, HY, drewN_below hbi _⟩
                  case measure => simp [intOf]; omega
              · obtain rfl : t = ms := by omega
                have hy' := hy.out
                rw [List.take_of_length_le (by rw [HSL.out]; omega)] at hy'
                have HY := Lib.hid hy'
                have hbw := hbel.trans (hbi.mono hbel.size)
                have HO := Lib.hid (own_below hown.out hbi)
                have d1 := (hbi.cell (p := ⟨xb, q * 5 + 1, none⟩) hxl).trans D.out.2.1
                have d2 := (hbi.cell (p := ⟨xb, q * 5 + 2, none⟩) hxl).trans D.out.2.2.1
                have d3 := (hbi.cell (p := ⟨xb, q * 5 + 3, none⟩) hxl).trans D.out.2.2.2.1
                have d4 := (hbi.cell (p := ⟨xb, q * 5 + 4, none⟩) hxl).trans D.out.2.2.2.2
                have hz := hbw.size
                clear hy'
                cases y
                · have HNX2 : Hid (keepL ((VL 7 j).take (q + 1)) S = keepL ((VL 7 j).take q) S) := Lib.hid (by rw [HNX.out, if_neg (of_decide_eq_false HY.out), List.append_nil])
                  go_wp2_with fail
                  go_roundw
                  case rel => exact ⟨q + 1, m, A6, c6, by omega, by omega, by go_num, rfl, Lib.hid (by rw [HNX2.out]; exact hm.out), Lib.hid (by rw [HNX2.out]; exact HO.out), hbw⟩
                  case measure => simp [intOf]; omega
                · have HNX2 : Hid (keepL ((VL 7 j).take (q + 1)) S = keepL ((VL 7 j).take q) S ++ [⟨o, ⟨rk, key, tb, val⟩⟩]) := Lib.hid (by rw [HNX.out, if_pos (of_decide_eq_true HY.out)])
                  go_wp2_with (at_builtin; refine wpList_append_own _ rfl _ _ 37 (by rfl) w5.heap.size 43 i0 _ 5 56 Try.underlying37 hi0 hz0 hz1 hz2 rfl (by omega) _ m _ (by rfl) (HO.out.alloc _) ⟨_, 0, none⟩ 1 1 [.int .i64 o, .bool rk, .string key, .bool tb, .string val] (by rfl) (by rfl) (World.news_of_block (cs := #[.int .i64 o, .bool rk, .string key, .bool tb, .string val]) (t := 43) (fr := (0, 0)) (heap_alloc_new _ _)) (by simp [Value.oneCell']) (by unfold maxLen; omega) (by omega) (by simp; omega) ?_; intro v1 w7 hown1 hgrow1 hnil1)
                  obtain ⟨A7, c7, rfl⟩ := own_form hown1
                  go_roundw
                  case rel =>
                    refine ⟨q + 1, m + 1, A7, c7, by omega, by omega, by go_num, rfl, Lib.hid ?_, Lib.hid ?_, (hbw.alloc hz _).grown hgrow1 (by simp; omega) (fun j e => (HO.out.lt j e).1)⟩
                    · rw [HNX2.out, List.length_append, hm.out]; rfl
                    · rw [HNX2.out, rowF_app]; exact hown1
                  case measure => simp [intOf]; omega
          · obtain rfl : q = j := by omega
            have ht : (VL 7 q).take q = VL 7 q := List.take_of_length_le (by rw [HVL.out]; omega)
            have hm' := hm.out
            have ho' := hown.out
            rw [ht] at hm' ho'
            obtain rfl : mw = m := HMW.out.symm.trans hm'
            have O6 := Lib.hid ho'
            have M6 := Lib.hid (M5.out.below' hbel)
            have AE : Hid (appE (7 + q) (keepL (VL 7 q) S).length [rV] = 0) := Lib.hid (by rw [HMW.out]; exact app_one (by omega) (by omega))
            have HWL : Hid ((keepL (VL 7 q) S).length ≤ 64) := Lib.hid (by rw [HMW.out]; omega)
            have hrise : riseB 7 (7 + q + 1) (keepL (VL 7 q) S ++ numbered (7 + q) [rV]) = true := rise_app (rise_filter _ HRI.out) (by omega) (by omega) (by have := numbered_rise (7 + (q : Int)) [rV]; simpa using this)
            have HRD : Hid (readL (keepL (VL 7 q) S ++ numbered (7 + q) [rV]) 0 mw = keepL (VL 7 q) S) := Lib.hid (by rw [← HMW.out]; exact read_kept hrise (by omega))
            have HRW : Hid (riseB 7 (7 + q + [rV].length) (keepL (VL 7 q) S ++ numbered (7 + q) [rV]) = true) := Lib.hid hrise
            have HWL2 : Hid ((keepL (VL 7 q) S ++ numbered (7 + q) [rV]).length ≤ 64) := Lib.hid (by rw [List.length_append, HMW.out, numbered_len]; simp; omega)
            have u1 := wrap_seven (q := q) (by omega)
            obtain ⟨u2, u3⟩ := wrap_less (by omega : q ≤ 40) hmj HDD.out
            have U1 := Lib.hid u1
            have U2 := Lib.hid u2
            have U3 := Lib.hid u3
            clear hm' ho' ht hrise u1 u2 u3 hnm hmi HWF b0 b1 hbm
            go_upto_region 25 with (first
              | (go_at_call 11; have _q := M8; refine (mine_append (Lib.hid (M8.out.below' (one_box _))) (some ⟨w8.heap.size, 0, none⟩) [rV] 1 1 (w8.heap.size + 1) HWL.out (by omega) (by omega) (Lib.hid (reads_v (heap_alloc_new w8 _))) (Lib.hid (fun k e => .inl (by injection e with e; have := M8.out.1; subst e; exact this))) (by simp) rfl (by decide) SMV AE).mono ?_; rintro e w9 ⟨rfl, hm9, ho9⟩; have M9 := Lib.hid hm9; have P9 := Lib.hid (ho9.own (own_below P8.out (one_box _)) (Nat.le_refl _)); clear hm9 ho9)
              | (go_at_call 19; have _q := M7; refine (v_any _).mono ?_; rintro e w8 ⟨rfl, hb8⟩; have M8 := Lib.hid (M7.out.below' hb8); have P8 := Lib.hid (own_below P7.out hb8))
              | (go_at_call 27; refine (mine_span M6).mono ?_; rintro e w7 ⟨rfl, hb7⟩; have M7 := Lib.hid (M6.out.below' hb7); have P7 := Lib.hid (own_below O6.out hb7)))
            have u1 := U1.out
            have u2 := U2.out
            have u3 := U3.out
            go_wp2_with (first
              | (go_at_call 21; have _q := MB; refine (fixed5_any _).mono ?_; rintro e wz ⟨rfl, hbz⟩)
              | (go_at_call 14; have _q := MA; refine (found_same AA A6 (keepL (VL 7 q) S) mw cA c6 _ (Lib.hid (reads_own HMW.out OA.out)) (Lib.hid (reads_own HMW.out PA.out)) HMW.out (by unfold maxLen; omega)).mono ?_; rintro e wb ⟨rfl, hbb⟩; have MB := Lib.hid (MA.out.below' hbb))
              | (go_at_call 13; have _q := M9; refine (mine_read M9 0 mw HWL2.out HRW).mono ?_; rw [HRD.out]; rintro e wa ⟨AA, cA, rfl, hownA, hbA⟩; rw [HMW.out] at hownA ⊢; have MA := Lib.hid (M9.out.below' hbA); have OA := Lib.hid hownA; have PA := Lib.hid (own_below P9.out hbA); clear hownA))
            go_ret
            exact ⟨rfl, MB.out.old.trans (hbz.mono MB.out.old.size)⟩


set_option maxRecDepth 100000 in
theorem lifted (os : Os) (started : os.Started) (H : Type) (enc : TypeId × Value → H) :
    ReturnsInHanded {} Try.checked os 7 .any (Rows.segmentKeepsSpec.pre6 enc Try.prog Try.f7 Rows.segmentKeepsRow.domain false) (Rows.segmentKeepsSpec.post enc Try.prog Try.f7 false true false false) := by
  refine returnsInHanded_of_change (C := Try.checked) own started (by kernel_rfl) Try.func7
    (ChangeSpec.witness6 (enc := enc) (C := Try.checked) false ⟨#[], #[.int .i64 0, .slice none 0 0], []⟩ 8 (by kernel_rfl) (by kernel_rfl) (by kernel_rfl) (by kernel_rfl)) ?_
  intro W base args ds gs before hval0 hW _ _
  have hval : ∀ (j : Nat) t v, Try.f7.params[j]? = some t → args[j]? = some v → Value.okWide Try.prog W .any base t v := hval0
  have hW' := hW
  obtain ⟨p, q, hA0, hV, rfl, hfz, hnd⟩ := hW
  have hA : DataW.TrodAll enc Try.prog W 0 (fun _ => true) true Try.f7.params.toList args.toList ds p := hA0
  rw [Try.params7] at hA hval
  obtain ⟨v0, vs0, d0, ds0, p0, q0, hargs, rfl, rfl, h0, r0⟩ := trodAll_cons hA
  obtain ⟨v1, vs1, d1, ds1, p1, q1, rfl, rfl, rfl, h1, r1⟩ := trodAll_cons r0
  obtain ⟨rfl, rfl, rfl⟩ := trodAll_nil r1
  obtain rfl : args = #[v0, v1] := by cases args; simp_all
  obtain ⟨rfl, rfl⟩ := trodVars_none hV
  have k0 := h0
  have lt0 : ∀ x ∈ p0, x.block < W.heap.size := by obtain ⟨m, hm⟩ := k0; exact DataW.trod_lt m _ _ _ hm
  have k1 := h1
  have lt1 : ∀ x ∈ p1, x.block < W.heap.size := by obtain ⟨m, hm⟩ := k1; exact DataW.trod_lt m _ _ _ hm
  obtain ⟨a0, e0, _, _, w0⟩ := open_int Try.underlying3 (hval 0 3 v0 rfl rfl) h0
  subst e0
  obtain ⟨A1, l1, c1, e1, R1⟩ := L5.open_nums (hval 1 31 v1 rfl rfl) h1
  subst e1
  clear hA0 hval0
  refine (walk W a0 w0 A1 l1 c1 R1).mono fun e W' ⟨he, bel⟩ => ?_
  subst he
  exact ⟨_, rfl, _, _, _, [], _, [], hW', trodAll_mk1 (shut_bool Try.underlying4 _), (trodAll_cons_mk (Below.trod laidOut (by kernel_rfl) (of_decide_eq_true (by kernel_rfl)) k0 bel lt0) (trodAll_cons_mk (Below.trod laidOut (by kernel_rfl) (of_decide_eq_true (by kernel_rfl)) k1 bel lt1) trodAll_mk0)), rfl, bel.frame _, fun h => by cases h⟩

theorem over : Rows.segmentKeepsRow.holds Try.pinned (OpenSpec.ofChange Rows.segmentKeepsSpec) :=
  OpenClaim.holds_of_wide 7 Try.f7 rfl rfl rfl rfl rfl rfl rfl ⟨rfl, rfl, rfl, rfl, rfl⟩ rfl rfl rfl rfl rfl (by kernel_rfl) Try.func7 (by kernel_rfl)
    (of_decide_eq_true (by kernel_rfl)) (by unfold Func.isWrapper; first | (rw [if_pos (by decide +kernel)]; kernel_rfl) | (rw [if_neg (by decide +kernel)]; exact ⟨rfl, rfl⟩))
    (fun os started H enc _ => lifted os started H enc)

/-- the statement -/
theorem proved : Rows.SegmentKeepsSaid :=
  over
#print axioms proved
end Go.Proofs.Ytjmfhpombkkgmaa.segmentKeeps
