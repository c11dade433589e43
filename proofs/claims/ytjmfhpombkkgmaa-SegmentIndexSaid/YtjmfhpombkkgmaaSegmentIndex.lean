/-
  Proved: the index has each eighth record, from the first one on (of at most 64 records). No condition.
-/
import Derived.Test.YtjmfhpombkkgmaaRows
import Derived.WalkKit
import Derived.ProofKit
import Derived.OpenShut
import Derived.ShutString
import Derived.ChangeOld
import Derived.Below
import Derived.Test.YtjmfhpombkkgmaaSegOpen
import Derived.Deep.QuietTactic
import Derived.BigQuiet
import Derived.LoopTactic
namespace Go.Proofs.Ytjmfhpombkkgmaa.segmentIndex
open Go.ChangeShapes Go.WideShapes Go.ChangeAt Go.RowKit
open Go.ChangeMaps (open_string shut_string)
open L3 L4 L5

theorem own : ownKnob Try.prog.godebug = none := by kernel_rfl
theorem laidOut : laidOutB Try.prog = true := by kernel_rfl


theorem mask (x : Int) : 0 ≤ bits .and .i64 x 65535 ∧ bits .and .i64 x 65535 ≤ 65535 := by
  have e : (BitVec.ofInt 64 x &&& BitVec.ofInt 64 65535).toNat ≤ 65535 := by
    rw [BitVec.toNat_and]
    exact Nat.le_trans Nat.and_le_right (by decide)
  show 0 ≤ IntKind.i64.wrap ((BitVec.ofInt 64 x &&& BitVec.ofInt 64 65535).toNat : Int) ∧ IntKind.i64.wrap ((BitVec.ofInt 64 x &&& BitVec.ofInt 64 65535).toNat : Int) ≤ 65535
  rw [IntKind.wrap_i64]
  omega
/-- so many records, from an offset on -/
def VL (b : Int) (k : Nat) : List L4.Fd := numbered b (List.replicate k rV)
theorem VL_len (b : Int) (k : Nat) : (VL b k).length = k := by unfold VL; rw [numbered_len, List.length_replicate]
theorem VL_next (b : Int) (k : Nat) : VL b k ++ numbered (b + k) [rV] = VL b (k + 1) := by
  unfold VL
  rw [List.replicate_succ', numbered_app, List.length_replicate]
theorem VL_mem {b : Int} {k : Nat} : ∀ f ∈ VL b k, f.r = rV := fun f hf => List.eq_of_mem_replicate (numbered_mem _ _ f hf)
theorem app_one {next : Int} {k : Nat} (h1 : k < 64) (h2 : next < 1099511627776) : appE next k [rV] = 0 := by
  unfold appE
  have h : chkL [rV] = 0 := by decide
  rw [h, if_neg (by simp), if_neg (by simp; omega)]
theorem reads_v {W : World} {g : Nat} (h : W.heap[g]? = some (.cells #[.bool false, .string ⟨#[]⟩, .bool false, .string ⟨#[118]⟩] 41 (0, 0))) : Reads W (g + 1) (some ⟨g, 0, none⟩) [rV] := reads_rows h rfl

theorem idx_cells {w : World} {bx ba xb xc ab ac j : Nat} {T E : TypeId} {L : List L4.Fd} {f : L4.Fd} {n m : Nat} (hx : w.ownsRow bx T 1 (.slice (some ⟨xb, 0, none⟩) n xc) n (rowI (indexL L))) (ha : w.ownsRow ba E 5 (.slice (some ⟨ab, 0, none⟩) m ac) m (rowF L)) (hj : j < (L.length + 7) / 8) (hf : L[j * 8]? = some f) :
    w.cell? ⟨xb, j, none⟩ = some (.int .i64 f.o) ∧ w.cell? ⟨ab, j * 8 * 5, none⟩ = some (.int .i64 f.o) := by
  have h1 : (indexL L)[j]? = some f.o := by
    have e : 8 * j = j * 8 := by omega
    simp only [indexL, List.getElem?_map]
    rw [List.getElem?_range hj]
    show some _ = _
    simp [e, hf]
  have c1 := hx.cells (g := xb) rfl j (.int .i64 f.o) (by simp [rowI, h1])
  have c2 := ha.cells (g := ab) rfl (j * 8 * 5) (.int .i64 f.o) (rowF_at L _ f hf).1
  rw [addr_add] at c1 c2
  exact ⟨c1, c2⟩

set_option maxRecDepth 100000 in
set_option maxHeartbeats 8000000 in
theorem walk (w : World) (A0 : Option Addr) (l0 : List R) (c0 : Nat) (R0 : IsRecs w A0 l0) (a1 : Int) (_ : (Lit.int .i64 a1).wf = true) :
    Calls Try.prog 6 #[.slice A0 l0.length c0, .int .i64 a1] w fun e w' => e = .returned (.bool true) ∧ Below w.heap.size w w' := by
  obtain ⟨b, hbm⟩ : ∃ b, bits .and .i64 a1 65535 = b := ⟨_, rfl⟩
  have hb := mask a1
  rw [hbm] at hb
  obtain ⟨b0, b1⟩ := hb
  obtain ⟨n, hn⟩ : ∃ n, l0.length = n := ⟨_, rfl⟩
  have hnm : n ≤ maxLen := by rw [← hn]; exact R0.2.2
  unfold maxLen at hnm
  rw [hn]
  have NB : Hid (newE b = 0) := Lib.hid (by unfold newE; rw [if_pos]; simp [numB]; omega)
  have SMV : Hid (∀ r ∈ [rV], r.key.size ≤ maxLen ∧ r.val.size ≤ maxLen) := Lib.hid (by decide)
  clear hn R0
  go_enter Try.func6, Try.ntmps6
  go_wp2_with (go_at_call 8; refine (new_ok b w w (Lib.hid (Below.refl _ _)) NB).mono ?_; rintro e w1 ⟨g, rfl, hm1⟩; have M1 := Lib.hid hm1; clear hm1)
  go_loopw [7] (fun i wr => ∃ k : Nat, k ≤ n ∧ k ≤ 64 ∧ i = .int .i64 k ∧ Hid (Mine 69 w wr.heap.size wr g b (b + k) (VL b k))) (fun i _ => n - (intOf i).toNat)
  case atStart => exact ⟨0, by omega, by omega, rfl, Lib.hid (by have := M1.out; simpa [VL, numbered] using this)⟩
  case round =>
    obtain ⟨k, hkn, hk64, rfl, hM⟩ := hrel
    by_cases hlt : k < n ∧ k < 64
    · obtain ⟨h1, h2⟩ := hlt
      have e1 : wrap64 (b + (k : Int)) = b + (k : Int) := by simp only [wrap64]; omega
      have AE : Hid (appE (b + k) (VL b k).length [rV] = 0) := Lib.hid (by rw [VL_len]; exact app_one h2 (by omega))
      have hl64 : (VL b k).length ≤ 64 := by rw [VL_len]; omega
      have HL64 := Lib.hid hl64
      clear hl64
      go_wp2_with (first
        | (go_at_call 11; have _q := M2; refine (mine_append (Lib.hid (M2.out.below' (one_box _))) (some ⟨w2.heap.size, 0, none⟩) [rV] 1 1 (w2.heap.size + 1) HL64.out (by omega) (by omega) (Lib.hid (reads_v (heap_alloc_new w2 _))) (Lib.hid (fun k e => .inl (by injection e with e; have := M2.out.1; subst e; exact this))) (by simp) rfl (by decide) SMV AE).mono ?_; rintro e w3 ⟨rfl, hm3, _⟩; have M3 := Lib.hid hm3; clear hm3)
        | (go_at_call 19; refine (v_any _).mono ?_; rintro e w2 ⟨rfl, hb2⟩; have M2 := Lib.hid (hM.out.below' hb2)))
      go_roundw
      case rel => exact ⟨k + 1, by omega, by omega, by go_num, Lib.hid (by have := M3.out; rw [VL_next] at this; simpa [Int.add_assoc] using this)⟩
      case measure => simp [intOf]; omega
    · have e0 : k = n ∨ k = 64 := by omega
      have HL := Lib.hid (VL_len b k)
      have hl64 : (VL b k).length ≤ 64 := by rw [VL_len]; omega
      have HL64 := Lib.hid hl64
      obtain ⟨mk, hmk⟩ : ∃ mk, (k + 7) / 8 = mk := ⟨_, rfl⟩
      have HMK := Lib.hid hmk
      have hil : (indexL (VL b k)).length = mk := by rw [index_len, VL_len, hmk]
      have HIL := Lib.hid hil
      have e2 : wrap64 ((k : Int) + 7) = (k : Int) + 7 := by simp only [wrap64]; omega
      have e3 : wrap64 (((k : Int) + 7).tdiv 8) = (mk : Int) := by
        rw [Int.tdiv_eq_ediv_of_nonneg (by omega)]; simp only [wrap64]; omega
      have e4 : ((k : Int) + 7) / 8 = (mk : Int) := by omega
      have hmk8 : mk ≤ 8 := by omega
      clear hil hmk hl64
      by_cases hkn' : k < n
      · have hk2 : ¬ (k : Int) < 64 := by omega
        clear hlt e0
        go_wp2_with (first
          | (go_at_call 24; have _q := M4; refine (mine_all M4 HL64.out).mono ?_; rintro e w5 ⟨A5, c5, rfl, hown5, hb5⟩; rw [HL.out] at hown5 ⊢; have M5 := Lib.hid (M4.out.below' hb5); have O5 := Lib.hid hown5; have X5 := Lib.hid (own_below X4.out hb5); clear hown5)
          | (go_at_call 25; refine (mine_index hM HL64.out).mono ?_; rintro e w4 ⟨A4, c4, rfl, hown4, hb4⟩; rw [HIL.out] at hown4 ⊢; have M4 := Lib.hid (hM.out.below' hb4); have X4 := Lib.hid hown4; clear hown4))
        clear e2 e3 e4
        go_loopw [12] (fun i wr => ∃ j : Nat, j ≤ mk ∧ i = .int .i64 j ∧ Below w5.heap.size w5 wr) (fun i _ => mk - (intOf i).toNat)
        case atStart => exact ⟨0, by omega, rfl, Below.refl _ _⟩
        case round =>
          obtain ⟨j, hj, rfl, hbj⟩ := hrel
          by_cases hjm : j < mk
          · have x6 := own_below X5.out hbj
            have o6 := own_below O5.out hbj
            have hmk' := HMK.out
            obtain ⟨xb, xc, hxv, _, _⟩ := x6.form (by omega)
            obtain ⟨ab, ac, hav, _, _⟩ := o6.form (by omega)
            injection hxv with q1 q2 q3
            injection hav with q4 q5 q6
            subst q1 q4 q3 q6
            obtain ⟨f, hf⟩ : ∃ f, (VL b k)[j * 8]? = some f := ⟨_, List.getElem?_eq_getElem (by rw [HL.out]; omega)⟩
            obtain ⟨d0, d1⟩ := idx_cells x6 o6 (by rw [HL.out, hmk']; exact hjm) hf
            obtain ⟨o, ho⟩ : ∃ o, f.o = o := ⟨_, rfl⟩
            obtain ⟨q, hq⟩ : ∃ q, j * 8 = q := ⟨_, rfl⟩
            have j0 : (0 : Int) ≤ (j : Int) := by omega
            have j1 : (j : Int) < (mk : Int) := by omega
            have j2 : IntKind.i64.wrap (8 * (j : Int)) = (q : Int) := by rw [IntKind.wrap_i64]; omega
            have j3 : (0 : Int) ≤ (q : Int) := by omega
            have j4 : (q : Int) < (k : Int) := by omega
            rw [ho] at d0 d1
            rw [hq] at d1
            clear x6 o6 hmk' hf ho hq
            go_wp2_with fail
            go_quiet (fail)
            go_wp2_with fail
            go_roundw
            case rel => exact ⟨j + 1, by omega, by go_num, drewN_below hbj _⟩
            case measure => simp [intOf]; omega
          · obtain rfl : j = mk := by omega
            have M6 := Lib.hid (M5.out.below' hbj)
            go_wp2_with (first
              | (go_at_call 21; have _q := M7; refine (fixed5_any _).mono ?_; rintro e w8 ⟨rfl, hb8⟩)
              | (go_at_call 26; refine (mine_len M6).mono ?_; rw [HL.out]; rintro e w7 ⟨rfl, hb7⟩; have M7 := Lib.hid (M6.out.below' hb7)))
            go_ret
            exact ⟨rfl, M7.out.old.trans (hb8.mono M7.out.old.size)⟩
      · clear hlt e0
        go_wp2_with (first
          | (go_at_call 24; have _q := M4; refine (mine_all M4 HL64.out).mono ?_; rintro e w5 ⟨A5, c5, rfl, hown5, hb5⟩; rw [HL.out] at hown5 ⊢; have M5 := Lib.hid (M4.out.below' hb5); have O5 := Lib.hid hown5; have X5 := Lib.hid (own_below X4.out hb5); clear hown5)
          | (go_at_call 25; refine (mine_index hM HL64.out).mono ?_; rintro e w4 ⟨A4, c4, rfl, hown4, hb4⟩; rw [HIL.out] at hown4 ⊢; have M4 := Lib.hid (hM.out.below' hb4); have X4 := Lib.hid hown4; clear hown4))
        clear e2 e3 e4
        go_loopw [12] (fun i wr => ∃ j : Nat, j ≤ mk ∧ i = .int .i64 j ∧ Below w5.heap.size w5 wr) (fun i _ => mk - (intOf i).toNat)
        case atStart => exact ⟨0, by omega, rfl, Below.refl _ _⟩
        case round =>
          obtain ⟨j, hj, rfl, hbj⟩ := hrel
          by_cases hjm : j < mk
          · have x6 := own_below X5.out hbj
            have o6 := own_below O5.out hbj
            have hmk' := HMK.out
            obtain ⟨xb, xc, hxv, _, _⟩ := x6.form (by omega)
            obtain ⟨ab, ac, hav, _, _⟩ := o6.form (by omega)
            injection hxv with q1 q2 q3
            injection hav with q4 q5 q6
            subst q1 q4 q3 q6
            obtain ⟨f, hf⟩ : ∃ f, (VL b k)[j * 8]? = some f := ⟨_, List.getElem?_eq_getElem (by rw [HL.out]; omega)⟩
            obtain ⟨d0, d1⟩ := idx_cells x6 o6 (by rw [HL.out, hmk']; exact hjm) hf
            obtain ⟨o, ho⟩ : ∃ o, f.o = o := ⟨_, rfl⟩
            obtain ⟨q, hq⟩ : ∃ q, j * 8 = q := ⟨_, rfl⟩
            have j0 : (0 : Int) ≤ (j : Int) := by omega
            have j1 : (j : Int) < (mk : Int) := by omega
            have j2 : IntKind.i64.wrap (8 * (j : Int)) = (q : Int) := by rw [IntKind.wrap_i64]; omega
            have j3 : (0 : Int) ≤ (q : Int) := by omega
            have j4 : (q : Int) < (k : Int) := by omega
            rw [ho] at d0 d1
            rw [hq] at d1
            clear x6 o6 hmk' hf ho hq
            go_wp2_with fail
            go_quiet (fail)
            go_wp2_with fail
            go_roundw
            case rel => exact ⟨j + 1, by omega, by go_num, drewN_below hbj _⟩
            case measure => simp [intOf]; omega
          · obtain rfl : j = mk := by omega
            have M6 := Lib.hid (M5.out.below' hbj)
            go_wp2_with (first
              | (go_at_call 21; have _q := M7; refine (fixed5_any _).mono ?_; rintro e w8 ⟨rfl, hb8⟩)
              | (go_at_call 26; refine (mine_len M6).mono ?_; rw [HL.out]; rintro e w7 ⟨rfl, hb7⟩; have M7 := Lib.hid (M6.out.below' hb7)))
            go_ret
            exact ⟨rfl, M7.out.old.trans (hb8.mono M7.out.old.size)⟩

set_option maxRecDepth 100000 in
theorem lifted (os : Os) (started : os.Started) (H : Type) (enc : TypeId × Value → H) :
    ReturnsInHanded {} Try.checked os 6 .any (Rows.segmentIndexSpec.pre6 enc Try.prog Try.f6 Rows.segmentIndexRow.domain false) (Rows.segmentIndexSpec.post enc Try.prog Try.f6 false true false false) := by
  refine returnsInHanded_of_change (C := Try.checked) own started (by kernel_rfl) Try.func6
    (ChangeSpec.witness6 (enc := enc) (C := Try.checked) false ⟨#[], #[.slice none 0 0, .int .i64 0], []⟩ 8 (by kernel_rfl) (by kernel_rfl) (by kernel_rfl) (by kernel_rfl)) ?_
  intro W base args ds gs before hval0 hW _ _
  have hval : ∀ (j : Nat) t v, Try.f6.params[j]? = some t → args[j]? = some v → Value.okWide Try.prog W .any base t v := hval0
  have hW' := hW
  obtain ⟨p, q, hA0, hV, rfl, hfz, hnd⟩ := hW
  have hA : DataW.TrodAll enc Try.prog W 0 (fun _ => true) true Try.f6.params.toList args.toList ds p := hA0
  rw [Try.params6] at hA hval
  obtain ⟨v0, vs0, d0, ds0, p0, q0, hargs, rfl, rfl, h0, r0⟩ := trodAll_cons hA
  obtain ⟨v1, vs1, d1, ds1, p1, q1, rfl, rfl, rfl, h1, r1⟩ := trodAll_cons r0
  obtain ⟨rfl, rfl, rfl⟩ := trodAll_nil r1
  obtain rfl : args = #[v0, v1] := by cases args; simp_all
  obtain ⟨rfl, rfl⟩ := trodVars_none hV
  have k0 := h0
  have lt0 : ∀ x ∈ p0, x.block < W.heap.size := by obtain ⟨m, hm⟩ := k0; exact DataW.trod_lt m _ _ _ hm
  have k1 := h1
  have lt1 : ∀ x ∈ p1, x.block < W.heap.size := by obtain ⟨m, hm⟩ := k1; exact DataW.trod_lt m _ _ _ hm
  obtain ⟨A0, l0, c0, e0, R0⟩ := L5.open_recs (hval 0 30 v0 rfl rfl) h0
  subst e0
  obtain ⟨a1, e1, _, _, w1⟩ := open_int Try.underlying3 (hval 1 3 v1 rfl rfl) h1
  subst e1
  clear hA0 hval0
  refine (walk W A0 l0 c0 R0 a1 w1).mono fun e W' ⟨he, bel⟩ => ?_
  subst he
  exact ⟨_, rfl, _, _, _, [], _, [], hW', trodAll_mk1 (shut_bool Try.underlying4 _), (trodAll_cons_mk (Below.trod laidOut (by kernel_rfl) (of_decide_eq_true (by kernel_rfl)) k0 bel lt0) (trodAll_cons_mk (Below.trod laidOut (by kernel_rfl) (of_decide_eq_true (by kernel_rfl)) k1 bel lt1) trodAll_mk0)), rfl, bel.frame _, fun h => by cases h⟩

theorem over : Rows.segmentIndexRow.holds Try.pinned (OpenSpec.ofChange Rows.segmentIndexSpec) :=
  OpenClaim.holds_of_wide 6 Try.f6 rfl rfl rfl rfl rfl rfl rfl ⟨rfl, rfl, rfl, rfl, rfl⟩ rfl rfl rfl rfl rfl (by kernel_rfl) Try.func6 (by kernel_rfl)
    (of_decide_eq_true (by kernel_rfl)) (by unfold Func.isWrapper; first | (rw [if_pos (by decide +kernel)]; kernel_rfl) | (rw [if_neg (by decide +kernel)]; exact ⟨rfl, rfl⟩))
    (fun os started H enc _ => lifted os started H enc)

/-- the statement -/
theorem proved : Rows.SegmentIndexSaid :=
  over
#print axioms proved
end Go.Proofs.Ytjmfhpombkkgmaa.segmentIndex
