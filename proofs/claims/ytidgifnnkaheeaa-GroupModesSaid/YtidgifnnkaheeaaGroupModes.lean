/-
  The statement GroupModes, without conditions: as long as there are members the way stays; when all have left another one may come.
-/
import Derived.Test.YtidgifnnkaheeaaRows
import Derived.WalkKit
import Derived.ProofKit
import Derived.OpenShut
import Derived.ShutString
import Derived.ChangeOld
import Derived.Below
import Derived.Test.YtidgifnnkaheeaaGpFixed
import Derived.Test.YtidgifnnkaheeaaGpOpen
import Derived.LoopTactic
import Derived.IntWalk
namespace Go.Proofs.Ytidgifnnkaheeaa.groupModes
open Go.ChangeShapes Go.WideShapes Go.ChangeAt Go.RowKit Go.Deep
open Go.ChangeMaps (open_string shut_string)
open L3 L4 L9 L10 L11

theorem own : ownKnob Try.prog.godebug = none := by kernel_rfl
theorem laidOut : laidOutB Try.prog = true := by kernel_rfl

/-- the names -/
def ns : List ByteArray := [⟨#[97]⟩, ⟨#[98]⟩, ⟨#[99]⟩, ⟨#[100]⟩]
def qU (k i : Nat) : List Se := ((ns.take k).drop i).map seatL
def rI (i : Nat) (rb : Bool) : Bool := match i with | 0 => false | _ + 1 => rb
section
set_option maxRecDepth 100000
theorem n_size {i : Nat} {x : ByteArray} (h : ns[i]? = some x) : x.size ≤ 16 := by
  match i, h with
  | 0, h => simp [ns] at h; subst h; decide
  | 1, h => simp [ns] at h; subst h; decide
  | 2, h => simp [ns] at h; subst h; decide
  | 3, h => simp [ns] at h; subst h; decide
  | i + 4, h => simp [ns] at h
theorem u_join {i : Nat} {x : ByteArray} (h : ns[i]? = some x) (rb : Bool) : joinE i (rI i rb) (qU i 0) (seatL x) rb = 0 := by
  match i, h with
  | 0, h => simp [ns] at h; subst h; cases rb <;> decide
  | 1, h => simp [ns] at h; subst h; cases rb <;> decide
  | 2, h => simp [ns] at h; subst h; cases rb <;> decide
  | 3, h => simp [ns] at h; subst h; cases rb <;> decide
  | i + 4, h => simp [ns] at h
theorem u_next {i : Nat} {x : ByteArray} (h : ns[i]? = some x) : putS (qU i 0) (seatL x) = qU (i + 1) 0 := by
  match i, h with
  | 0, h => simp [ns] at h; subst h; exact (show putS (qU 0 0) (seatL _) = qU 1 0 from by kernel_rfl)
  | 1, h => simp [ns] at h; subst h; exact (show putS (qU 1 0) (seatL _) = qU 2 0 from by kernel_rfl)
  | 2, h => simp [ns] at h; subst h; exact (show putS (qU 2 0) (seatL _) = qU 3 0 from by kernel_rfl)
  | 3, h => simp [ns] at h; subst h; exact (show putS (qU 3 0) (seatL _) = qU 4 0 from by kernel_rfl)
  | i + 4, h => simp [ns] at h
theorem x_mode {k : Nat} (h1 : 1 ≤ k) (h4 : k ≤ 4) (rb : Bool) : joinE k rb (qU k 0) (seatL ⟨#[120]⟩) (!rb) = 112 := by
  match k, h1, h4 with
  | 1, _, _ => cases rb <;> decide
  | 2, _, _ => cases rb <;> decide
  | 3, _, _ => cases rb <;> decide
  | 4, _, _ => cases rb <;> decide
theorem d_has {k i : Nat} (h4 : k ≤ 4) (hi : i < k) {x : ByteArray} (h : ns[i]? = some x) : hasS (qU k i) x = true ∧ outS (qU k i) x = qU k (i + 1) := by
  match k, i, h4, hi, h with
  | 1, 0, _, _, h => simp [ns] at h; subst h; exact ⟨by decide, by kernel_rfl⟩
  | 2, 0, _, _, h => simp [ns] at h; subst h; exact ⟨by decide, by kernel_rfl⟩
  | 2, 1, _, _, h => simp [ns] at h; subst h; exact ⟨by decide, by kernel_rfl⟩
  | 3, 0, _, _, h => simp [ns] at h; subst h; exact ⟨by decide, by kernel_rfl⟩
  | 3, 1, _, _, h => simp [ns] at h; subst h; exact ⟨by decide, by kernel_rfl⟩
  | 3, 2, _, _, h => simp [ns] at h; subst h; exact ⟨by decide, by kernel_rfl⟩
  | 4, 0, _, _, h => simp [ns] at h; subst h; exact ⟨by decide, by kernel_rfl⟩
  | 4, 1, _, _, h => simp [ns] at h; subst h; exact ⟨by decide, by kernel_rfl⟩
  | 4, 2, _, _, h => simp [ns] at h; subst h; exact ⟨by decide, by kernel_rfl⟩
  | 4, 3, _, _, h => simp [ns] at h; subst h; exact ⟨by decide, by kernel_rfl⟩
theorem d_fence {k i : Nat} (h4 : k ≤ 4) (hi : i < k) {x : ByteArray} (h : ns[i]? = some x) : fenceE ((k : Int) + i) (qU k i) x ((k : Int) + i) = 0 := by
  unfold fenceE
  rw [(d_has h4 hi h).1, if_neg (by simp), if_pos rfl]
theorem d_end (k : Nat) (h4 : k ≤ 4) : qU k k = [] := by
  match k, h4 with
  | 0, _ => rfl
  | 1, _ => rfl
  | 2, _ => rfl
  | 3, _ => rfl
  | 4, _ => rfl
theorem y_join {k : Nat} (h4 : k ≤ 4) (rb : Bool) : joinE ((k : Int) + k) rb [] (seatL ⟨#[120]⟩) (!rb) = 0 := by
  match k, h4 with
  | 0, _ => cases rb <;> decide
  | 1, _ => cases rb <;> decide
  | 2, _ => cases rb <;> decide
  | 3, _ => cases rb <;> decide
  | 4, _ => cases rb <;> decide
theorem sz1 {x : ByteArray} (h : x.size ≤ 16) : (seatL x).m.name.size ≤ 281474976710656 ∧ ∀ y ∈ (seatL x).m.ts, y.size ≤ 281474976710656 := szL x (by omega)
end
theorem mask_le (m : Nat) (hm : m < 9223372036854775808) (x : Int) : 0 ≤ bits .and .i64 x (m : Int) ∧ bits .and .i64 x (m : Int) ≤ m := by
  have e : (BitVec.ofInt 64 x &&& BitVec.ofInt 64 (m : Int)).toNat ≤ m := by
    rw [BitVec.toNat_and]
    refine Nat.le_trans Nat.and_le_right ?_
    rw [BitVec.ofInt_natCast, BitVec.toNat_ofNat, Nat.mod_eq_of_lt (by omega)]
    exact Nat.le_refl _
  show 0 ≤ IntKind.i64.wrap ((BitVec.ofInt 64 x &&& BitVec.ofInt 64 (m : Int)).toNat : Int) ∧ IntKind.i64.wrap ((BitVec.ofInt 64 x &&& BitVec.ofInt 64 (m : Int)).toNat : Int) ≤ m
  rw [IntWalk.i64_in _ (by omega)]
  omega
/-- the names' row -/
def Row4 (w : World) (gn : Nat) : Prop := w.heap[gn]? = some (.cells #[.string ⟨#[97]⟩, .string ⟨#[98]⟩, .string ⟨#[99]⟩, .string ⟨#[100]⟩] 9 (0, 0))
theorem Row4.cell {w : World} {gn i : Nat} {x : ByteArray} (h : Row4 w gn) (hx : ns[i]? = some x) : w.cell? ⟨gn, i, none⟩ = some (.string x) := by
  match i, hx with
  | 0, hx => simp [ns] at hx; subst hx; exact (cell_of_row _ _ 0 _ _ _ h).trans rfl
  | 1, hx => simp [ns] at hx; subst hx; exact (cell_of_row _ _ 1 _ _ _ h).trans rfl
  | 2, hx => simp [ns] at hx; subst hx; exact (cell_of_row _ _ 2 _ _ _ h).trans rfl
  | 3, hx => simp [ns] at hx; subst hx; exact (cell_of_row _ _ 3 _ _ _ h).trans rfl
  | i + 4, hx => simp [ns] at hx
theorem Row4.only {w w' : World} {gn : Nat} {S : List Nat} (h : Row4 w gn) (o : Only S w w') (hn : gn ∉ S) : Row4 w' gn := (o.block gn (Array.getElem?_eq_some_iff.1 h).1 hn).trans h
theorem Row4.below {w w' : World} {gn : Nat} (h : Row4 w gn) (b : Below w.heap.size w w') : Row4 w' gn := (b.block gn (Array.getElem?_eq_some_iff.1 h).1).trans h

set_option maxRecDepth 100000 in
set_option maxHeartbeats 16000000 in
theorem walk (W : World) (rb : Bool) (a1 : Int) (_ : (Lit.int .i64 a1).wf = true) :
    Calls Try.prog 7 #[.bool rb, .int .i64 a1] W fun e w' => e = .returned (.bool true) ∧ Below W.heap.size W w' := by
  obtain ⟨m0, m3⟩ := mask_le 3 (by decide) a1
  obtain ⟨y, hy⟩ : ∃ y, bits .and .i64 a1 3 = y := ⟨_, rfl⟩
  have m0 : 0 ≤ y := by rw [← hy]; exact m0
  have m3 : y ≤ 3 := by rw [← hy]; exact m3
  obtain ⟨k, hk⟩ : ∃ k : Nat, 1 + y = (k : Int) := ⟨(1 + y).toNat, by omega⟩
  have hk1 : 1 ≤ k := by omega
  have hk4 : k ≤ 4 := by omega
  have hw1 : wrap64 (1 + y) = (k : Int) := by simp only [wrap64]; omega
  have HK1 := Lib.hid hk1
  have HK4 := Lib.hid hk4
  clear m0 m3 hk hk1 hk4
  have q1 : (rb != rb) = false := by simp
  have q2 : ((!rb) != rb) = true := by cases rb <;> rfl
  go_enter Try.func7, Try.ntmps7
  go_wp2_with (go_at_call 21; refine (m_new W W (Below.refl _ _)).mono ?_; rintro e w1 ⟨g, b, rfl, h1, -⟩; have H1 := Lib.hid h1; clear h1)
  have hr := heap_alloc_new w1 (.cells #[.string ⟨#[97]⟩, .string ⟨#[98]⟩, .string ⟨#[99]⟩, .string ⟨#[100]⟩] 9)
  have hb2 := one_box' (w := w1) (.cells #[.string ⟨#[97]⟩, .string ⟨#[98]⟩, .string ⟨#[99]⟩, .string ⟨#[100]⟩] 9)
  have H2 := Lib.hid (H1.out.below hb2)
  obtain ⟨W2, hW2⟩ : ∃ W2, w1.alloc (.cells #[.string ⟨#[97]⟩, .string ⟨#[98]⟩, .string ⟨#[99]⟩, .string ⟨#[100]⟩] 9) = W2 := ⟨_, rfl⟩
  obtain ⟨gn, hgn⟩ : ∃ gn, w1.heap.size = gn := ⟨_, rfl⟩
  rw [hW2, hgn] at hr
  rw [hW2] at H2 ⊢
  rw [hgn]
  have HNG : Hid (gn ∉ [g, b]) := Lib.hid (by have := H1.out.lt; simp; omega)
  have HR := Lib.hid hr
  have HK9 : Hid (k ≤ 4) := HK4
  try rw [hy]
  try rw [hw1]
  clear hr hb2 hW2 hgn hw1 hy m0 m3
  go_loopw [8] (fun i wr => ∃ j : Nat, j ≤ k ∧ i = .int .i64 j ∧ Hid (GM W wr g b j j (rI j rb) (qU j 0)) ∧ Hid (Row4 wr gn)) (fun i _ => k - (intOf i).toNat)
  case atStart => exact ⟨0, by omega, rfl, Lib.hid H2.out, HR⟩
  case round =>
    obtain ⟨j, hj, rfl, HG, HRW⟩ := hrel
    by_cases hlt : j < k
    · obtain ⟨x, hx⟩ : ∃ x, ns[j]? = some x := ⟨_, List.getElem?_eq_getElem (by have := HK4.out; show j < 4; omega)⟩
      have HX := Lib.hid hx
      have d0 := HRW.out.cell hx
      have j4 : (j : Int) < 4 := by have := HK4.out; omega
      have j0 : (0 : Int) ≤ (j : Int) := by omega
      have j1 : (j : Int) < (k : Int) := by omega
      have jN : j ≤ 1000000 := by have := HK4.out; omega
      clear hx
      go_wp2_with (first
        | (go_at_call 32; refine (lseat_is x _).mono ?_; rintro e w3 ⟨A3, d3, rfl, ht3, hb3⟩; have HT3 := Lib.hid ht3; have H3 := Lib.hid (HG.out.below hb3); have HR3 := Lib.hid (HRW.out.below hb3); clear ht3 hb3)
        | (go_at_call 24; refine (m_join (n := 1) (seatL x) x A3 5 0 0 _ rb H3 jN (Lib.hid ⟨rfl, rfl, rfl, rfl⟩) HT3 (Lib.hid (sz1 (n_size HX.out))) (by decide) (Lib.hid (u_join HX.out rb)) (Lib.hid rfl)).mono ?_; rintro e w4 ⟨rfl, h4, ho4⟩; have H4 : Hid (GM W w4 g b (j + 1) (j + 1 : Nat) (rI (j + 1) rb) (qU (j + 1) 0)) := Lib.hid (by
              have e1 : joinG (j : Int) 0 = ((j + 1 : Nat) : Int) := by unfold joinG; rw [if_pos rfl]; omega
              have e3 : joinQ (qU j 0) (seatL x) 0 = qU (j + 1) 0 := u_next HX.out
              rw [e1, e3] at h4
              exact h4); have HR4 := Lib.hid (HR3.out.only ho4 HNG.out); clear h4 ho4))
      go_roundw
      case rel => exact ⟨j + 1, by omega, by go_num, H4, HR4⟩
      case measure => simp [intOf]; omega
    · obtain rfl : j = k := by omega
      have HG0 : Hid (GM W wr g b j j rb (qU j 0)) := Lib.hid (by
        have q := HG.out
        obtain ⟨j', rfl⟩ : ∃ j', j = j' + 1 := ⟨j - 1, by have := HK1.out; omega⟩
        exact q)
      have jN : j ≤ 1000000 := by have := HK4.out; omega
      have jN1 : j + 1 ≤ 1000000 := by have := HK4.out; omega
      clear HG
      go_wp2_with (first
        | (go_at_call 32; refine (lseat_is ⟨#[120]⟩ _).mono ?_; rintro e w3 ⟨A3, d3, rfl, ht3, hb3⟩; have HT3 := Lib.hid ht3; have H3 := Lib.hid (HG0.out.below hb3); have HR3 := Lib.hid (HRW.out.below hb3); clear ht3 hb3)
        | (go_at_call 24; refine (m_join (n := 1) (seatL ⟨#[120]⟩) ⟨#[120]⟩ A3 5 0 112 0 (!rb) H3 jN (Lib.hid ⟨rfl, rfl, rfl, rfl⟩) HT3 (Lib.hid (sz1 (by decide))) (by decide) (Lib.hid (x_mode HK1.out HK4.out rb)) (Lib.hid rfl)).mono ?_; rintro e w4 ⟨rfl, h4, ho4⟩; have H4 : Hid (GM W w4 g b (j + 1) j rb (qU j 0)) := Lib.hid h4; have HR4 := Lib.hid (HR3.out.only ho4 HNG.out); clear h4 ho4))
      obtain ⟨wo, hwo⟩ : ∃ wo, wo = wr := ⟨_, rfl⟩
      clear HG0 HRW H3 HR3
      go_loopw [11] (fun i wr => ∃ i' : Nat, i' ≤ j ∧ i = .int .i64 i' ∧ Hid (GM W wr g b (j + 1) ((j : Int) + i') rb (qU j i')) ∧ Hid (Row4 wr gn)) (fun i _ => j - (intOf i).toNat)
      case atStart => exact ⟨0, by omega, rfl, Lib.hid (by have := H4.out; simpa using this), HR4⟩
      case round =>
        obtain ⟨i, hi, rfl, HG, HRW⟩ := hrel
        by_cases hlt : i < j
        · obtain ⟨x, hx⟩ : ∃ x, ns[i]? = some x := ⟨_, List.getElem?_eq_getElem (by have := HK4.out; show i < 4; omega)⟩
          have HX := Lib.hid hx
          have j4 : (i : Int) < 4 := by have := HK4.out; omega
          have j0 : (0 : Int) ≤ (i : Int) := by omega
          have j1 : (i : Int) < (j : Int) := by omega
          have HLT := Lib.hid hlt
          have HXS : Hid (x.size ≤ maxLen) := Lib.hid (by have := n_size hx; unfold maxLen; omega)
          clear hx
          obtain ⟨gz, hgz⟩ : ∃ gz, (j : Int) + i = gz := ⟨_, rfl⟩
          rw [hgz] at HG
          have HF : Hid (fenceE gz (qU j i) x gz = 0) := Lib.hid (by rw [← hgz]; exact d_fence HK4.out HLT.out HX.out)
          have HGZ := Lib.hid hgz
          clear hgz
          go_wp2_with (first
            | (go_at_call 25; refine (m_gen HG).mono ?_; rintro e w5 ⟨rfl, h5, hb5⟩; have H5 := Lib.hid h5; have HR5 := Lib.hid (HRW.out.below hb5); have d5 := HR5.out.cell HX.out; clear h5 hb5)
            | (go_at_call 23; refine (m_leave x gz 0 H5 HXS HF).mono ?_; rintro e w6 ⟨rfl, h6, ho6⟩; have H6 : Hid (GM W w6 g b (j + 1) ((j : Int) + (i + 1 : Nat)) rb (qU j (i + 1))) := Lib.hid (by
                have e1 : leaveG gz 0 = (j : Int) + (i + 1 : Nat) := by have := HGZ.out; have := HK4.out; unfold leaveG upG; rw [if_pos rfl]; omega
                have e2 : leaveQ (qU j i) x 0 = qU j (i + 1) := (d_has HK4.out HLT.out HX.out).2
                rw [e1, e2] at h6
                exact h6); have HR6 := Lib.hid (HR5.out.only ho6 HNG.out); clear h6 ho6))
          go_roundw
          case rel => exact ⟨i + 1, by omega, by go_num, H6, HR6⟩
          case measure => simp [intOf]; omega
        · obtain rfl : i = j := by omega
          have HG1 : Hid (GM W wr g b (i + 1) ((i : Int) + i) rb []) := Lib.hid (by have q := HG.out; rw [d_end i HK4.out] at q; exact q)
          have e1 : wrap64 (2 * (i : Int)) = 2 * (i : Int) := by have := HK4.out; simp only [wrap64]; omega
          have e2 : wrap64 (2 * (i : Int) + 1) = 2 * (i : Int) + 1 := by have := HK4.out; simp only [wrap64]; omega
          have HZ : Hid ((if (0 : Int) = 0 then (i : Int) + i + 1 else 0) = 2 * (i : Int) + 1) := Lib.hid (by rw [if_pos rfl]; omega)
          have HZG : Hid (joinG ((i : Int) + i) 0 = 2 * (i : Int) + 1) := Lib.hid (by unfold joinG; rw [if_pos rfl]; omega)
          clear HG HRW
          go_wp2_with (first
            | (go_at_call 32; refine (lseat_is ⟨#[120]⟩ _).mono ?_; rintro e w7 ⟨A7, d7, rfl, ht7, hb7⟩; have HT7 := Lib.hid ht7; have H7 := Lib.hid (HG1.out.below hb7); clear ht7 hb7)
            | (go_at_call 24; refine (m_join (n := 1) (seatL ⟨#[120]⟩) ⟨#[120]⟩ A7 5 0 0 (2 * (i : Int) + 1) (!rb) H7 jN1 (Lib.hid ⟨rfl, rfl, rfl, rfl⟩) HT7 (Lib.hid (sz1 (by decide))) (by decide) (Lib.hid (y_join HK4.out rb)) HZ).mono ?_; rintro e w8 ⟨rfl, h8, ho8⟩; have H8 : Hid (GM W w8 g b (i + 1 + 1) (2 * (i : Int) + 1) (!rb) (putS [] (seatL ⟨#[120]⟩))) := Lib.hid (by
                rw [HZG.out] at h8
                exact h8); clear h8 ho8)
            | (go_at_call 25; refine (m_gen H8).mono ?_; rintro e w9 ⟨rfl, h9, hb9⟩; have H9 := Lib.hid h9; clear h9 hb9)
            | (go_at_call 28; refine (fixed11_any _).mono ?_; rintro e w10 ⟨rfl, hb10⟩; have H10 := Lib.hid (H9.out.below hb10); clear hb10))
          go_ret
          exact ⟨by simp, H10.out.bel⟩

set_option maxRecDepth 100000 in
set_option maxHeartbeats 1000000 in
theorem lifted (os : Os) (started : os.Started) (H : Type) (enc : TypeId × Value → H) :
    ReturnsInHanded {} Try.checked os 7 .any (Rows.groupModesSpec.pre6 enc Try.prog Try.f7 Rows.groupModesRow.domain false) (Rows.groupModesSpec.post enc Try.prog Try.f7 false true false false) := by
  refine returnsInHanded_of_change (C := Try.checked) own started (by kernel_rfl) Try.func7
    (ChangeSpec.witness6 (enc := enc) (C := Try.checked) false ⟨#[], #[.bool false, .int .i64 0], []⟩ 8 (by kernel_rfl) (by kernel_rfl) (by kernel_rfl) (by kernel_rfl)) ?_
  intro W base args ds gs before hval0 hW _ _
  have hval : ∀ (j : Nat) t v, Try.f7.params[j]? = some t → args[j]? = some v → Value.okWide Try.prog W .any base t v := hval0
  have hW' := hW
  obtain ⟨p, q, hA0, hV, rfl, hfz, hnd⟩ := hW
  have hA : DataW.TrodAll enc Try.prog W 0 (fun _ => true) true Try.f7.params.toList args.toList ds p := hA0
  rw [Try.params7] at hA hval
  obtain ⟨v0, vs0, d0, ds0, p0, q0, hargs, rfl, rfl, h0, r0⟩ := trodAll_cons hA
  obtain ⟨v1, vs1, d1, ds1, p1, q1, rfl, rfl, rfl, h1, r1⟩ := trodAll_cons r0
  obtain ⟨rfl, rfl, rfl⟩ := trodAll_nil r1
  obtain rfl : args = #[v0, v1] := by cases args; simp_all
  obtain ⟨rfl, rfl⟩ := trodVars_none hV
  have k0 := h0
  have lt0 : ∀ x ∈ p0, x.block < W.heap.size := by obtain ⟨m, hm⟩ := k0; exact DataW.trod_lt m _ _ _ hm
  have k1 := h1
  have lt1 : ∀ x ∈ p1, x.block < W.heap.size := by obtain ⟨m, hm⟩ := k1; exact DataW.trod_lt m _ _ _ hm
  obtain ⟨a0, rfl, rfl, rfl⟩ := Go.RowKit.open_bool Try.underlying4 (hval 0 4 v0 rfl rfl) h0
  obtain ⟨a1, e1, _, _, w1⟩ := open_int Try.underlying3 (hval 1 3 v1 rfl rfl) h1
  subst e1
  clear hA0 hval0
  refine (walk W a0 a1 w1).mono fun e W' ⟨he, bel⟩ => ?_
  subst he
  exact ⟨_, rfl, _, _, _, [], _, [], hW', trodAll_mk1 (shut_bool Try.underlying4 _), (trodAll_cons_mk (Below.trod laidOut (by kernel_rfl) (of_decide_eq_true (by kernel_rfl)) k0 bel lt0) (trodAll_cons_mk (Below.trod laidOut (by kernel_rfl) (of_decide_eq_true (by kernel_rfl)) k1 bel lt1) trodAll_mk0)), rfl, bel.frame _, fun h => by cases h⟩

theorem over : Rows.groupModesRow.holds Try.pinned (OpenSpec.ofChange Rows.groupModesSpec) :=
  OpenClaim.holds_of_wide 7 Try.f7 rfl rfl rfl rfl rfl rfl rfl ⟨rfl, rfl, rfl, rfl, rfl⟩ rfl rfl rfl rfl rfl (by kernel_rfl) Try.func7 (by kernel_rfl)
    (of_decide_eq_true (by kernel_rfl)) (by unfold Func.isWrapper; first | (rw [if_pos (by decide +kernel)]; kernel_rfl) | (rw [if_neg (by decide +kernel)]; exact ⟨rfl, rfl⟩))
    (fun os started H enc _ => lifted os started H enc)

/-- the statement -/
theorem proved : Rows.GroupModesSaid :=
  over
#print axioms proved
end Go.Proofs.Ytidgifnnkaheeaa.groupModes
