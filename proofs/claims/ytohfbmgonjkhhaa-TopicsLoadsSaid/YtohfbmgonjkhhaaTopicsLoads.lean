/-
  Whether any topics may be a catalog's is as the document says; what is loaded is told as it was.
-/
import Derived.Test.YtohfbmgonjkhhaaRows
import Derived.WalkKit
import Derived.ProofKit
import Derived.OpenShut
import Derived.ShutString
import Derived.ChangeOld
import Derived.Below
import Derived.Test.YtohfbmgonjkhhaaTpCut
import Derived.Deep.RegionHeld3
import Derived.Deep.AppendLies
import Derived.Deep.DeepCutAuto
import Derived.LoopTactic
import Derived.IntWalk
namespace Go.Proofs.Ytohfbmgonjkhhaa.topicsLoads
open Go.ChangeShapes Go.WideShapes Go.ChangeAt Go.RowKit Go.Deep
open Go.ChangeMaps (open_string shut_string)
open L3 L4 L9

theorem own : ownKnob Try.prog.godebug = none := by kernel_rfl
theorem laidOut : laidOutB Try.prog = true := by kernel_rfl

theorem mask_le (m : Nat) (hm : m < 9223372036854775808) (x : Int) : 0 ≤ bits .and .i64 x (m : Int) ∧ bits .and .i64 x (m : Int) ≤ m := by
  have e : (BitVec.ofInt 64 x &&& BitVec.ofInt 64 (m : Int)).toNat ≤ m := by
    rw [BitVec.toNat_and]
    refine Nat.le_trans Nat.and_le_right ?_
    rw [BitVec.ofInt_natCast, BitVec.toNat_ofNat, Nat.mod_eq_of_lt (by omega)]
    exact Nat.le_refl _
  show 0 ≤ IntKind.i64.wrap ((BitVec.ofInt 64 x &&& BitVec.ofInt 64 (m : Int)).toNat : Int) ∧ IntKind.i64.wrap ((BitVec.ofInt 64 x &&& BitVec.ofInt 64 (m : Int)).toNat : Int) ≤ m
  rw [IntWalk.i64_in _ (by omega)]
  omega
/-- topics whose names are cut -/
def cutP (x : Pt) : Pt := ⟨cutB x.t, x.n⟩
theorem own_nil {w : World} {base m c n size : Nat} {T : TypeId} {A : Option Addr} {xs : List Value} (h : w.ownsRow base T size (.slice A n c) m xs) : A = none → n = 0 ∧ c = 0 := fun e => by
  subst e
  rcases h.2 with ⟨e, _⟩ | ⟨g, cap, cur, e, _⟩
  · injection e with _ e1 e2; exact ⟨e1, e2⟩
  · injection e with e; cases e
theorem load_ex (l : List Pt) : ∃ x, loadE l x := by
  unfold loadE
  split
  · exact ⟨2, rfl⟩
  · by_cases h : OkTo l l.length
    · exact ⟨0, .inl ⟨rfl, h⟩⟩
    · exact ⟨1, .inr ⟨rfl, h⟩⟩
theorem rload_ok {w w' : World} {l : List Pt} {e : Ending} (h : RLoadP w l 0 e w') : Below w.heap.size w w' ∧ ∃ k, e = .returned (.tuple #[.pointer (some ⟨k, 0, none⟩), .int .i64 0]) := by
  rcases h with ⟨hb, ⟨h, _⟩ | ⟨_, _, k, _, _, he, _⟩⟩
  · exact absurd rfl h
  · exact ⟨hb, k, he⟩
theorem rload_no {w w' : World} {l : List Pt} {e : Ending} {x : Int} (hx : x ≠ 0) (h : RLoadP w l x e w') : Below w.heap.size w w' ∧ e = .returned (.tuple #[.pointer none, .int .i64 x]) := by
  rcases h with ⟨hb, ⟨_, h⟩ | ⟨h, _⟩⟩
  · exact ⟨hb, h⟩
  · exact absurd h hx
/-- what lies between two rounds -/
structure TL (W wr : World) (l : List Pt) (A : Option Addr) (j c : Nat) : Prop where
  row : wr.ownsRow W.heap.size 46 2 (.slice A j c) j (rowP (l.map cutP))
  len : l.length = j
  bel : Below W.heap.size W wr
set_option maxRecDepth 100000 in
set_option maxHeartbeats 16000000 in
theorem walk (W : World) (A0 : Option Addr) (l0 : List Pt) (c0 : Nat) (R0 : IsTopics W A0 l0) :
    Calls Try.prog 4 #[.slice A0 l0.length c0] W fun e w' => e = .returned (.bool true) ∧ Below W.heap.size W w' := by
  obtain ⟨m, hm⟩ : ∃ m, l0.length = m := ⟨_, rfl⟩
  obtain ⟨HT, HSZ, hml⟩ := R0
  rw [hm] at hml ⊢
  unfold maxLen at hml
  have HL0 := Lib.hid hm
  obtain ⟨i0, hi0, hz0, hz1, hz2⟩ := info_parts topInfo
  clear hm
  go_enter Try.func4, Try.ntmps4
  go_wp2_with fail
  go_loopw [3, 4] (fun s p wr => ∃ (j c : Nat) (A : Option Addr), j ≤ m ∧ j ≤ 12 ∧ p = .int .i64 j ∧ s = .slice A j c ∧ Hid (TL W wr (l0.take j) A j c)) (fun _ p _ => 12 - (intOf p).toNat)
  case atStart => exact ⟨0, 0, _, Nat.zero_le _, by omega, rfl, rfl, Lib.hid ⟨World.ownsRow_made W #[] 0 (Nat.le_refl _) (by unfold maxLen; omega) rfl, rfl, one_box' _⟩⟩
  case round =>
    obtain ⟨j, c, A, hj, hj12, rfl, rfl, HP⟩ := hrel
    by_cases hlt : j < m ∧ j < 12
    · obtain ⟨h1, h2⟩ := hlt
      obtain ⟨og, oo, rfl, hog, hcs⟩ := HT.out (by rw [HL0.out]; omega)
      obtain ⟨⟨t, n⟩, hst⟩ : ∃ y, l0[j]? = some y := ⟨l0[j]'(by rw [HL0.out]; exact h1), List.getElem?_eq_getElem _⟩
      obtain ⟨e0, e1⟩ := hcs j _ hst
      dsimp only at e0 e1
      have d0 := (HP.out.bel.cell (p := ⟨og, oo + j * 2, none⟩) hog).trans e0
      have d1 := (HP.out.bel.cell (p := ⟨og, oo + j * 2 + 1, none⟩) hog).trans e1
      have HTS : Hid (t.size ≤ maxLen) := Lib.hid (HSZ.out _ (List.mem_of_getElem? hst))
      have hT1 : (l0.take (j + 1)).map cutP = (l0.take j).map cutP ++ [⟨cutB t, n⟩] := by rw [List.take_add_one, hst, List.map_append]; rfl
      have HNX := Lib.hid hT1
      have HSZ2 := Lib.hid HP.out.bel.size
      have HROW := Lib.hid HP.out.row
      obtain ⟨u, hu⟩ : ∃ u, cutB t = u := ⟨_, rfl⟩
      have HU := Lib.hid hu
      have j0 : (0 : Int) ≤ (j : Int) := by omega
      have j1 : (j : Int) < (m : Int) := by omega
      have j2 : (j : Int) < 12 := by omega
      have E0 := Lib.hid e0
      have E1 := Lib.hid e1
      clear hcs hst hT1 hu e0 e1
      go_upto_region 5 with fail
      go_region_held3 (fun w' => w'.cell? ⟨og, oo + j * 2, none⟩ = some (.string t) ∧ w'.cell? ⟨og, oo + j * 2 + 1, none⟩ = some (.int .i64 n))
        (first
          | assumption
          | go_keep
          | exact ⟨(HB4.out.cell (p := ⟨og, oo + j * 2, none⟩) hog).trans E0.out, (HB4.out.cell (p := ⟨og, oo + j * 2 + 1, none⟩) hog).trans E1.out⟩)
        (first
          | (go_at_call 9; refine (cut_is _ t u HTS.out HU).mono ?_; rintro e w1 ⟨rfl, hw1⟩; obtain rfl := hw1.symm)
          | (refine step_append_lies _ (by rfl) _ _ _ (by rfl) W.heap.size 46 i0 _ 2 24 Try.underlying27 hi0 hz0 hz1 hz2 rfl (by decide) (.slice A j c) j _ (by rfl) ((HROW.out.alloc _).drew) ⟨wr.heap.size, 0, none⟩ 1 1 [.string u, .int .i64 n] (by rfl) (by rfl) (World.news_of_block (cs := #[.string u, .int .i64 n]) (t := 46) (fr := (0, 0)) (heap_alloc_new wr _)) (by simp [Value.oneCell']) (by decide) (by unfold maxLen; omega) (by omega) (by have := HSZ2.out; simp; omega) (wr.heap.size + 1) (by simp) ?_; intro gg cap w1 hown1 hgrow hat hgl; have HB4 : Hid (Below W.heap.size W w1) := Lib.hid (((HP.out.bel.alloc HSZ2.out _).drew).grown hgrow (by have := HSZ2.out; simp; omega) (fun z e => (HROW.out.lt z e).1))))
      go_wp2_with fail
      go_roundw
      case rel => exact ⟨j + 1, cap, some ⟨gg, 0, none⟩, by omega, by omega, by go_num, rfl, Lib.hid ⟨by rw [HNX.out, rowP_app, HU.out]; exact hown1, by rw [List.length_take, HL0.out]; omega, HB4.out⟩⟩
      case measure => simp [intOf]; omega
    · have hd : m ≤ j ∨ (j < m ∧ 12 ≤ j) := by omega
      rcases hd with hd | ⟨hd1, hd2⟩
      · have j1 : ¬ (j : Int) < (m : Int) := by omega
        obtain ⟨M, hM⟩ : ∃ M, (l0.take j).map cutP = M := ⟨_, rfl⟩
        have hML : M.length = j := by rw [← hM, List.length_map]; exact HP.out.len
        have HLM := Lib.hid hML
        have HS40 : Hid (∀ y ∈ M, y.t.size ≤ 281474976710656) := Lib.hid (fun y hy => by rw [← hM] at hy; obtain ⟨z, _, rfl⟩ := List.mem_map.1 hy; have := cutB_size z.t; show (cutB z.t).size ≤ _; omega)
        have HS41 : Hid (∀ y ∈ M, y.t.size ≤ maxLen) := Lib.hid (fun y hy => by have := HS40.out y hy; unfold maxLen; omega)
        have hrow := HP.out.row
        have hbel := HP.out.bel
        rw [hM] at hrow
        have HR := Lib.hid (own_reads hrow hML (own_lt hrow))
        have HNIL := Lib.hid (own_nil hrow)
        have HB := Lib.hid hbel
        obtain ⟨x, hx⟩ := load_ex M
        have HX := Lib.hid hx
        clear hx hrow hbel hM HP hml HT HSZ HL0
        by_cases hx0 : x = 0
        · subst hx0
          go_wp2_with (first
            | (go_at_call 28; have _q := hb1; refine (rload_is w1 A j c M 0 HLM (by omega) HR1 HNIL HS41 HX).mono ?_; rintro e w2 h2; obtain ⟨hb2, k2, rfl⟩ := rload_ok h2; have HR2 := Lib.hid (reads_keep HR1.out (KeepC.below hb2) hb2.size); have M2 := Lib.hid (M1.out.below hb2); clear h2)
            | (go_at_call 27; refine (m9_load W wr A j c M HB HLM (by omega) HR HS40 HX).mono ?_; rintro e w1 ⟨g1, b1, rfl, m1, hb1⟩; have M1 := Lib.hid m1; have HR1 := Lib.hid (reads_keep HR.out (KeepC.below hb1) hb1.size); clear m1))
          clear HLM
          subst hML
          go_wp2_with (first
            | (go_at_call 26; have _q := hb4; refine (fixed9_any _).mono ?_; rintro e w5 ⟨rfl, hb5⟩)
            | (go_at_call 18; have _q := HR3; refine (rsame_is A3 A M M c3 c w3.heap.size true w3 HR3 HR3b (Nat.le_refl _) (by unfold maxLen; omega) (Lib.hid (by simp))).mono ?_; rintro e w4 ⟨rfl, hb4⟩)
            | (go_at_call 17; refine (m9_list M.length M2 rfl).mono ?_; rintro e w3 ⟨A3, c3, rfl, o3, hb3⟩; have HR3 := Lib.hid (own_reads o3 rfl (own_lt o3)); have HR3b := Lib.hid (reads_keep HR2.out (KeepC.below hb3) hb3.size); have M3 := Lib.hid (M2.out.below hb3); clear o3))
          go_ret
          exact ⟨rfl, (M3.out.below hb4).bel.trans (hb5.mono (M3.out.below hb4).bel.size)⟩
        · have hxi : (x == 0) = false := by simpa using hx0
          have HX0 := Lib.hid hx0
          go_wp2_with (first
            | (go_at_call 26; have _q := hb2; refine (fixed9_any _).mono ?_; rintro e w5 ⟨rfl, hb5⟩)
            | (go_at_call 28; have _q := hb1; refine (rload_is w1 A j c M x HLM (by omega) HR1 HNIL HS41 HX).mono ?_; rintro e w2 h2; obtain ⟨hb2, rfl⟩ := rload_no HX0.out h2; clear h2)
            | (go_at_call 27; refine (m9_load_no wr A j c M x hx0 HLM (by omega) HR HS40 HX).mono ?_; rintro e w1 ⟨rfl, hb1⟩; have HR1 := Lib.hid (reads_keep HR.out (KeepC.below hb1) hb1.size)))
          go_ret
          exact ⟨rfl, ((HB.out.trans (hb1.mono HB.out.size)).trans (hb2.mono (HB.out.trans (hb1.mono HB.out.size)).size)).trans (hb5.mono ((HB.out.trans (hb1.mono HB.out.size)).trans (hb2.mono (HB.out.trans (hb1.mono HB.out.size)).size)).size)⟩
      · have j1 : (j : Int) < (m : Int) := by omega
        have j2 : ¬ (j : Int) < 12 := by omega
        obtain ⟨M, hM⟩ : ∃ M, (l0.take j).map cutP = M := ⟨_, rfl⟩
        have hML : M.length = j := by rw [← hM, List.length_map]; exact HP.out.len
        have HLM := Lib.hid hML
        have HS40 : Hid (∀ y ∈ M, y.t.size ≤ 281474976710656) := Lib.hid (fun y hy => by rw [← hM] at hy; obtain ⟨z, _, rfl⟩ := List.mem_map.1 hy; have := cutB_size z.t; show (cutB z.t).size ≤ _; omega)
        have HS41 : Hid (∀ y ∈ M, y.t.size ≤ maxLen) := Lib.hid (fun y hy => by have := HS40.out y hy; unfold maxLen; omega)
        have hrow := HP.out.row
        have hbel := HP.out.bel
        rw [hM] at hrow
        have HR := Lib.hid (own_reads hrow hML (own_lt hrow))
        have HNIL := Lib.hid (own_nil hrow)
        have HB := Lib.hid hbel
        obtain ⟨x, hx⟩ := load_ex M
        have HX := Lib.hid hx
        clear hx hrow hbel hM HP hml HT HSZ HL0
        by_cases hx0 : x = 0
        · subst hx0
          go_wp2_with (first
            | (go_at_call 28; have _q := hb1; refine (rload_is w1 A j c M 0 HLM (by omega) HR1 HNIL HS41 HX).mono ?_; rintro e w2 h2; obtain ⟨hb2, k2, rfl⟩ := rload_ok h2; have HR2 := Lib.hid (reads_keep HR1.out (KeepC.below hb2) hb2.size); have M2 := Lib.hid (M1.out.below hb2); clear h2)
            | (go_at_call 27; refine (m9_load W wr A j c M HB HLM (by omega) HR HS40 HX).mono ?_; rintro e w1 ⟨g1, b1, rfl, m1, hb1⟩; have M1 := Lib.hid m1; have HR1 := Lib.hid (reads_keep HR.out (KeepC.below hb1) hb1.size); clear m1))
          clear HLM
          subst hML
          go_wp2_with (first
            | (go_at_call 26; have _q := hb4; refine (fixed9_any _).mono ?_; rintro e w5 ⟨rfl, hb5⟩)
            | (go_at_call 18; have _q := HR3; refine (rsame_is A3 A M M c3 c w3.heap.size true w3 HR3 HR3b (Nat.le_refl _) (by unfold maxLen; omega) (Lib.hid (by simp))).mono ?_; rintro e w4 ⟨rfl, hb4⟩)
            | (go_at_call 17; refine (m9_list M.length M2 rfl).mono ?_; rintro e w3 ⟨A3, c3, rfl, o3, hb3⟩; have HR3 := Lib.hid (own_reads o3 rfl (own_lt o3)); have HR3b := Lib.hid (reads_keep HR2.out (KeepC.below hb3) hb3.size); have M3 := Lib.hid (M2.out.below hb3); clear o3))
          go_ret
          exact ⟨rfl, (M3.out.below hb4).bel.trans (hb5.mono (M3.out.below hb4).bel.size)⟩
        · have hxi : (x == 0) = false := by simpa using hx0
          have HX0 := Lib.hid hx0
          go_wp2_with (first
            | (go_at_call 26; have _q := hb2; refine (fixed9_any _).mono ?_; rintro e w5 ⟨rfl, hb5⟩)
            | (go_at_call 28; have _q := hb1; refine (rload_is w1 A j c M x HLM (by omega) HR1 HNIL HS41 HX).mono ?_; rintro e w2 h2; obtain ⟨hb2, rfl⟩ := rload_no HX0.out h2; clear h2)
            | (go_at_call 27; refine (m9_load_no wr A j c M x hx0 HLM (by omega) HR HS40 HX).mono ?_; rintro e w1 ⟨rfl, hb1⟩; have HR1 := Lib.hid (reads_keep HR.out (KeepC.below hb1) hb1.size)))
          go_ret
          exact ⟨rfl, ((HB.out.trans (hb1.mono HB.out.size)).trans (hb2.mono (HB.out.trans (hb1.mono HB.out.size)).size)).trans (hb5.mono ((HB.out.trans (hb1.mono HB.out.size)).trans (hb2.mono (HB.out.trans (hb1.mono HB.out.size)).size)).size)⟩

set_option maxRecDepth 100000 in
set_option maxHeartbeats 1000000 in
theorem lifted (os : Os) (started : os.Started) (H : Type) (enc : TypeId × Value → H) :
    ReturnsInHanded {} Try.checked os 4 .any (Rows.topicsLoadsSpec.pre6 enc Try.prog Try.f4 Rows.topicsLoadsRow.domain false) (Rows.topicsLoadsSpec.post enc Try.prog Try.f4 false true false false) := by
  refine returnsInHanded_of_change (C := Try.checked) own started (by kernel_rfl) Try.func4
    (ChangeSpec.witness6 (enc := enc) (C := Try.checked) false ⟨#[], #[.slice none 0 0], []⟩ 8 (by kernel_rfl) (by kernel_rfl) (by kernel_rfl) (by kernel_rfl)) ?_
  intro W base args ds gs before hval0 hW _ _
  have hval : ∀ (j : Nat) t v, Try.f4.params[j]? = some t → args[j]? = some v → Value.okWide Try.prog W .any base t v := hval0
  have hW' := hW
  obtain ⟨p, q, hA0, hV, rfl, hfz, hnd⟩ := hW
  have hA : DataW.TrodAll enc Try.prog W 0 (fun _ => true) true Try.f4.params.toList args.toList ds p := hA0
  rw [Try.params4] at hA hval
  obtain ⟨v0, vs0, d0, ds0, p0, q0, hargs, rfl, rfl, h0, r0⟩ := trodAll_cons hA
  obtain ⟨rfl, rfl, rfl⟩ := trodAll_nil r0
  obtain rfl : args = #[v0] := by cases args; simp_all
  obtain ⟨rfl, rfl⟩ := trodVars_none hV
  have k0 := h0
  have lt0 : ∀ x ∈ p0, x.block < W.heap.size := by obtain ⟨m, hm⟩ := k0; exact DataW.trod_lt m _ _ _ hm
  obtain ⟨A0, l0, c0, e0, R0⟩ := L9.open_topics (hval 0 27 v0 rfl rfl) h0
  subst e0
  clear hA0 hval0
  refine (walk W A0 l0 c0 R0).mono fun e W' ⟨he, bel⟩ => ?_
  subst he
  exact ⟨_, rfl, _, _, _, [], _, [], hW', trodAll_mk1 (shut_bool Try.underlying4 _), (trodAll_cons_mk (Below.trod laidOut (by kernel_rfl) (of_decide_eq_true (by kernel_rfl)) k0 bel lt0) trodAll_mk0), rfl, bel.frame _, fun h => by cases h⟩

theorem over : Rows.topicsLoadsRow.holds Try.pinned (OpenSpec.ofChange Rows.topicsLoadsSpec) :=
  OpenClaim.holds_of_wide 4 Try.f4 rfl rfl rfl rfl rfl rfl rfl ⟨rfl, rfl, rfl, rfl, rfl⟩ rfl rfl rfl rfl rfl (by kernel_rfl) Try.func4 (by kernel_rfl)
    (of_decide_eq_true (by kernel_rfl)) (by unfold Func.isWrapper; first | (rw [if_pos (by decide +kernel)]; kernel_rfl) | (rw [if_neg (by decide +kernel)]; exact ⟨rfl, rfl⟩))
    (fun os started H enc _ => lifted os started H enc)

/-- the statement -/
theorem proved : Rows.TopicsLoadsSaid :=
  over
#print axioms proved
end Go.Proofs.Ytohfbmgonjkhhaa.topicsLoads
