/-
  Whether any marks may be a table's is as the document says; what is loaded is told as it was.
-/
import Derived.Test.YtcpfihagcmadcaaRows
import Derived.WalkKit
import Derived.ProofKit
import Derived.OpenShut
import Derived.ShutString
import Derived.ChangeOld
import Derived.Below
import Derived.Test.YtcpfihagcmadcaaOfFixed
import Derived.Test.YtcpfihagcmadcaaOfRload
import Derived.LoopTactic
import Derived.IntWalk
import Derived.Deep.DeepCutAuto
import Derived.Deep.CutBlock
namespace Go.Proofs.Ytcpfihagcmadcaa.offsetsLoads
open Go.ChangeShapes Go.WideShapes Go.ChangeAt Go.RowKit Go.Deep
open Go.ChangeMaps (open_string shut_string)
open L3 L4 L12

theorem own : ownKnob Try.prog.godebug = none := by kernel_rfl
theorem laidOut : laidOutB Try.prog = true := by kernel_rfl

theorem own_isM {w : World} {base n c : Nat} {T : TypeId} {A : Option Addr} {l : List Mr} (h : w.ownsRow base T 4 (.slice A n c) n (rowM l)) (hn : l.length = n) (n1 : n ≤ 1000000) (S : ∀ m ∈ l, SizeR m ∧ m.g.size ≤ 40 ∧ m.t.size ≤ 40) : IsM w A n l :=
  ⟨own_reads h hn (own_lt h), hn, n1, fun m hm => by
    obtain ⟨s, a1, a2⟩ := S m hm
    exact ⟨by omega, by omega, s.2.2.1, s.2.2.2⟩⟩
theorem cut_sizes {l0 : List Mr} (SO : ∀ r ∈ l0, SizeR r) (j : Nat) : ∀ m ∈ (l0.take j).map cutM, SizeR m ∧ m.g.size ≤ 40 ∧ m.t.size ≤ 40 := fun m hm => by
  obtain ⟨y, hy, rfl⟩ := List.mem_map.1 hm
  exact ⟨cutM_size (SO y (List.mem_of_mem_take hy)), cutB_size _, cutB_size _⟩
theorem own_nil2 {w : World} {base n c size : Nat} {T : TypeId} {A : Option Addr} {xs : List Value} (h : w.ownsRow base T size (.slice A n c) n xs) : A = none → n = 0 ∧ c = 0 := fun e => by
  rcases h.2 with ⟨q, e0⟩ | ⟨g, c', cur, q, _⟩
  · injection q with _ _ q; exact ⟨e0, q⟩
  · injection q with q; rw [e] at q; cases q
set_option maxRecDepth 100000 in
set_option maxHeartbeats 16000000 in
theorem walk (W : World) (A0 : Option Addr) (l0 : List Mr) (c0 : Nat) (RO : Hid (MarksO W W.heap.size A0 l0)) (SO : Hid (∀ r ∈ l0, SizeR r)) (Z0 : l0.length ≤ maxLen) :
    Calls Try.prog 4 #[.slice A0 l0.length c0] W fun e w' => e = .returned (.bool true) ∧ Below W.heap.size W w' := by
  obtain ⟨i0, hi0, hz0, hz1, hz2⟩ := info_parts markInfo
  obtain ⟨n0, hn0⟩ : ∃ n, l0.length = n := ⟨_, rfl⟩
  have HN := Lib.hid hn0
  have Z1 := Z0
  unfold maxLen at Z1
  rw [hn0] at Z1 ⊢
  have HW0 : Hid (Below W.heap.size W (W.alloc (.cells #[] 32))) := Lib.hid (one_box' _)
  have HOWN0 : Hid ((W.alloc (.cells #[] 32)).ownsRow W.heap.size 32 4 (.slice (some ⟨W.heap.size, 0, none⟩) 0 0) 0 (rowM ((l0.take 0).map cutM))) := Lib.hid (World.ownsRow_made W #[] 0 (Nat.le_refl _) (by unfold maxLen; omega) rfl)
  clear hn0 Z0
  go_enter Try.func4, Try.ntmps4
  go_upto_block 0 with fail
  go_cut [3, 4] (fun sv i we => ∃ (j : Nat) (A5 : Option Addr) (c5 : Nat), j ≤ n0 ∧ j ≤ 60 ∧ i = .int .i64 j ∧ sv = .slice A5 j c5 ∧ Hid (we.ownsRow W.heap.size 32 4 (.slice A5 j c5) j (rowM ((l0.take j).map cutM))) ∧ Hid (Below W.heap.size W we))
  case' first =>
   go_wp2_with fail
   go_loopw [3, 4] (fun sv i wr => ∃ (j : Nat) (A5 : Option Addr) (c5 : Nat), j ≤ n0 ∧ j ≤ 60 ∧ i = .int .i64 j ∧ sv = .slice A5 j c5 ∧ Hid (wr.ownsRow W.heap.size 32 4 (.slice A5 j c5) j (rowM ((l0.take j).map cutM))) ∧ Hid (Below W.heap.size W wr)) (fun _ i _ => n0 - (intOf i).toNat)
   case' atStart => exact ⟨0, _, 0, Nat.zero_le _, Nat.zero_le _, rfl, rfl, HOWN0, HW0⟩
   case' round =>
    obtain ⟨j, A5, c5, hj, hj6, rfl, rfl, HO, HB⟩ := hrel
    by_cases hlt : j < n0 ∧ j < 60
    · obtain ⟨hlt, hlt6⟩ := hlt
      obtain ⟨ga, oo, rfl, hga, hcells⟩ := RO.out (by rw [HN.out]; omega)
      obtain ⟨⟨gr, t, p, o⟩, hst⟩ : ∃ st, l0[j]? = some st := ⟨l0[j]'(by rw [HN.out]; exact hlt), List.getElem?_eq_getElem _⟩
      obtain ⟨x0, x1, x2, x3⟩ := hcells j _ hst
      have d0 := cell_at HB.out x0
      have d1 := cell_at HB.out x1
      have d2 := cell_at HB.out x2
      have d3 := cell_at HB.out x3
      dsimp only at d0 d1 d2 d3
      obtain ⟨z0, z1, z2, z3⟩ := SO.out _ (List.mem_of_getElem? hst)
      dsimp only at z0 z1 z2 z3
      obtain ⟨cg, hcg⟩ : ∃ c, cutB gr = c := ⟨_, rfl⟩
      obtain ⟨ct, hct⟩ : ∃ c, cutB t = c := ⟨_, rfl⟩
      have HCG := Lib.hid hcg
      have HCT := Lib.hid hct
      have HROW : Hid (rowM ((l0.take (j + 1)).map cutM) = rowM ((l0.take j).map cutM) ++ [.string cg, .string ct, .int .i64 p, .int .i64 o]) := Lib.hid (by
        rw [List.take_add_one, hst, Option.toList_some, List.map_append, rowM_app, ← hcg, ← hct]; simp [rowM, mkC, cutM])
      have k0 : (0 : Int) ≤ (j : Int) := by omega
      have k1 : (j : Int) < (n0 : Int) := by omega
      have k6 : (j : Int) < 60 := by omega
      have ltA : ga < wr.heap.size := Nat.lt_of_lt_of_le hga HB.out.size
      have hwz : W.heap.size ≤ wr.heap.size := HB.out.size
      clear hst hcells x0 x1 x2 x3 z2 z3 hcg hct
      go_wp2_with (first
        | (at_builtin; refine wpList_append_own _ rfl _ _ 26 rfl W.heap.size 32 i0 _ 4 48 Try.underlying26 hi0 hz0 hz1 hz2 rfl (by decide) _ _ _ rfl (HO2.out.alloc _) ⟨w2.heap.size, 0, none⟩ 1 1 [.string cg, .string ct, .int .i64 p, .int .i64 o] rfl rfl (cells_four _ _ _ _ _ _) (by simp [Value.oneCell']) (by unfold maxLen; omega) (by omega) (by simp; omega) ?_; intro v' w3 hown' hgrow _)
        | (go_at_call 6; refine (cut_is _ gr t cg ct p o z0 z1 HCG HCT).mono ?_; rintro e w2 ⟨rfl, hb2⟩; have hw2 := hb2.size; have HO2 : Hid (w2.ownsRow W.heap.size 32 4 (.slice A5 j c5) j (rowM ((l0.take j).map cutM))) := Lib.hid (L12.own_below HO.out hb2); have HB2 : Hid (Below W.heap.size W w2) := Lib.hid (HB.out.trans (hb2.mono HB.out.size)); clear hb2))
      obtain ⟨A6, c6, rfl⟩ := own_len hown'
      have HO1 : Hid (w3.ownsRow W.heap.size 32 4 (.slice A6 (j + 1) c6) (j + 1) (rowM ((l0.take (j + 1)).map cutM))) := Lib.hid (by rw [HROW.out]; exact hown')
      have HB3 : Hid (Below W.heap.size W w3) := Lib.hid ((HB2.out.alloc HB2.out.size _).grown hgrow (HB2.out.alloc HB2.out.size _).size (fun q e => (HO2.out.lt q e).1))
      clear hown' hgrow
      go_roundw
      case rel => exact ⟨j + 1, A6, c6, by omega, by omega, by go_num, rfl, HO1, HB3⟩
      case measure => simp [intOf]; omega
    · have hor : ¬ j < n0 ∨ (j < n0 ∧ ¬ j < 60) := by omega
      rcases hor with h1 | ⟨h1, h2⟩
      · have q1 : ¬ (j : Int) < (n0 : Int) := by omega
        clear hlt h1
        go_wp2_with fail
        go_meet
        exact ⟨j, A5, c5, hj, hj6, rfl, rfl, HO, HB⟩
      · have q1 : (j : Int) < (n0 : Int) := by omega
        have q2 : ¬ (j : Int) < 60 := by omega
        clear hlt h1 h2
        go_wp2_with fail
        go_meet
        exact ⟨j, A5, c5, hj, hj6, rfl, rfl, HO, HB⟩
  case' rest =>
   obtain ⟨j, A5, c5, hj, hj6, rfl, rfl, HO, HB⟩ := hcut
   obtain ⟨we, rfl⟩ : ∃ x, x = wc := ⟨_, rfl⟩
   obtain ⟨l, hl⟩ : ∃ l, (l0.take j).map cutM = l := ⟨_, rfl⟩
   have hlen : l.length = j := by rw [← hl, List.length_map, List.length_take, HN.out]; omega
   have hsz := cut_sizes SO.out j
   rw [hl] at hsz HO
   have j1 : j ≤ 1000000 := by omega
   have HE : Hid (IsM we A5 j l) := Lib.hid (own_isM HO.out hlen j1 hsz)
   have HNIL : Hid (A5 = none → j = 0 ∧ c5 = 0) := Lib.hid (own_nil2 HO.out)
   have HLEN := Lib.hid hlen
   clear hl hlen hsz RO SO
   by_cases hok : OkTo l l.length
   · have HG : Hid (L12.Good l) := Lib.hid (by have := hok.good (Nat.le_refl _); rwa [List.take_length] at this)
     have HX : Hid (loadE l 0) := Lib.hid (.inl ⟨rfl, hok⟩)
     clear hok
     go_wp2_with (first
       | (go_at_call 20; have _q := HB8; refine (fixed12_any _).mono ?_; rintro e w9 ⟨rfl, h9⟩; have HB9 : Hid (Below W.heap.size W w9) := Lib.hid (HB8.out.trans (h9.mono HB8.out.size)); clear h9)
       | (go_at_call 17; have _q := RD7; refine (rsame_is _ _ _ l j _ _ RD7 RD5 HLEN j1).mono ?_; rintro e w8 ⟨rfl, h8⟩; have HB8 : Hid (Below W.heap.size W w8) := Lib.hid (HB7.out.trans (h8.mono HB7.out.size)); clear h8)
       | (go_at_call 16; have _q := HB6; refine (m_list j (Lib.hid (MT.out.below HB56.out)) HLEN j1).mono ?_; rintro e w7 ⟨A7, c7, rfl, ho7, h7⟩; have HB7 : Hid (Below W.heap.size W w7) := Lib.hid (HB6.out.trans (h7.mono HB6.out.size)); have RD7 : Hid (ReadsM w7 w7.heap.size A7 l) := Lib.hid (own_reads ho7 HLEN.out (own_lt ho7)); have RD5 : Hid (ReadsM w7 w7.heap.size A5 l) := Lib.hid (((HE.out.below HBE6.out).below h7).rd); clear ho7 h7)
       | (go_at_call 22; have _q := HB5; refine (rload_is _ A5 j c5 l 0 (Lib.hid (HE.out.below HBE5.out)) HNIL HX).mono ?_; rintro e w6 ⟨h6, hh⟩; rcases hh with ⟨hh, -⟩ | ⟨-, kk, rfl⟩; (exact absurd rfl hh); have HB6 : Hid (Below W.heap.size W w6) := Lib.hid (HB5.out.trans (h6.mono HB5.out.size)); have HBE6 : Hid (Below we.heap.size we w6) := Lib.hid (HBE5.out.trans (h6.mono HBE5.out.size)); have HB56 := Lib.hid h6; clear h6)
       | (go_at_call 21; refine (m_load W we A5 j c5 l HB HE HG).mono ?_; rintro e w5 ⟨g5, b5, rfl, mt, h5⟩; have MT := Lib.hid mt; have HBE5 := Lib.hid h5; have HB5 : Hid (Below W.heap.size W w5) := Lib.hid (HB.out.trans (h5.mono HB.out.size)); clear mt h5))
     go_ret
     exact ⟨rfl, HB9.out⟩
   · have HX : Hid (loadE l 1) := Lib.hid (.inr ⟨rfl, hok⟩)
     have HNO := Lib.hid hok
     clear hok
     go_wp2_with (first
       | (go_at_call 20; have _q := HB6; refine (fixed12_any _).mono ?_; rintro e w9 ⟨rfl, h9⟩; have HB9 : Hid (Below W.heap.size W w9) := Lib.hid (HB6.out.trans (h9.mono HB6.out.size)); clear h9)
       | (go_at_call 22; have _q := HB5; refine (rload_is _ A5 j c5 l 1 (Lib.hid (HE.out.below HBE5.out)) HNIL HX).mono ?_; rintro e w6 ⟨h6, hh⟩; rcases hh with ⟨-, rfl⟩ | ⟨hh, -⟩; rotate_left; (exact absurd hh (by decide)); have HB6 : Hid (Below W.heap.size W w6) := Lib.hid (HB5.out.trans (h6.mono HB5.out.size)); clear h6)
       | (go_at_call 21; refine (m_load_no we A5 j c5 l HE HNO).mono ?_; rintro e w5 ⟨rfl, h5⟩; have HBE5 := Lib.hid h5; have HB5 : Hid (Below W.heap.size W w5) := Lib.hid (HB.out.trans (h5.mono HB.out.size)); clear h5))
     go_ret
     exact ⟨rfl, HB9.out⟩

set_option maxRecDepth 100000 in
set_option maxHeartbeats 1000000 in
theorem lifted (os : Os) (started : os.Started) (H : Type) (enc : TypeId × Value → H) :
    ReturnsInHanded {} Try.checked os 4 .any (Rows.offsetsLoadsSpec.pre6 enc Try.prog Try.f4 Rows.offsetsLoadsRow.domain false) (Rows.offsetsLoadsSpec.post enc Try.prog Try.f4 false true false false) := by
  refine returnsInHanded_of_change (C := Try.checked) own started (by kernel_rfl) Try.func4
    (ChangeSpec.witness6 (enc := enc) (C := Try.checked) false ⟨#[], #[.slice none 0 0], []⟩ 8 (by kernel_rfl) (by kernel_rfl) (by kernel_rfl) (by kernel_rfl)) ?_
  intro W base args ds gs before hval0 hW _ _
  have hval : ∀ (j : Nat) t v, Try.f4.params[j]? = some t → args[j]? = some v → Value.okWide Try.prog W .any base t v := hval0
  have hW' := hW
  obtain ⟨p, q, hA0, hV, rfl, hfz, hnd⟩ := hW
  have hA : DataW.TrodAll enc Try.prog W 0 (fun _ => true) true Try.f4.params.toList args.toList ds p := hA0
  rw [Try.params4] at hA hval
  obtain ⟨v0, vs0, d0, ds0, p0, q0, hargs, rfl, rfl, h0, r0⟩ := trodAll_cons hA
  obtain ⟨rfl, rfl, rfl⟩ := trodAll_nil r0
  obtain rfl : args = #[v0] := by cases args; simp_all
  obtain ⟨rfl, rfl⟩ := trodVars_none hV
  have k0 := h0
  have lt0 : ∀ x ∈ p0, x.block < W.heap.size := by obtain ⟨m, hm⟩ := k0; exact DataW.trod_lt m _ _ _ hm
  obtain ⟨A0, l0, c0, e0, R0, S0, Z0⟩ := L12.open_marks (hval 0 26 v0 rfl rfl) h0
  subst e0
  clear hA0 hval0
  refine (walk W A0 l0 c0 R0 S0 Z0).mono fun e W' ⟨he, bel⟩ => ?_
  subst he
  exact ⟨_, rfl, _, _, _, [], _, [], hW', trodAll_mk1 (shut_bool Try.underlying4 _), (trodAll_cons_mk (Below.trod laidOut (by kernel_rfl) (of_decide_eq_true (by kernel_rfl)) k0 bel lt0) trodAll_mk0), rfl, bel.frame _, fun h => by cases h⟩

theorem over : Rows.offsetsLoadsRow.holds Try.pinned (OpenSpec.ofChange Rows.offsetsLoadsSpec) :=
  OpenClaim.holds_of_wide 4 Try.f4 rfl rfl rfl rfl rfl rfl rfl ⟨rfl, rfl, rfl, rfl, rfl⟩ rfl rfl rfl rfl rfl (by kernel_rfl) Try.func4 (by kernel_rfl)
    (of_decide_eq_true (by kernel_rfl)) (by unfold Func.isWrapper; first | (rw [if_pos (by decide +kernel)]; kernel_rfl) | (rw [if_neg (by decide +kernel)]; exact ⟨rfl, rfl⟩))
    (fun os started H enc _ => lifted os started H enc)

/-- the statement -/
theorem proved : Rows.OffsetsLoadsSaid :=
  over
#print axioms proved
end Go.Proofs.Ytcpfihagcmadcaa.offsetsLoads
