/-
  The document's own: Put.
-/
import Derived.Test.YtcpfihagcmadcaaOfSrc
import Derived.OwnWalk
import Derived.Deep.DeepCutAuto
import Derived.Deep.CutBlock
namespace Go.Proofs.Ytcpfihagcmadcaa.L12
open Go.RowKit
open Go.Maps
open L3 L4

theorem plIns_at {Q : List Mr} {m : Mr} {j : Nat} (hj : j ≤ Q.length) (h1 : ∀ i < j, ∀ y, Q[i]? = some y → befR y m = true) (h2 : ∀ y, Q[j]? = some y → befR y m = false) : plIns Q m = j := by
  induction Q generalizing j with
  | nil => simp at hj; subst hj; rfl
  | cons a t ih =>
    cases j with
    | zero =>
      have := h2 a rfl
      simp [plIns, this]
    | succ j =>
      have ha := h1 0 (by omega) a rfl
      have := ih (j := j) (by simpa using hj) (fun i hi y hy => h1 (i + 1) (by omega) y (by simpa using hy)) (fun y hy => h2 y (by simpa using hy))
      unfold plIns at this ⊢
      rw [List.takeWhile_cons, if_pos ha, List.length_cons, this]
theorem plIns_lt {Q : List Mr} {m : Mr} (h : isR Q m.g m.t m.p = true) : plIns Q m + 1 ≤ Q.length := by
  induction Q with
  | nil => simp [isR] at h
  | cons a t ih =>
    unfold plIns
    rw [List.takeWhile_cons]
    by_cases ha : befR a m = true
    · rw [if_pos ha]
      have hn : isAt m.g m.t m.p a = false := isAt_not.2 (bef_off ha)
      have : isR t m.g m.t m.p = true := by simpa [isR, hn] using h
      have q := ih this
      unfold plIns at q
      simpa using q
    · rw [if_neg ha]; simp
theorem src_off {w : World} {g : Nat} {l : List Mr} (h : Src w (some ⟨g, 0, none⟩) (rowM l)) (j : Nat) (hj : j ≤ l.length) : Src w (some ⟨g, j * 4, none⟩) (rowM (l.drop j)) := by
  refine ⟨(fun e => by cases e), fun ad e i u hu => ?_⟩
  injection e with e; subst e
  rw [rowM_drop _ _ hj, List.getElem?_drop] at hu
  have := h.2 _ rfl _ _ hu
  rw [Addr.add_lit] at this ⊢
  rw [Nat.zero_add] at this
  exact this
theorem rowM_drop_nil {l : List Mr} {j : Nat} (h : l.length ≤ j) : rowM (l.drop j) = [] := by rw [List.drop_eq_nil_of_le h]; rfl
theorem src_if {w : World} {g n : Nat} {c : Prop} [Decidable c] {xs : List Value} (h : Src w (some ⟨g, n, none⟩) xs) (h0 : c → xs = []) : Src w (if c then some ⟨g, 0, none⟩ else some ⟨g, n, none⟩) xs := by
  split
  · rename_i q
    rw [h0 q]
    exact ⟨fun _ => rfl, fun ad e j u hu => by simp at hu⟩
  · exact h
theorem keep9 {W w1 w2 : World} {a a0 a1 a2 a3 b0 b1 b2 b3 : Addr} {v v0 v1 v2 v3 u0 u1 u2 u3 : Value} (h : ((w1.cell? a = some v ∧ w1.cell? a0 = some v0 ∧ w1.cell? a1 = some v1 ∧ w1.cell? a2 = some v2 ∧ w1.cell? a3 = some v3) ∧ (w1.cell? b0 = some u0 ∧ w1.cell? b1 = some u1 ∧ w1.cell? b2 = some u2 ∧ w1.cell? b3 = some u3)) ∧ Below W.heap.size W w1) (hb : Below w1.heap.size w1 w2) :
    ((w2.cell? a = some v ∧ w2.cell? a0 = some v0 ∧ w2.cell? a1 = some v1 ∧ w2.cell? a2 = some v2 ∧ w2.cell? a3 = some v3) ∧ (w2.cell? b0 = some u0 ∧ w2.cell? b1 = some u1 ∧ w2.cell? b2 = some u2 ∧ w2.cell? b3 = some u3)) ∧ Below W.heap.size W w2 :=
  ⟨⟨⟨cell_at hb h.1.1.1, cell_at hb h.1.1.2.1, cell_at hb h.1.1.2.2.1, cell_at hb h.1.1.2.2.2.1, cell_at hb h.1.1.2.2.2.2⟩, ⟨cell_at hb h.1.2.1, cell_at hb h.1.2.2.1, cell_at hb h.1.2.2.2.1, cell_at hb h.1.2.2.2.2⟩⟩, h.2.trans (hb.mono h.2.size)⟩
set_option maxRecDepth 100000 in
set_option maxHeartbeats 16000000 in
theorem rput_ok {w : World} {B k cap : Nat} {A : Option Addr} {Q : List Mr} (gr t : ByteArray) (p o : Int) (L : Nat) (h : Hid (Doc w B k A cap Q)) (hA : Hid (A = none → cap = 0)) (G : Hid (Good Q)) (hB : Hid (B ≤ w.heap.size)) (HL : Hid (Q.length = L)) (hl : L ≤ 1000000) (hg : Hid (gr.size ≤ maxLen)) (ht : Hid (t.size ≤ maxLen)) (HX : Hid (putE Q ⟨gr, t, p, o⟩ = 0)) :
    Calls Try.prog 8 #[.pointer (some ⟨k, 0, none⟩), .agg #[.string gr, .string t, .int .i64 p, .int .i64 o]] w fun e w' => e = .returned (.int .i64 0) ∧ RTurn w B k A (insR Q ⟨gr, t, p, o⟩) w' := by
  obtain ⟨i0, hi0, hz0, hz1, hz2⟩ := info_parts markInfo
  obtain ⟨hm, hat⟩ := putE_ok HX.out
  dsimp only at hat
  obtain ⟨y, hy⟩ : ∃ y, atR Q gr t p = y := ⟨_, rfl⟩
  obtain ⟨v, hv⟩ : ∃ v, isR Q gr t p = v := ⟨_, rfl⟩
  rw [hy, hv] at hat
  have HY := Lib.hid hy
  have HV := Lib.hid hv
  have HM := Lib.hid hm
  have HZ : Hid (∀ y ∈ Q, y.g.size ≤ maxLen ∧ y.t.size ≤ maxLen) := Lib.hid (fun y hy => ⟨(G.out.fits y hy).1, (G.out.fits y hy).2.1⟩)
  obtain ⟨W, hW⟩ : ∃ W, w.alloc (.cells #[.string gr, .string t, .int .i64 p, .int .i64 o] 32) = W := ⟨_, rfl⟩
  have hbW : Below w.heap.size w W := by rw [← hW]; exact one_box' _
  have hr : W.heap[w.heap.size]? = some (.cells #[.string gr, .string t, .int .i64 p, .int .i64 o] 32 (0, 0)) := by rw [← hW]; exact box_row w gr t p o
  obtain ⟨bx, hbx⟩ : ∃ bx, w.heap.size = bx := ⟨_, rfl⟩
  rw [hbx] at hr
  obtain ⟨b0, b1, b2, b3⟩ := row4 hr
  have HBC := Lib.hid (And.intro b0 (And.intro b1 (And.intro b2 b3)))
  have HW := Lib.hid hW
  have HBW := Lib.hid hbW
  have HBX := Lib.hid hbx
  have HD := Lib.hid (h.out.below hbW)
  have ltk : k < w.heap.size := h.out.lt
  clear hW hbW hr hy hv hm hbx
  have hways : (v = true ∧ ¬ y > o) ∨ v = false := by
    cases v
    · exact .inr rfl
    · exact .inl ⟨rfl, by have := hat rfl; omega⟩
  clear hat
  rcases hways with ⟨rfl, o1⟩ | rfl
  · clear ltk
    go_enter Try.func8, Try.ntmps8
    go_upto_region 1 with (fail)
    rw [HW.out, HBX.out]
    go_upto_block 0 with (first
      | (go_at_call 15; refine (rget_is gr t p y true L (Lib.hid (HD.out.below HB1.out)) HL hl HY HV).mono ?_; rintro e w2 ⟨rfl, hb2⟩; have f3 := cell_at hb2 d3; have HB2 : Hid (Below W.heap.size W w2) := Lib.hid (HB1.out.trans (hb2.mono HB1.out.size)); clear hb2 d0 d1 d2 d3)
      | (go_at_call 25; refine (rmay_is gr t p o true _ hg ht HM).mono ?_; rintro e w1 ⟨rfl, hb1⟩; have d0 := cell_at hb1 b0; have d1 := cell_at hb1 b1; have d2 := cell_at hb1 b2; have d3 := cell_at hb1 b3; have HB1 := Lib.hid hb1; clear hb1))
    have HBE2 : Hid (Below W.heap.size W (w2.alloc (.cells #[] 32))) := Lib.hid (HB2.out.alloc HB2.out.size _)
    have HOE2 : Hid ((w2.alloc (.cells #[] 32)).ownsRow W.heap.size 32 4 (.slice (some ⟨w2.heap.size, 0, none⟩) 0 0) 0 []) := Lib.hid (World.ownsRow_made w2 #[] 0 HB2.out.size (by unfold maxLen; omega) rfl)
    clear f3 b0 b1 b2 b3
    go_cut [7, 8] (fun sv i we => ∃ (j : Nat) (A5 : Option Addr) (c5 : Nat), j ≤ L ∧ i = .int .i64 j ∧ sv = .slice A5 j c5 ∧ Hid (∀ i < j, ∀ y, Q[i]? = some y → befR y ⟨gr, t, p, o⟩ = true) ∧ Hid (∀ y, Q[j]? = some y → befR y ⟨gr, t, p, o⟩ = false) ∧ Hid (we.ownsRow W.heap.size 32 4 (.slice A5 j c5) j (rowM (Q.take j))) ∧ Hid (Below W.heap.size W we))
    case' first =>
     go_wp2_with fail
     go_loopw [7, 8] (fun sv i wr => ∃ (j : Nat) (A5 : Option Addr) (c5 : Nat), j ≤ L ∧ i = .int .i64 j ∧ sv = .slice A5 j c5 ∧ Hid (∀ i < j, ∀ y, Q[i]? = some y → befR y ⟨gr, t, p, o⟩ = true) ∧ Hid (wr.ownsRow W.heap.size 32 4 (.slice A5 j c5) j (rowM (Q.take j))) ∧ Hid (Below W.heap.size W wr)) (fun _ i _ => L - (intOf i).toNat)
     case' atStart => exact ⟨0, _, 0, Nat.zero_le _, rfl, rfl, Lib.hid (fun i hi => absurd hi (by omega)), HOE2, HBE2⟩
     case' round =>
      obtain ⟨j, A5, c5, hj, rfl, rfl, HALL, HOJ, HBJ⟩ := hrel
      have hc0 := (HD.out.below HBJ.out).c0
      rw [HL.out] at hc0
      by_cases hlt : j < L
      · obtain ⟨⟨g2, t2, p2, o2⟩, hst⟩ : ∃ st, Q[j]? = some st := ⟨Q[j]'(by rw [HL.out]; exact hlt), List.getElem?_eq_getElem _⟩
        obtain ⟨ga, rfl, -, -, hma, -⟩ := (HD.out.below HBJ.out).mark hst
        obtain ⟨d0, d1, d2, d3⟩ := hma
        dsimp only at d0 d1 d2 d3
        have e0 := cell_at HBJ.out HBC.out.1
        have e1 := cell_at HBJ.out HBC.out.2.1
        have e2 := cell_at HBJ.out HBC.out.2.2.1
        have e3 := cell_at HBJ.out HBC.out.2.2.2
        obtain ⟨z0, z1⟩ := HZ.out _ (List.mem_of_getElem? hst)
        dsimp only at z0 z1
        obtain ⟨b, hb⟩ : ∃ b, befR ⟨g2, t2, p2, o2⟩ ⟨gr, t, p, o⟩ = b := ⟨_, rfl⟩
        have HB := Lib.hid hb
        have HST := Lib.hid hst
        have j0 : (0 : Int) ≤ (j : Int) := by omega
        have j1 : (j : Int) < (L : Int) := by omega
        have j2 : decide ((j : Int) < (L : Int)) = true := decide_eq_true j1
        have j3 : decide (j < L) = true := decide_eq_true hlt
        have hbj := HBJ.out
        clear hst hb
        go_upto_region 7 with (fail)
        go_region_held3 (fun w' => ((w'.cell? ⟨k, 0, none⟩ = some (.slice (some ⟨ga, 0, none⟩) L cap) ∧ w'.cell? ⟨ga, j * 4, none⟩ = some (.string g2) ∧ w'.cell? ⟨ga, j * 4 + 1, none⟩ = some (.string t2) ∧ w'.cell? ⟨ga, j * 4 + 2, none⟩ = some (.int .i64 p2) ∧ w'.cell? ⟨ga, j * 4 + 3, none⟩ = some (.int .i64 o2)) ∧ (w'.cell? ⟨bx, 0, none⟩ = some (.string gr) ∧ w'.cell? ⟨bx, 1, none⟩ = some (.string t) ∧ w'.cell? ⟨bx, 2, none⟩ = some (.int .i64 p) ∧ w'.cell? ⟨bx, 3, none⟩ = some (.int .i64 o))) ∧ Below W.heap.size W w')
          (first | assumption | exact ⟨⟨⟨hc0, d0, d1, d2, d3⟩, ⟨e0, e1, e2, e3⟩⟩, hbj.drew⟩ | exact keep9 (by with_reducible assumption) (by with_reducible assumption))
          (first | (go_at_call 26; refine (rbefore_is g2 t2 gr t p2 o2 p o b _ z0 z1 hg.out ht.out HB).mono ?_; rintro e we ⟨rfl, hbe⟩))
        all_goals
          rename_i hh
          obtain ⟨⟨⟨k0, y0, y1, y2, y3⟩, -⟩, hbw⟩ := hh
          have HBE := Lib.hid hbw
          have HOE : Hid (we.ownsRow W.heap.size 32 4 (.slice A5 j c5) j (rowM (Q.take j))) := Lib.hid (own_below HOJ.out ((Below.refl _ _).drew.trans hbe))
          clear hbe hbw hc0 d0 d1 d2 d3 e0 e1 e2 e3 hbj
          cases b with
          | true =>
            have HNX : Hid (∀ i < j + 1, ∀ y, Q[i]? = some y → befR y ⟨gr, t, p, o⟩ = true) := Lib.hid (fun i hi y hy => by
              by_cases e : i = j
              · subst e
                rw [HST.out] at hy
                injection hy with hy
                subst hy
                exact HB.out
              · exact HALL.out i (by omega) y hy)
            have HROW2 : Hid (rowM (Q.take (j + 1)) = rowM (Q.take j) ++ [.string g2, .string t2, .int .i64 p2, .int .i64 o2]) := Lib.hid (by rw [List.take_add_one, HST.out, Option.toList_some, rowM_app]; simp [rowM, mkC])
            have hwz : W.heap.size ≤ we.heap.size := HBE.out.size
            go_wp2_with (at_builtin; refine wpList_append_own _ rfl _ _ 26 rfl W.heap.size 32 i0 _ 4 48 Try.underlying26 hi0 hz0 hz1 hz2 rfl (by decide) _ _ _ rfl (HOE.out.alloc _) ⟨we.heap.size, 0, none⟩ 1 1 [.string g2, .string t2, .int .i64 p2, .int .i64 o2] rfl rfl (cells_four _ _ _ _ _ _) (by simp [Value.oneCell']) (by unfold maxLen; omega) (by omega) (by simp; omega) ?_; intro v' w3 hown' hgrow _)
            obtain ⟨A6, c6, rfl⟩ := own_len hown'
            have HO1 : Hid (w3.ownsRow W.heap.size 32 4 (.slice A6 (j + 1) c6) (j + 1) (rowM (Q.take (j + 1)))) := Lib.hid (by rw [HROW2.out]; exact hown')
            have HB3 : Hid (Below W.heap.size W w3) := Lib.hid ((HBE.out.alloc HBE.out.size _).grown hgrow (HBE.out.alloc HBE.out.size _).size (fun q e => (HOE.out.lt q e).1))
            clear hown' hgrow
            go_roundw
            case rel => exact ⟨j + 1, A6, c6, by omega, by go_num, rfl, HNX, HO1, HB3⟩
            case measure => simp [intOf]; omega
          | false =>
            have HEND : Hid (∀ y, Q[j]? = some y → befR y ⟨gr, t, p, o⟩ = false) := Lib.hid (fun y hy => by rw [HST.out] at hy; injection hy with hy; subst hy; exact HB.out)
            clear k0 y0 y1 y2 y3
            go_wp2_with fail
            go_meet
            exact ⟨j, A5, c5, hj, rfl, rfl, HALL, HEND, HOE, HBE⟩
      · have hq : ¬ (j : Int) < (L : Int) := by omega
        have hq2 : decide ((j : Int) < (L : Int)) = false := decide_eq_false hq
        have hq3 : decide (j < L) = false := decide_eq_false hlt
        have HEND : Hid (∀ y, Q[j]? = some y → befR y ⟨gr, t, p, o⟩ = false) := Lib.hid (fun y hy => by have := (List.getElem?_eq_some_iff.1 hy).1; rw [HL.out] at this; omega)
        go_upto_region 7 with (fail)
        go_quiet (fail)
        obtain ⟨we, hwe0⟩ : ∃ we, wr.drewN nq = we := ⟨_, rfl⟩
        have HBE : Hid (Below W.heap.size W we) := Lib.hid (by rw [← hwe0]; exact drewN_below HBJ.out _)
        have HOE : Hid (we.ownsRow W.heap.size 32 4 (.slice A5 j c5) j (rowM (Q.take j))) := Lib.hid (by rw [← hwe0]; exact own_below HOJ.out (drewN_below (Below.refl _ _) _))
        rw [hwe0]
        clear hwe0 hc0
        go_wp2_with fail
        go_meet
        exact ⟨j, A5, c5, hj, rfl, rfl, HALL, HEND, HOE, HBE⟩
    case' rest =>
     obtain ⟨j, A5, c5, hj, rfl, rfl, HALL, HEND, HOE, HBE⟩ := hcut
     obtain ⟨we, rfl⟩ : ∃ x, x = wc := ⟨_, rfl⟩
     have HPI : Hid (plIns Q ⟨gr, t, p, o⟩ = j) := Lib.hid (plIns_at (by rw [HL.out]; omega) HALL.out HEND.out)
     have hj1 : j + 1 ≤ L := by rw [← HPI.out, ← HL.out]; exact plIns_lt HV.out
     have HPL0 : Hid (insR Q ⟨gr, t, p, o⟩ = Q.take j ++ ⟨gr, t, p, o⟩ :: Q.drop (j + 1)) := Lib.hid (by
       have := ins_at G.out.sorted ⟨gr, t, p, o⟩
       dsimp only at this
       rw [HPI.out, HV.out] at this
       simpa using this)
     have HWE : Hid (Below w.heap.size w we) := Lib.hid (HBW.out.trans (HBE.out.mono HBW.out.size))
     have HB3 : Hid (Below w.heap.size w (we.alloc (.cells #[.string gr, .string t, .int .i64 p, .int .i64 o] 32))) := Lib.hid (HWE.out.alloc HWE.out.size _)
     have hwe := HWE.out.size
     have hwW := HBE.out.size
     have x0 := cell_at HBE.out HBC.out.1
     have x1 := cell_at HBE.out HBC.out.2.1
     have x2 := cell_at HBE.out HBC.out.2.2.1
     have x3 := cell_at HBE.out HBC.out.2.2.2
     have HCAP : Hid (L ≤ cap) := Lib.hid (by rw [← HL.out]; exact h.out.cap_le)
     go_upto_region 10 with (fail)
     go_cut [7] (fun sv wc => ∃ (n : Nat) (A4 : Option Addr) (c4 : Nat), sv = .slice A4 n c4 ∧ Hid (n = j + 1) ∧ Hid (wc.ownsRow W.heap.size 32 4 (.slice A4 n c4) n (rowM (Q.take j ++ [⟨gr, t, p, o⟩]))) ∧ Hid (Below w.heap.size w wc) ∧ Hid (W.heap.size ≤ wc.heap.size))
     case' first =>
      go_wp2_with (at_builtin; refine wpList_append_own _ rfl _ _ 26 rfl W.heap.size 32 i0 _ 4 48 Try.underlying26 hi0 hz0 hz1 hz2 rfl (by decide) _ _ _ (by rfl) (HOE.out.alloc _) ⟨we.heap.size, 0, none⟩ 1 1 [.string gr, .string t, .int .i64 p, .int .i64 o] (by rfl) (by rfl) (cells_four _ _ _ _ _ _) (by simp [Value.oneCell']) (by unfold maxLen; omega) (by omega) (by simp; omega) ?_; intro v4 w4 hown4 hgrow4 _; have HO4 := Lib.hid hown4; have hgz4 := hgrow4.size; have HB4 : Hid (Below w.heap.size w w4) := Lib.hid (HB3.out.grown hgrow4 HB3.out.size (fun q e => Nat.le_trans HBW.out.size (HOE.out.lt q e).1)); clear hown4 hgrow4; obtain ⟨A4, c4, rfl⟩ := own_len HO4.out)
      go_meet
      exact ⟨j + 1, A4, c4, rfl, Lib.hid rfl, Lib.hid (by rw [rowM_app]; exact HO4.out), HB4, Lib.hid (Nat.le_trans (Nat.le_trans hwW (by simp)) hgz4)⟩
     case' rest =>
      obtain ⟨n, A4, c4, rfl, HN4, HO4, HB4, HW4⟩ := hcut
      obtain ⟨w4, rfl⟩ : ∃ x, x = wc := ⟨_, rfl⟩
      clear x0 x1 x2 x3 hwe hwW
      go_upto_region 12 with (fail)
      go_cut [8] (fun i wc => ∃ jx : Nat, i = .int .i64 jx ∧ Hid (jx = j + 1) ∧ w4 = wc)
      case' first =>
       go_wp2_with fail
       go_meet
       exact ⟨j + 1, by go_num, Lib.hid rfl, rfl⟩
      case' rest =>
       obtain ⟨jx, rfl, HJX, rfl⟩ := hcut
       have HPL : Hid (insR Q ⟨gr, t, p, o⟩ = (Q.take j ++ [⟨gr, t, p, o⟩]) ++ Q.drop jx) := Lib.hid (by rw [HPL0.out, HJX.out]; simp)
       have HLP : Hid ((Q.take j ++ [(⟨gr, t, p, o⟩ : Mr)]).length = n) := Lib.hid (by rw [List.length_append, List.length_take, HL.out, HN4.out, Nat.min_eq_left hj]; rfl)
       have HL3 : Hid ((rowM (Q.drop jx)).length = (L - jx) * 4) := Lib.hid (by rw [rowM_len, List.length_drop, HL.out])
       have HSRC : Hid (∀ w', Below w.heap.size w w' → Src w' A (rowM Q)) := Lib.hid (fun w' hb => (reads_src h.out.reads (fun e => List.eq_nil_of_length_eq_zero (h.out.nilcap hA.out e).1)).below hb)
       have hjL : jx ≤ L := by rw [HJX.out]; exact hj1
       have hcap := HCAP.out
       have hn : n + (L - jx) ≤ 1000001 := by have q1 := HN4.out; have q2 := HJX.out; omega
       have hn2 : n ≤ 1000001 := by omega
       have c04 := (h.out.below HB4.out).c0
       rw [HL.out] at c04
       have jc1 : (jx : Int) ≤ (cap : Int) := by omega
       have jc2 : (jx : Int) ≤ (L : Int) := by omega
       have jc3 : jx ≤ cap := by omega
       have jc0 : (0 : Int) ≤ (jx : Int) := by omega
       have hw4 := HB4.out.size
       have hwW4 := HW4.out
       clear hj1 hj HJX HN4
       cases A with
       | none => exact absurd (h.out.nilcap hA.out rfl).1 (by rw [HL.out]; have := plIns_lt (Q := Q) (m := ⟨gr, t, p, o⟩) HV.out; rw [HL.out] at this; omega)
       | some ad =>
        obtain ⟨ga, rfl⟩ : ∃ ga, ad = ⟨ga, 0, none⟩ := by
          rcases h.out.own.2 with ⟨q, _⟩ | ⟨g, c', cur, q, _⟩
          · cases q
          · injection q with q; injection q with q; exact ⟨g, q⟩
        by_cases hc : cap = jx
        · have hc := hc.symm
          subst hc
          have hL : jx = L := by omega
          subst hL
          have HD0 : Hid (Q.drop jx = []) := Lib.hid (List.drop_of_length_le (by rw [HL.out]; exact Nat.le_refl _))
          go_wp2_with (at_builtin; refine wpList_append_src (by rfl) _ _ 26 (by rfl) W.heap.size 32 i0 _ 4 48 Try.underlying26 hi0 hz0 hz1 hz2 rfl (by decide) (.slice A4 n c4) n _ (by rfl) HO4.out (some ⟨ga, 0, none⟩) 0 0 [] (by rfl) rfl ⟨fun _ => rfl, fun ad e j u hu => (by simp at hu)⟩ (fun e => by cases e) (by simp) (by unfold maxLen; omega) (by omega) (by omega) ?_; intro v5 w5 hown5 hgrow5; have HO5 := Lib.hid hown5; have HB5 : Hid (Below w.heap.size w w5) := Lib.hid (HB4.out.grown hgrow5 HB4.out.size (fun q e => Nat.le_trans HBW.out.size (HO4.out.lt q e).1)); clear hown5 hgrow5; obtain ⟨A5, c5, rfl⟩ := own_len HO5.out; have c05 := (h.out.below HB5.out).c0; have f05 := (h.out.below HB5.out).froz; rw [HL.out] at c05)
          go_ret
          refine ⟨rfl, ?_⟩
          rw [HPL.out]
          refine doc_store h.out hB.out HB5.out (n := n) ?_ (by rw [List.length_append, HD0.out, HLP.out]; rfl)
          rw [HD0.out, List.append_nil]
          have q := own_base HO5.out HBW.out.size
          rw [List.append_nil] at q
          exact q
        · go_wp2_with (at_builtin; refine wpList_append_src (by rfl) _ _ 26 (by rfl) W.heap.size 32 i0 _ 4 48 Try.underlying26 hi0 hz0 hz1 hz2 rfl (by decide) (.slice A4 n c4) n _ (by rfl) HO4.out (some ⟨ga, jx * 4, none⟩) (L - jx) (cap - jx) (rowM (Q.drop jx)) (by rfl) HL3.out (src_off (HSRC.out _ HB4.out) jx (by rw [HL.out]; omega)) (fun e => by cases e) (rowM_one _) (by unfold maxLen; omega) (by omega) (by omega) ?_; intro v5 w5 hown5 hgrow5; have HO5 := Lib.hid hown5; have HB5 : Hid (Below w.heap.size w w5) := Lib.hid (HB4.out.grown hgrow5 HB4.out.size (fun q e => Nat.le_trans HBW.out.size (HO4.out.lt q e).1)); clear hown5 hgrow5; obtain ⟨A5, c5, rfl⟩ := own_len HO5.out; have c05 := (h.out.below HB5.out).c0; have f05 := (h.out.below HB5.out).froz; rw [HL.out] at c05)
          go_ret
          refine ⟨rfl, ?_⟩
          rw [HPL.out]
          refine doc_store h.out hB.out HB5.out (n := n + (L - jx)) ?_ (by rw [List.length_append, List.length_drop, HL.out, HLP.out])
          rw [rowM_app]
          exact own_base HO5.out HBW.out.size
  · clear ltk
    go_enter Try.func8, Try.ntmps8
    go_upto_region 1 with (fail)
    rw [HW.out, HBX.out]
    go_upto_block 0 with (first
      | (go_at_call 15; refine (rget_is gr t p y false L (Lib.hid (HD.out.below HB1.out)) HL hl HY HV).mono ?_; rintro e w2 ⟨rfl, hb2⟩; have f3 := cell_at hb2 d3; have HB2 : Hid (Below W.heap.size W w2) := Lib.hid (HB1.out.trans (hb2.mono HB1.out.size)); clear hb2 d0 d1 d2 d3)
      | (go_at_call 25; refine (rmay_is gr t p o true _ hg ht HM).mono ?_; rintro e w1 ⟨rfl, hb1⟩; have d0 := cell_at hb1 b0; have d1 := cell_at hb1 b1; have d2 := cell_at hb1 b2; have d3 := cell_at hb1 b3; have HB1 := Lib.hid hb1; clear hb1))
    have HBE2 : Hid (Below W.heap.size W (w2.alloc (.cells #[] 32))) := Lib.hid (HB2.out.alloc HB2.out.size _)
    have HOE2 : Hid ((w2.alloc (.cells #[] 32)).ownsRow W.heap.size 32 4 (.slice (some ⟨w2.heap.size, 0, none⟩) 0 0) 0 []) := Lib.hid (World.ownsRow_made w2 #[] 0 HB2.out.size (by unfold maxLen; omega) rfl)
    clear f3 b0 b1 b2 b3
    go_cut [7, 8] (fun sv i we => ∃ (j : Nat) (A5 : Option Addr) (c5 : Nat), j ≤ L ∧ i = .int .i64 j ∧ sv = .slice A5 j c5 ∧ Hid (∀ i < j, ∀ y, Q[i]? = some y → befR y ⟨gr, t, p, o⟩ = true) ∧ Hid (∀ y, Q[j]? = some y → befR y ⟨gr, t, p, o⟩ = false) ∧ Hid (we.ownsRow W.heap.size 32 4 (.slice A5 j c5) j (rowM (Q.take j))) ∧ Hid (Below W.heap.size W we))
    case' first =>
     go_wp2_with fail
     go_loopw [7, 8] (fun sv i wr => ∃ (j : Nat) (A5 : Option Addr) (c5 : Nat), j ≤ L ∧ i = .int .i64 j ∧ sv = .slice A5 j c5 ∧ Hid (∀ i < j, ∀ y, Q[i]? = some y → befR y ⟨gr, t, p, o⟩ = true) ∧ Hid (wr.ownsRow W.heap.size 32 4 (.slice A5 j c5) j (rowM (Q.take j))) ∧ Hid (Below W.heap.size W wr)) (fun _ i _ => L - (intOf i).toNat)
     case' atStart => exact ⟨0, _, 0, Nat.zero_le _, rfl, rfl, Lib.hid (fun i hi => absurd hi (by omega)), HOE2, HBE2⟩
     case' round =>
      obtain ⟨j, A5, c5, hj, rfl, rfl, HALL, HOJ, HBJ⟩ := hrel
      have hc0 := (HD.out.below HBJ.out).c0
      rw [HL.out] at hc0
      by_cases hlt : j < L
      · obtain ⟨⟨g2, t2, p2, o2⟩, hst⟩ : ∃ st, Q[j]? = some st := ⟨Q[j]'(by rw [HL.out]; exact hlt), List.getElem?_eq_getElem _⟩
        obtain ⟨ga, rfl, -, -, hma, -⟩ := (HD.out.below HBJ.out).mark hst
        obtain ⟨d0, d1, d2, d3⟩ := hma
        dsimp only at d0 d1 d2 d3
        have e0 := cell_at HBJ.out HBC.out.1
        have e1 := cell_at HBJ.out HBC.out.2.1
        have e2 := cell_at HBJ.out HBC.out.2.2.1
        have e3 := cell_at HBJ.out HBC.out.2.2.2
        obtain ⟨z0, z1⟩ := HZ.out _ (List.mem_of_getElem? hst)
        dsimp only at z0 z1
        obtain ⟨b, hb⟩ : ∃ b, befR ⟨g2, t2, p2, o2⟩ ⟨gr, t, p, o⟩ = b := ⟨_, rfl⟩
        have HB := Lib.hid hb
        have HST := Lib.hid hst
        have j0 : (0 : Int) ≤ (j : Int) := by omega
        have j1 : (j : Int) < (L : Int) := by omega
        have j2 : decide ((j : Int) < (L : Int)) = true := decide_eq_true j1
        have j3 : decide (j < L) = true := decide_eq_true hlt
        have hbj := HBJ.out
        clear hst hb
        go_upto_region 7 with (fail)
        go_region_held3 (fun w' => ((w'.cell? ⟨k, 0, none⟩ = some (.slice (some ⟨ga, 0, none⟩) L cap) ∧ w'.cell? ⟨ga, j * 4, none⟩ = some (.string g2) ∧ w'.cell? ⟨ga, j * 4 + 1, none⟩ = some (.string t2) ∧ w'.cell? ⟨ga, j * 4 + 2, none⟩ = some (.int .i64 p2) ∧ w'.cell? ⟨ga, j * 4 + 3, none⟩ = some (.int .i64 o2)) ∧ (w'.cell? ⟨bx, 0, none⟩ = some (.string gr) ∧ w'.cell? ⟨bx, 1, none⟩ = some (.string t) ∧ w'.cell? ⟨bx, 2, none⟩ = some (.int .i64 p) ∧ w'.cell? ⟨bx, 3, none⟩ = some (.int .i64 o))) ∧ Below W.heap.size W w')
          (first | assumption | exact ⟨⟨⟨hc0, d0, d1, d2, d3⟩, ⟨e0, e1, e2, e3⟩⟩, hbj.drew⟩ | exact keep9 (by with_reducible assumption) (by with_reducible assumption))
          (first | (go_at_call 26; refine (rbefore_is g2 t2 gr t p2 o2 p o b _ z0 z1 hg.out ht.out HB).mono ?_; rintro e we ⟨rfl, hbe⟩))
        all_goals
          rename_i hh
          obtain ⟨⟨⟨k0, y0, y1, y2, y3⟩, -⟩, hbw⟩ := hh
          have HBE := Lib.hid hbw
          have HOE : Hid (we.ownsRow W.heap.size 32 4 (.slice A5 j c5) j (rowM (Q.take j))) := Lib.hid (own_below HOJ.out ((Below.refl _ _).drew.trans hbe))
          clear hbe hbw hc0 d0 d1 d2 d3 e0 e1 e2 e3 hbj
          cases b with
          | true =>
            have HNX : Hid (∀ i < j + 1, ∀ y, Q[i]? = some y → befR y ⟨gr, t, p, o⟩ = true) := Lib.hid (fun i hi y hy => by
              by_cases e : i = j
              · subst e
                rw [HST.out] at hy
                injection hy with hy
                subst hy
                exact HB.out
              · exact HALL.out i (by omega) y hy)
            have HROW2 : Hid (rowM (Q.take (j + 1)) = rowM (Q.take j) ++ [.string g2, .string t2, .int .i64 p2, .int .i64 o2]) := Lib.hid (by rw [List.take_add_one, HST.out, Option.toList_some, rowM_app]; simp [rowM, mkC])
            have hwz : W.heap.size ≤ we.heap.size := HBE.out.size
            go_wp2_with (at_builtin; refine wpList_append_own _ rfl _ _ 26 rfl W.heap.size 32 i0 _ 4 48 Try.underlying26 hi0 hz0 hz1 hz2 rfl (by decide) _ _ _ rfl (HOE.out.alloc _) ⟨we.heap.size, 0, none⟩ 1 1 [.string g2, .string t2, .int .i64 p2, .int .i64 o2] rfl rfl (cells_four _ _ _ _ _ _) (by simp [Value.oneCell']) (by unfold maxLen; omega) (by omega) (by simp; omega) ?_; intro v' w3 hown' hgrow _)
            obtain ⟨A6, c6, rfl⟩ := own_len hown'
            have HO1 : Hid (w3.ownsRow W.heap.size 32 4 (.slice A6 (j + 1) c6) (j + 1) (rowM (Q.take (j + 1)))) := Lib.hid (by rw [HROW2.out]; exact hown')
            have HB3 : Hid (Below W.heap.size W w3) := Lib.hid ((HBE.out.alloc HBE.out.size _).grown hgrow (HBE.out.alloc HBE.out.size _).size (fun q e => (HOE.out.lt q e).1))
            clear hown' hgrow
            go_roundw
            case rel => exact ⟨j + 1, A6, c6, by omega, by go_num, rfl, HNX, HO1, HB3⟩
            case measure => simp [intOf]; omega
          | false =>
            have HEND : Hid (∀ y, Q[j]? = some y → befR y ⟨gr, t, p, o⟩ = false) := Lib.hid (fun y hy => by rw [HST.out] at hy; injection hy with hy; subst hy; exact HB.out)
            clear k0 y0 y1 y2 y3
            go_wp2_with fail
            go_meet
            exact ⟨j, A5, c5, hj, rfl, rfl, HALL, HEND, HOE, HBE⟩
      · have hq : ¬ (j : Int) < (L : Int) := by omega
        have hq2 : decide ((j : Int) < (L : Int)) = false := decide_eq_false hq
        have hq3 : decide (j < L) = false := decide_eq_false hlt
        have HEND : Hid (∀ y, Q[j]? = some y → befR y ⟨gr, t, p, o⟩ = false) := Lib.hid (fun y hy => by have := (List.getElem?_eq_some_iff.1 hy).1; rw [HL.out] at this; omega)
        go_upto_region 7 with (fail)
        go_quiet (fail)
        obtain ⟨we, hwe0⟩ : ∃ we, wr.drewN nq = we := ⟨_, rfl⟩
        have HBE : Hid (Below W.heap.size W we) := Lib.hid (by rw [← hwe0]; exact drewN_below HBJ.out _)
        have HOE : Hid (we.ownsRow W.heap.size 32 4 (.slice A5 j c5) j (rowM (Q.take j))) := Lib.hid (by rw [← hwe0]; exact own_below HOJ.out (drewN_below (Below.refl _ _) _))
        rw [hwe0]
        clear hwe0 hc0
        go_wp2_with fail
        go_meet
        exact ⟨j, A5, c5, hj, rfl, rfl, HALL, HEND, HOE, HBE⟩
    case' rest =>
     obtain ⟨j, A5, c5, hj, rfl, rfl, HALL, HEND, HOE, HBE⟩ := hcut
     obtain ⟨we, rfl⟩ : ∃ x, x = wc := ⟨_, rfl⟩
     have hjl : j ≤ L := by omega
     have HPI : Hid (plIns Q ⟨gr, t, p, o⟩ = j) := Lib.hid (plIns_at (by rw [HL.out]; omega) HALL.out HEND.out)

     have HPL : Hid (insR Q ⟨gr, t, p, o⟩ = Q.take j ++ ⟨gr, t, p, o⟩ :: Q.drop (j)) := Lib.hid (by
       have := ins_at G.out.sorted ⟨gr, t, p, o⟩
       dsimp only at this
       rw [HPI.out, HV.out] at this
       simpa using this)
     have HL3 : Hid ((rowM (Q.drop (j))).length = (L - (j)) * 4) := Lib.hid (by rw [rowM_len, List.length_drop, HL.out])
     have HWE : Hid (Below w.heap.size w we) := Lib.hid (HBW.out.trans (HBE.out.mono HBW.out.size))
     have HB3 : Hid (Below w.heap.size w (we.alloc (.cells #[.string gr, .string t, .int .i64 p, .int .i64 o] 32))) := Lib.hid (HWE.out.alloc HWE.out.size _)
     have c0e := (h.out.below HWE.out).c0
     rw [HL.out] at c0e
     have hwe := HWE.out.size
     have hwW := HBE.out.size
     have x0 := cell_at HBE.out HBC.out.1
     have x1 := cell_at HBE.out HBC.out.2.1
     have x2 := cell_at HBE.out HBC.out.2.2.1
     have x3 := cell_at HBE.out HBC.out.2.2.2
     have hcap : L ≤ cap := by rw [← HL.out]; exact h.out.cap_le
     have HSRC : Hid (∀ w', Below w.heap.size w w' → Src w' A (rowM Q)) := Lib.hid (fun w' hb => (reads_src h.out.reads (fun e => List.eq_nil_of_length_eq_zero (h.out.nilcap hA.out e).1)).below hb)
     have j0 : (0 : Int) ≤ (j : Int) := by omega
     have jc1 : ((j : Nat) : Int) ≤ (cap : Int) := by omega
     have jc2 : ((j : Nat) : Int) ≤ (L : Int) := by omega
     have jc3 : j ≤ cap := by omega
     have w1' : wrap64 ((j : Int) + 1) = ((j + 1 : Nat) : Int) := by simp only [wrap64]; omega
     cases A with
     | none =>
       obtain ⟨hq0, hc0⟩ := h.out.nilcap hA.out rfl
       rw [HL.out] at hq0
       subst hq0
       subst hc0
       obtain rfl : j = 0 := by omega
       go_wp2_with (first
         | (at_builtin; have _q := HO4; refine wpList_append_src (by rfl) _ _ 26 (by rfl) W.heap.size 32 i0 _ 4 48 Try.underlying26 hi0 hz0 hz1 hz2 rfl (by decide) (.slice A4 1 c4) 1 _ (by rfl) HO4.out none 0 0 [] (by rfl) rfl ⟨fun _ => rfl, fun ad e => (by cases e)⟩ (fun _ => ⟨rfl, rfl⟩) (by simp) (by unfold maxLen; omega) (by omega) (by omega) ?_; intro v5 w5 hown5 hgrow5; have HO5 := Lib.hid hown5; have HB5 : Hid (Below w.heap.size w w5) := Lib.hid (HB4.out.grown hgrow5 HB4.out.size (fun q e => Nat.le_trans HBW.out.size (HO4.out.lt q e).1)); clear hown5 hgrow5; obtain ⟨A5, c5, rfl⟩ := own_len HO5.out; have c05 := (h.out.below HB5.out).c0; have f05 := (h.out.below HB5.out).froz; rw [HL.out] at c05)
         | (at_builtin; refine wpList_append_own _ rfl _ _ 26 rfl W.heap.size 32 i0 _ 4 48 Try.underlying26 hi0 hz0 hz1 hz2 rfl (by decide) _ _ _ (by rfl) (HOE.out.alloc _) ⟨we.heap.size, 0, none⟩ 1 1 [.string gr, .string t, .int .i64 p, .int .i64 o] (by rfl) (by rfl) (cells_four _ _ _ _ _ _) (by simp [Value.oneCell']) (by unfold maxLen; omega) (by omega) (by simp; omega) ?_; intro v4 w4 hown4 hgrow4 _; have HO4 := Lib.hid hown4; have hgz4 := hgrow4.size; have HB4 : Hid (Below w.heap.size w w4) := Lib.hid (HB3.out.grown hgrow4 HB3.out.size (fun q e => Nat.le_trans HBW.out.size (HOE.out.lt q e).1)); clear hown4 hgrow4; obtain ⟨A4, c4, rfl⟩ := own_len HO4.out; have c04 := (h.out.below HB4.out).c0; rw [HL.out] at c04; have hw4 := HB4.out.size; have hwW4 : W.heap.size ≤ w4.heap.size := Nat.le_trans (Nat.le_trans hwW (by simp)) hgz4))
       go_ret
       refine ⟨rfl, ?_⟩
       rw [HPL.out]
       refine doc_store h.out hB.out HB5.out (n := 1) ?_ (by rw [List.length_append, List.length_cons, List.length_take, List.length_drop, HL.out]; rfl)
       have e : rowM (Q.take 0 ++ ⟨gr, t, p, o⟩ :: Q.drop (0)) = rowM (Q.take 0) ++ [.string gr, .string t, .int .i64 p, .int .i64 o] ++ rowM (Q.drop (0)) := by rw [rowM_app, List.append_assoc]; rfl
       rw [e]
       have q := own_base HO5.out HBW.out.size
       rw [List.append_nil] at q
       rw [show rowM (Q.drop 0) = [] by rw [List.drop_zero]; exact List.eq_nil_of_length_eq_zero (by rw [rowM_len, HL.out])]
       rw [List.append_nil]
       exact q
     | some ad =>
       obtain ⟨ga, rfl⟩ : ∃ ga, ad = ⟨ga, 0, none⟩ := by
         rcases h.out.own.2 with ⟨q, _⟩ | ⟨g, c', cur, q, _⟩
         · cases q
         · injection q with q; injection q with q; exact ⟨g, q⟩
       by_cases hc : cap = j
       · have hc := hc.symm
         subst hc
         have hL : j = L := by omega
         subst hL
         have HD0 : Hid (rowM (Q.drop (j)) = []) := Lib.hid (List.eq_nil_of_length_eq_zero (by rw [HL3.out]; omega))
         go_wp2_with (first
           | (at_builtin; have _q := HO4; refine wpList_append_src (by rfl) _ _ 26 (by rfl) W.heap.size 32 i0 _ 4 48 Try.underlying26 hi0 hz0 hz1 hz2 rfl (by decide) (.slice A4 (j + 1) c4) (j + 1) _ (by rfl) HO4.out (some ⟨ga, 0, none⟩) 0 0 [] (by rfl) rfl ⟨fun _ => rfl, fun ad e j u hu => (by simp at hu)⟩ (fun e => by cases e) (by simp) (by unfold maxLen; omega) (by omega) (by omega) ?_; intro v5 w5 hown5 hgrow5; have HO5 := Lib.hid hown5; have HB5 : Hid (Below w.heap.size w w5) := Lib.hid (HB4.out.grown hgrow5 HB4.out.size (fun q e => Nat.le_trans HBW.out.size (HO4.out.lt q e).1)); clear hown5 hgrow5; obtain ⟨A5, c5, rfl⟩ := own_len HO5.out; have c05 := (h.out.below HB5.out).c0; have f05 := (h.out.below HB5.out).froz; rw [HL.out] at c05)
           | (at_builtin; refine wpList_append_own _ rfl _ _ 26 rfl W.heap.size 32 i0 _ 4 48 Try.underlying26 hi0 hz0 hz1 hz2 rfl (by decide) _ _ _ (by rfl) (HOE.out.alloc _) ⟨we.heap.size, 0, none⟩ 1 1 [.string gr, .string t, .int .i64 p, .int .i64 o] (by rfl) (by rfl) (cells_four _ _ _ _ _ _) (by simp [Value.oneCell']) (by unfold maxLen; omega) (by omega) (by simp; omega) ?_; intro v4 w4 hown4 hgrow4 _; have HO4 := Lib.hid hown4; have hgz4 := hgrow4.size; have HB4 : Hid (Below w.heap.size w w4) := Lib.hid (HB3.out.grown hgrow4 HB3.out.size (fun q e => Nat.le_trans HBW.out.size (HOE.out.lt q e).1)); clear hown4 hgrow4; obtain ⟨A4, c4, rfl⟩ := own_len HO4.out; have c04 := (h.out.below HB4.out).c0; rw [HL.out] at c04; have hw4 := HB4.out.size; have hwW4 : W.heap.size ≤ w4.heap.size := Nat.le_trans (Nat.le_trans hwW (by simp)) hgz4))
         go_ret
         refine ⟨rfl, ?_⟩
         rw [HPL.out]
         refine doc_store h.out hB.out HB5.out (n := j + 1) ?_ (by rw [List.length_append, List.length_cons, List.length_take, List.length_drop, HL.out]; omega)
         have e : rowM (Q.take j ++ ⟨gr, t, p, o⟩ :: Q.drop (j)) = rowM (Q.take j) ++ [.string gr, .string t, .int .i64 p, .int .i64 o] ++ rowM (Q.drop (j)) := by rw [rowM_app, List.append_assoc]; rfl
         rw [e]
         have q := own_base HO5.out HBW.out.size
         rw [HD0.out]
         exact q
       · go_wp2_with (first
           | (at_builtin; have _q := HO4; refine wpList_append_src (by rfl) _ _ 26 (by rfl) W.heap.size 32 i0 _ 4 48 Try.underlying26 hi0 hz0 hz1 hz2 rfl (by decide) (.slice A4 (j + 1) c4) (j + 1) _ (by rfl) HO4.out (some ⟨ga, (j) * 4, none⟩) (L - (j)) (cap - (j)) (rowM (Q.drop (j))) (by rfl) HL3.out (src_off (HSRC.out _ HB4.out) (j) (by rw [HL.out]; omega)) (fun e => by cases e) (rowM_one _) (by unfold maxLen; omega) (by omega) (by omega) ?_; intro v5 w5 hown5 hgrow5; have HO5 := Lib.hid hown5; have HB5 : Hid (Below w.heap.size w w5) := Lib.hid (HB4.out.grown hgrow5 HB4.out.size (fun q e => Nat.le_trans HBW.out.size (HO4.out.lt q e).1)); clear hown5 hgrow5; obtain ⟨A5, c5, rfl⟩ := own_len HO5.out; have c05 := (h.out.below HB5.out).c0; have f05 := (h.out.below HB5.out).froz; rw [HL.out] at c05)
           | (at_builtin; refine wpList_append_own _ rfl _ _ 26 rfl W.heap.size 32 i0 _ 4 48 Try.underlying26 hi0 hz0 hz1 hz2 rfl (by decide) _ _ _ (by rfl) (HOE.out.alloc _) ⟨we.heap.size, 0, none⟩ 1 1 [.string gr, .string t, .int .i64 p, .int .i64 o] (by rfl) (by rfl) (cells_four _ _ _ _ _ _) (by simp [Value.oneCell']) (by unfold maxLen; omega) (by omega) (by simp; omega) ?_; intro v4 w4 hown4 hgrow4 _; have HO4 := Lib.hid hown4; have hgz4 := hgrow4.size; have HB4 : Hid (Below w.heap.size w w4) := Lib.hid (HB3.out.grown hgrow4 HB3.out.size (fun q e => Nat.le_trans HBW.out.size (HOE.out.lt q e).1)); clear hown4 hgrow4; obtain ⟨A4, c4, rfl⟩ := own_len HO4.out; have c04 := (h.out.below HB4.out).c0; rw [HL.out] at c04; have hw4 := HB4.out.size; have hwW4 : W.heap.size ≤ w4.heap.size := Nat.le_trans (Nat.le_trans hwW (by simp)) hgz4))
         go_ret
         refine ⟨rfl, ?_⟩
         rw [HPL.out]
         refine doc_store h.out hB.out HB5.out (n := j + 1 + (L - (j))) ?_ (by rw [List.length_append, List.length_cons, List.length_take, List.length_drop, HL.out]; omega)
         have e : rowM (Q.take j ++ ⟨gr, t, p, o⟩ :: Q.drop (j)) = rowM (Q.take j) ++ [.string gr, .string t, .int .i64 p, .int .i64 o] ++ rowM (Q.drop (j)) := by rw [rowM_app, List.append_assoc]; rfl
         rw [e]
         exact own_base HO5.out HBW.out.size
/-- no mark is put: nothing turns -/
theorem rturn_same {w w' : World} {B k cap : Nat} {A : Option Addr} {Q : List Mr} (h : Doc w B k A cap Q) (hA : A = none → cap = 0) (hb : Below w.heap.size w w') : RTurn w B k A Q w' := ⟨A, cap, h.below hb, hA, Only.ofBelow hb, fun _ hq => .inl hq⟩
set_option maxRecDepth 100000 in
set_option maxHeartbeats 4000000 in
theorem rput_is {w : World} {B k cap : Nat} {A : Option Addr} {Q : List Mr} (gr t : ByteArray) (p o x : Int) (Q' : List Mr) (L : Nat) (h : Hid (Doc w B k A cap Q)) (hA : Hid (A = none → cap = 0)) (G : Hid (Good Q)) (hB : Hid (B ≤ w.heap.size)) (HL : Hid (Q.length = L)) (hl : L ≤ 1000000) (hg : Hid (gr.size ≤ maxLen)) (ht : Hid (t.size ≤ maxLen)) (HX : Hid (putE Q ⟨gr, t, p, o⟩ = x)) (HQ : Hid (putQ Q ⟨gr, t, p, o⟩ = Q')) :
    Calls Try.prog 8 #[.pointer (some ⟨k, 0, none⟩), .agg #[.string gr, .string t, .int .i64 p, .int .i64 o]] w fun e w' => e = .returned (.int .i64 x) ∧ RTurn w B k A Q' w' := by
  by_cases h0 : x = 0
  · subst h0
    have e : insR Q ⟨gr, t, p, o⟩ = Q' := by rw [← HQ.out]; unfold putQ; rw [if_pos HX.out]
    rw [← e]
    exact rput_ok gr t p o L h hA G hB HL hl hg ht HX
  · have e : Q = Q' := by rw [← HQ.out]; unfold putQ; rw [if_neg (by rw [HX.out]; exact h0)]
    have HS : Hid (∀ w', Below w.heap.size w w' → RTurn w B k A Q' w') := Lib.hid (fun w' hb => by rw [← e]; exact rturn_same h.out hA.out hb)
    obtain ⟨W, hW⟩ : ∃ W, w.alloc (.cells #[.string gr, .string t, .int .i64 p, .int .i64 o] 32) = W := ⟨_, rfl⟩
    have hbW : Below w.heap.size w W := by rw [← hW]; exact one_box' _
    have hr : W.heap[w.heap.size]? = some (.cells #[.string gr, .string t, .int .i64 p, .int .i64 o] 32 (0, 0)) := by rw [← hW]; exact box_row w gr t p o
    obtain ⟨bx, hbx⟩ : ∃ bx, w.heap.size = bx := ⟨_, rfl⟩
    rw [hbx] at hr
    obtain ⟨b0, b1, b2, b3⟩ := row4 hr
    have HW := Lib.hid hW
    have HBW := Lib.hid hbW
    have HBX := Lib.hid hbx
    have HD := Lib.hid (h.out.below hbW)
    obtain ⟨v, hv⟩ : ∃ v, mayR ⟨gr, t, p, o⟩ = v := ⟨_, rfl⟩
    have HV := Lib.hid hv
    have hx := HX.out
    unfold putE at hx
    rw [hv] at hx
    clear hW hbW hr hbx hv
    cases v with
    | false =>
      rw [if_pos rfl] at hx
      subst hx
      clear e h0
      go_enter Try.func8, Try.ntmps8
      go_upto_region 1 with (fail)
      rw [HW.out, HBX.out]
      go_wp2_with (go_at_call 25; refine (rmay_is gr t p o false _ hg ht HV).mono ?_; rintro e w1 ⟨rfl, hb1⟩; have HB1 := Lib.hid hb1; clear hb1)
      go_ret
      exact ⟨rfl, HS.out _ (HBW.out.trans (HB1.out.mono HBW.out.size))⟩
    | true =>
      rw [if_neg (by simp)] at hx
      dsimp only at hx
      by_cases hc : isR Q gr t p = true ∧ o < atR Q gr t p
      · rw [if_pos hc] at hx
        subst hx
        obtain ⟨y, hy⟩ : ∃ y, atR Q gr t p = y := ⟨_, rfl⟩
        have HY := Lib.hid hy
        have HI := Lib.hid hc.1
        have hoy : y > o := by rw [← hy]; exact hc.2
        clear e h0 hc hy
        go_enter Try.func8, Try.ntmps8
        go_upto_region 1 with (fail)
        rw [HW.out, HBX.out]
        go_wp2_with (first
          | (go_at_call 15; refine (rget_is gr t p y true L (Lib.hid (HD.out.below HB1.out)) HL hl HY HI).mono ?_; rintro e w2 ⟨rfl, hb2⟩; have f3 := cell_at hb2 d3; have HB2 : Hid (Below W.heap.size W w2) := Lib.hid (HB1.out.trans (hb2.mono HB1.out.size)); clear hb2 d0 d1 d2 d3)
          | (go_at_call 25; refine (rmay_is gr t p o true _ hg ht HV).mono ?_; rintro e w1 ⟨rfl, hb1⟩; have d0 := cell_at hb1 b0; have d1 := cell_at hb1 b1; have d2 := cell_at hb1 b2; have d3 := cell_at hb1 b3; have HB1 := Lib.hid hb1; clear hb1))
        go_ret
        exact ⟨rfl, HS.out _ (HBW.out.trans (HB2.out.mono HBW.out.size))⟩
      · rw [if_neg hc] at hx
        exact absurd hx.symm h0
end Go.Proofs.Ytcpfihagcmadcaa.L12
