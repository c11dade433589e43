/-
  The bytes of any segment (of at most 70 records, each cut), the segment of any bytes (at most 1500), and any text's digest, or what is wrong, are what the document says. No condition.
-/
import Derived.Test.YtlemcijgjebekaaRows
import Derived.WalkKit
import Derived.ProofKit
import Derived.OpenShut
import Derived.ShutString
import Derived.ChangeOld
import Derived.Below
import Derived.Test.YtlemcijgjebekaaMRcText
import Derived.Test.YtlemcijgjebekaaMRcDig
import Derived.Test.YtlemcijgjebekaaMChRead
import Derived.Test.YtlemcijgjebekaaChOpen
import Derived.Test.YtlemcijgjebekaaMChFix
namespace Go.Proofs.Ytlemcijgjebekaa.chunksTexts
open Go.ChangeShapes Go.WideShapes Go.ChangeAt Go.RowKit Go.Deep
open Go.ChangeMaps (open_string shut_string)
open L3 L4 L5 L7

theorem own : ownKnob Try.prog.godebug = none := by kernel_rfl
theorem laidOut : laidOutB Try.prog = true := by kernel_rfl

theorem kept_row {W W' : World} {k : Nat} {o : Obj} (h : W.heap[k]? = some o) (b : Below W.heap.size W W') : W'.heap[k]? = some o := (b.block _ (Array.getElem?_eq_some_iff.1 h).1).trans h
theorem parse_m (s : ByteArray) (b n : Int) (L : List L4.Fd) (m : Nat) (E : Int) (w : World) (hs : s.size ≤ 1000000) (HU : Hid (SegU s b n L E)) (hm : Hid (L.length = m)) :
    Calls Try.prog 38 #[.string s] w fun e w' => ∃ A c, e = .returned (.tuple #[.agg #[.int .i64 b, .int .i64 n, .slice A m c], .int .i64 E]) ∧ OwnsF w' A m c L ∧ Below w.heap.size w w' := by
  have k := parse_is s w hs b n L E HU
  rw [hm.out] at k
  refine k.mono ?_
  rintro e w' ⟨A, c, rfl, ho, hb⟩
  exact ⟨A, c, rfl, ⟨_, ho⟩, hb⟩
theorem rparse_m (s : ByteArray) (b n : Int) (L : List L4.Fd) (m : Nat) (E : Int) (w : World) (hs : s.size ≤ 1000000) (HU : Hid (SegU s b n L E)) (hm : Hid (L.length = m)) :
    Calls Try.prog 39 #[.string s] w fun e w' => ∃ A c, e = .returned (.tuple #[.agg #[.int .i64 b, .int .i64 n, .slice A m c], .int .i64 E]) ∧ OwnsF w' A m c L ∧ Below w.heap.size w w' := by
  have k := rparse_is s w hs b n L E HU
  rw [hm.out] at k
  exact k
/-- a segment in a box of its own -/
structure TX (w W : World) (g : Nat) (b n : Int) (A : Option Addr) (m c : Nat) (L : List L4.Fd) : Prop where
  seg : W.heap[g]? = some (.cells #[.int .i64 b, .int .i64 n, .slice A m c] 53 (0, 0))
  o : OwnsF W A m c L
  b : Below w.heap.size w W
theorem TX.below {w W W' : World} {g : Nat} {b n : Int} {A : Option Addr} {m c : Nat} {L : List L4.Fd} (h : TX w W g b n A m c L) (x : Below W.heap.size W W') : TX w W' g b n A m c L :=
  ⟨kept_row h.seg x, h.o.below x, h.b.trans (x.mono h.b.size)⟩
theorem tx_start {w W0 w1 : World} {x0 x1 : Int} {va : Value} {b n : Int} {A : Option Addr} {m c : Nat} {L : List L4.Fd}
    (h0 : W0 = w.alloc (.cells #[.int .i64 x0, .int .i64 x1, va] 53)) (hb : Below W0.heap.size W0 w1) (ho : w1.ownsRow W0.heap.size 43 5 (.slice A m c) m (rowF L)) :
    TX w (((w1.setCell ⟨w.heap.size, 0, none⟩ (.int .i64 b)).setCell ⟨w.heap.size, 1, none⟩ (.int .i64 n)).setCell ⟨w.heap.size, 2, none⟩ (.slice A m c)) w.heap.size b n A m c L := by
  have hz : W0.heap.size = w.heap.size + 1 := by rw [h0]; simp
  have hz1 := hb.size
  have r0 : w1.heap[w.heap.size]? = some (.cells #[.int .i64 x0, .int .i64 x1, va] 53 (0, 0)) := (hb.block _ (by omega)).trans (by rw [h0]; exact heap_alloc_new _ _)
  refine ⟨heap_setCell_same _ w.heap.size 2 _ _ (.slice A m c) (heap_setCell_same _ w.heap.size 1 _ _ (.int .i64 n) (heap_setCell_same _ w.heap.size 0 _ _ (.int .i64 b) r0)), ⟨W0.heap.size, ho.1, ?_⟩, ?_⟩
  · rcases ho.2 with e | ⟨g, cc, cur, e, q1, hh, q2⟩
    · exact .inl e
    · have hgw : g ≠ w.heap.size := by omega
      exact .inr ⟨g, cc, cur, e, q1, (Below.heap_setCell _ _ _ _ (fun q => hgw q)).trans ((Below.heap_setCell _ _ _ _ (fun q => hgw q)).trans ((Below.heap_setCell _ _ _ _ (fun q => hgw q)).trans hh)), q2⟩
  · have hb1 : Below w.heap.size w w1 := by
      have : Below w.heap.size w W0 := by rw [h0]; exact one_box _
      exact this.trans (hb.mono (by omega))
    exact ((hb1.setCell (p := ⟨w.heap.size, 0, none⟩) (Nat.le_refl _) _).setCell (p := ⟨w.heap.size, 1, none⟩) (Nat.le_refl _) _).setCell (p := ⟨w.heap.size, 2, none⟩) (Nat.le_refl _) _
/-- the two segments held against each other -/
theorem segs_gen {w6 : World} {b3 n3 : Int} {A5 A6 : Option Addr} {m3 c5 c6 : Nat} {L : List L4.Fd} (h5 : Hid (OwnsF w6 A5 m3 c5 L)) (h6 : Hid (OwnsF w6 A6 m3 c6 L)) (hm : L.length = m3) (hl : m3 ≤ 70) :
    Calls Try.prog 34 #[.slice (some ⟨w6.heap.size + 1, 0, none⟩) 1 1, .slice (some ⟨w6.heap.size + 1 + 1, 0, none⟩) 1 1] (((w6.alloc (.cells #[.int .i64 b3, .int .i64 n3, .slice A6 m3 c6] 53)).alloc (.cells #[.int .i64 b3, .int .i64 n3, .slice A5 m3 c5] 53)).alloc (.cells #[.int .i64 b3, .int .i64 n3, .slice A6 m3 c6] 53))
      fun e w' => e = .returned (.bool true) ∧ Below w6.heap.size w6 w' := by
  obtain ⟨W, hW⟩ : ∃ W, ((w6.alloc (.cells #[.int .i64 b3, .int .i64 n3, .slice A6 m3 c6] 53)).alloc (.cells #[.int .i64 b3, .int .i64 n3, .slice A5 m3 c5] 53)).alloc (.cells #[.int .i64 b3, .int .i64 n3, .slice A6 m3 c6] 53) = W := ⟨_, rfl⟩
  have hz : W.heap.size = w6.heap.size + 1 + 1 + 1 := by rw [← hW]; simp
  have hB : Below w6.heap.size w6 W := by rw [← hW]; exact (((Below.refl _ _).alloc (Nat.le_refl _) _).alloc (by simp) _).alloc (by simp <;> omega) _
  have r1 : W.heap[w6.heap.size + 1]? = some (.cells #[.int .i64 b3, .int .i64 n3, .slice A5 m3 c5] 53 (0, 0)) := by
    rw [← hW]
    refine (Below.heap_alloc _ _ _ (by simp)).trans ?_
    have := heap_alloc_new (w6.alloc (.cells #[.int .i64 b3, .int .i64 n3, .slice A6 m3 c6] 53)) (.cells #[.int .i64 b3, .int .i64 n3, .slice A5 m3 c5] 53)
    simpa using this
  have r2 : W.heap[w6.heap.size + 1 + 1]? = some (.cells #[.int .i64 b3, .int .i64 n3, .slice A6 m3 c6] 53 (0, 0)) := by
    rw [← hW]
    have := heap_alloc_new ((w6.alloc (.cells #[.int .i64 b3, .int .i64 n3, .slice A6 m3 c6] 53)).alloc (.cells #[.int .i64 b3, .int .i64 n3, .slice A5 m3 c5] 53)) (.cells #[.int .i64 b3, .int .i64 n3, .slice A6 m3 c6] 53)
    simpa using this
  rw [hW]
  have rd1 := (h5.out.below hB).reads hm
  have rd2 := (h6.out.below hB).reads hm
  refine (rsegs_is _ _ [⟨b3, n3, A5, c5, L⟩] [⟨b3, n3, A6, c6, L⟩] 1 1 1 W.heap.size W (Lib.hid (ReadsT.one r1 hm (by omega) rd1)) (Lib.hid (ReadsT.one r2 hm (by omega) rd2)) (Nat.le_refl _) rfl (by decide) (Lib.hid rfl) (Lib.hid (fun r hr => by rw [List.mem_singleton.1 hr]; dsimp only; unfold maxLen; omega))).mono ?_
  rintro e w' ⟨rfl, hb⟩
  exact ⟨rfl, hB.trans (hb.mono hB.size)⟩

set_option maxRecDepth 100000 in
set_option maxHeartbeats 8000000 in
theorem walk (w : World) (b0 n0 : Int) (A0 : Option Addr) (l0 : List L4.Fd) (c0 : Nat) (R0 : IsFds w A0 l0 ∧ (Lit.int .i64 b0).wf = true ∧ (Lit.int .i64 n0).wf = true) (a1 : ByteArray) (w1' : a1.size ≤ maxLen) :
    Calls Try.prog 7 #[.agg #[.int .i64 b0, .int .i64 n0, .slice A0 l0.length c0], .string a1] w fun e w' => e = .returned (.bool true) ∧ Below w.heap.size w w' := by
  unfold maxLen at w1'
  obtain ⟨s, h3⟩ : ∃ s, a1.extract 0 (min (a1.size : Int) 1500).toNat = s := ⟨_, rfl⟩
  have hs : s.size ≤ 1500 := by rw [← h3, ByteArray.size_extract]; omega
  obtain ⟨n, hn⟩ : ∃ n, l0.length = n := ⟨_, rfl⟩
  have hnl : n ≤ 9223372036854775807 := by have := R0.1.2.2; unfold maxLen at this; omega
  have HN := Lib.hid hn
  rw [hn]
  obtain ⟨L, hL⟩ : ∃ L, cutL l0 = L := ⟨_, rfl⟩
  obtain ⟨m, hm⟩ : ∃ m, L.length = m := ⟨_, rfl⟩
  have hm70 : m ≤ 70 := by rw [← hm, ← hL]; exact cutL_len l0
  have HL := Lib.hid hL
  have HMM := Lib.hid hm
  have HSL : Hid (∀ f ∈ L, f.r.key.size ≤ maxLen ∧ f.r.val.size ≤ maxLen) := Lib.hid (cut_sizes hL)
  obtain ⟨x, hx⟩ : ∃ x, loadE b0 n0 L = x := ⟨_, rfl⟩
  obtain ⟨t, ht⟩ : ∃ t : ByteArray, (if x = 0 then textS b0 n0 L else ⟨#[]⟩) = t := ⟨_, rfl⟩
  obtain ⟨b3, n3, L3, E3, hU3⟩ := SegU.ex s
  obtain ⟨m3, hm3⟩ : ∃ m, L3.length = m := ⟨_, rfl⟩
  have hl3 : loadE b3 n3 L3 = 0 := by
    rcases hU3 with ⟨h, _⟩ | ⟨_, rfl, rfl, rfl, _⟩
    · exact h
    · exact zero_load
  have hm3b : m3 ≤ 64 := by rw [← hm3]; exact (load_good hl3).len
  obtain ⟨d, hd⟩ : ∃ d, digest s = d := ⟨_, rfl⟩
  have HX := Lib.hid hx
  have HT := Lib.hid ht
  have HU3 := Lib.hid hU3
  have HM3 := Lib.hid hm3
  have HD := Lib.hid hd
  have HF := R0.1.1
  have HS0 : Hid (∀ f ∈ l0, f.r.key.size ≤ maxLen ∧ f.r.val.size ≤ maxLen) := Lib.hid (fun f hf => (R0.1.2.1.out f hf).1)
  have e1 : (x == x) = true := by simp
  have e2 : (E3 == E3) = true := by simp
  clear hx ht hU3 hm3 hl3 hL hm hn R0 hd
  go_enter Try.func7, Try.ntmps7
  go_upto_region 3 with (go_at_call 35; refine (seg_cut b0 n0 A0 l0 L n c0 w.heap.size m _ (Lib.hid (fds_below HF.out (one_box _))) (by simp <;> omega) HN.out hnl HS0 HL HMM).mono ?_; rintro e w1 ⟨A1, c1, rfl, ho1, hb1⟩; have HO1 := Lib.hid ho1; obtain ⟨q0, q1, q2, f0, f1, f2⟩ := seg_rows ((hb1.block w.heap.size (by simp <;> omega)).trans (heap_alloc_new w _)); have HB1 := Lib.hid hb1; have hz1 : w.heap.size < w1.heap.size := (by have := hb1.size; simp at this; omega); clear ho1 hb1)
  obtain ⟨W3, hW3⟩ : ∃ W3, ((w1.setCell ⟨w.heap.size, 0, none⟩ (.int .i64 b0)).setCell ⟨w.heap.size, 1, none⟩ (.int .i64 n0)).setCell ⟨w.heap.size, 2, none⟩ (.slice A1 m c1) = W3 := ⟨_, rfl⟩
  have TX3 := tx_start (b := b0) (n := n0) rfl HB1.out HO1.out
  rw [hW3] at TX3 ⊢
  have X3 := Lib.hid TX3
  clear hW3 TX3 q0 q1 q2 f0 f1 f2 HB1 HO1 hz1 h3
  obtain ⟨q0, q1, q2, _, _, _⟩ := seg_rows X3.out.seg
  go_upto_region 7 with (first
    | (go_at_call 39; have _q := X6; refine (rparse_m s b3 n3 L3 m3 E3 _ (by omega) HU3 HM3).mono ?_; rintro e w6 ⟨A6, c6, rfl, ho6, hb6⟩; have hx6 := (one_box (w := w5) (.cells #[.int .i64 b3, .int .i64 n3, .slice A5 m3 c5] 53)).trans (hb6.mono (by simp)); have X7 := Lib.hid (X6.out.trans (hx6.mono X6.out.size)); have O6 := Lib.hid (O5.out.below hx6); have P6 := Lib.hid ho6; have R6 := Lib.hid ((hb6.block w5.heap.size (by simp)).trans (heap_alloc_new w5 (.cells #[.int .i64 b3, .int .i64 n3, .slice A5 m3 c5] 53))); clear ho6 hx6)
    | (go_at_call 38; have _q := X5; refine (parse_m s b3 n3 L3 m3 E3 _ (by omega) HU3 HM3).mono ?_; rintro e w5 ⟨A5, c5, rfl, ho5, hb5⟩; have X6 := Lib.hid (X5.out.b.trans (hb5.mono X5.out.b.size)); have O5 := Lib.hid ho5; clear ho5)
    | (go_at_call 37; have _q := X4; refine (rtext_is b0 n0 A1 L m c1 t x _ (Lib.hid X4.out.o) HMM.out (by unfold maxLen; omega) HSL HX HT).mono ?_; rintro e w4 ⟨rfl, hb4⟩; have X5 := Lib.hid (X4.out.below hb4))
    | (go_at_call 36; refine (ctext_is b0 n0 A1 L m c1 W3.heap.size t x _ (Lib.hid (X3.out.o.reads HMM.out)) (Nat.le_refl _) HMM.out (by unfold maxLen; omega) HSL HX HT).mono ?_; rintro e w3 ⟨rfl, hb3⟩; have X4 := Lib.hid (X3.out.below hb3); obtain ⟨p0, p1, p2, _, _, _⟩ := seg_rows X4.out.seg))
  obtain ⟨r0, r1, r2, _, _, _⟩ := seg_rows R6.out
  have hl5 := (Array.getElem?_eq_some_iff.1 R6.out).1
  go_wp2_with (first
    | (go_at_call 42; have _q := X10; refine (fixed7_any _).mono ?_; rintro e w11 ⟨rfl, hb11⟩)
    | (go_at_call 41; have _q := X9; refine (rdigest_is s d _ (by omega) HD).mono ?_; rintro e w10 ⟨rfl, hb10⟩; have X10 := Lib.hid (X9.out.trans (hb10.mono X9.out.size)))
    | (go_at_call 40; have _q := X8; refine (digest_is s d _ (by omega) HD).mono ?_; rintro e w9 ⟨rfl, hb9⟩; have X9 := Lib.hid (X8.out.trans (hb9.mono X8.out.size)))
    | (go_at_call 34; refine (segs_gen O6 P6 HM3.out (by omega)).mono ?_; rintro e w8 ⟨rfl, hb8⟩; have X8 := Lib.hid (X7.out.trans (hb8.mono X7.out.size))))
  go_ret
  exact ⟨rfl, X10.out.trans (hb11.mono X10.out.size)⟩


set_option maxRecDepth 100000 in
set_option maxHeartbeats 1000000 in
theorem lifted (os : Os) (started : os.Started) (H : Type) (enc : TypeId × Value → H) :
    ReturnsInHanded {} Try.checked os 7 .any (Rows.chunksTextsSpec.pre6 enc Try.prog Try.f7 Rows.chunksTextsRow.domain false) (Rows.chunksTextsSpec.post enc Try.prog Try.f7 false true false false) := by
  refine returnsInHanded_of_change (C := Try.checked) own started (by kernel_rfl) Try.func7
    (ChangeSpec.witness6 (enc := enc) (C := Try.checked) false ⟨#[], #[.agg #[.int .i64 0, .int .i64 0, .slice none 0 0], .string ByteArray.empty], []⟩ 8 (by kernel_rfl) (by kernel_rfl) (by kernel_rfl) (by kernel_rfl)) ?_
  intro W base args ds gs before hval0 hW _ _
  have hval : ∀ (j : Nat) t v, Try.f7.params[j]? = some t → args[j]? = some v → Value.okWide Try.prog W .any base t v := hval0
  have hW' := hW
  obtain ⟨p, q, hA0, hV, rfl, hfz, hnd⟩ := hW
  have hA : DataW.TrodAll enc Try.prog W 0 (fun _ => true) true Try.f7.params.toList args.toList ds p := hA0
  rw [Try.params7] at hA hval
  obtain ⟨v0, vs0, d0, ds0, p0, q0, hargs, rfl, rfl, h0, r0⟩ := trodAll_cons hA
  obtain ⟨v1, vs1, d1, ds1, p1, q1, rfl, rfl, rfl, h1, r1⟩ := trodAll_cons r0
  obtain ⟨rfl, rfl, rfl⟩ := trodAll_nil r1
  obtain rfl : args = #[v0, v1] := by cases args; simp_all
  obtain ⟨rfl, rfl⟩ := trodVars_none hV
  have k0 := h0
  have lt0 : ∀ x ∈ p0, x.block < W.heap.size := by obtain ⟨m, hm⟩ := k0; exact DataW.trod_lt m _ _ _ hm
  have k1 := h1
  have lt1 : ∀ x ∈ p1, x.block < W.heap.size := by obtain ⟨m, hm⟩ := k1; exact DataW.trod_lt m _ _ _ hm
  obtain ⟨b0, n0, A0, l0, c0, e0, R0⟩ := L7.open_seg (hval 0 53 v0 rfl rfl) h0
  subst e0
  obtain ⟨a1, e1, _, _, w1⟩ := open_string Try.underlying9 (hval 1 9 v1 rfl rfl) h1
  subst e1
  clear hA0 hval0
  refine (walk W b0 n0 A0 l0 c0 R0 a1 w1).mono fun e W' ⟨he, bel⟩ => ?_
  subst he
  exact ⟨_, rfl, _, _, _, [], _, [], hW', trodAll_mk1 (shut_bool Try.underlying4 _), (trodAll_cons_mk (Below.trod laidOut (by kernel_rfl) (of_decide_eq_true (by kernel_rfl)) k0 bel lt0) (trodAll_cons_mk (Below.trod laidOut (by kernel_rfl) (of_decide_eq_true (by kernel_rfl)) k1 bel lt1) trodAll_mk0)), rfl, bel.frame _, fun h => by cases h⟩

theorem over : Rows.chunksTextsRow.holds Try.pinned (OpenSpec.ofChange Rows.chunksTextsSpec) :=
  OpenClaim.holds_of_wide 7 Try.f7 rfl rfl rfl rfl rfl rfl rfl ⟨rfl, rfl, rfl, rfl, rfl⟩ rfl rfl rfl rfl rfl (by kernel_rfl) Try.func7 (by kernel_rfl)
    (of_decide_eq_true (by kernel_rfl)) (by unfold Func.isWrapper; first | (rw [if_pos (by decide +kernel)]; kernel_rfl) | (rw [if_neg (by decide +kernel)]; exact ⟨rfl, rfl⟩))
    (fun os started H enc _ => lifted os started H enc)

/-- the statement -/
theorem proved : Rows.ChunksTextsSaid :=
  over
#print axioms proved
end Go.Proofs.Ytlemcijgjebekaa.chunksTexts
