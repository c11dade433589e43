/-
  A segment that has a text is parsed of it as it was; a chunk that has bytes is got of them as it was; what is parsed, or got, of any bytes, put, is these bytes: for segments of at most 70 records, bodies of at most 5000 bytes, texts of at most 1500 bytes. No condition.
-/
import Derived.Test.YtlemcijgjebekaaRows
import Derived.WalkKit
import Derived.ProofKit
import Derived.OpenShut
import Derived.ShutString
import Derived.ChangeOld
import Derived.Below
import Derived.Test.YtlemcijgjebekaaMChRead
import Derived.Test.YtlemcijgjebekaaChOpen
import Derived.Test.YtlemcijgjebekaaMChFix
import Derived.Deep.DeepCutAuto
namespace Go.Proofs.Ytlemcijgjebekaa.chunksBack
open Go.ChangeShapes Go.WideShapes Go.ChangeAt Go.RowKit Go.Deep
open Go.ChangeMaps (open_string shut_string)
open L3 L4 L5 L7

theorem own : ownKnob Try.prog.godebug = none := by kernel_rfl
theorem laidOut : laidOutB Try.prog = true := by kernel_rfl

theorem own_rd {W : World} {base : Nat} {T : TypeId} {A : Option Addr} {m c : Nat} {L : List L4.Fd} (h : W.ownsRow base T 5 (.slice A m c) m (rowF L)) (hm : L.length = m) : ReadsF W W.heap.size A L := by
  subst hm
  exact ReadsF.own h
theorem parse_m (s : ByteArray) (b n : Int) (L : List L4.Fd) (m : Nat) (E : Int) (w : World) (hs : s.size ≤ 1000000) (HU : Hid (SegU s b n L E)) (hm : Hid (L.length = m)) :
    Calls Try.prog 38 #[.string s] w fun e w' => ∃ A c, e = .returned (.tuple #[.agg #[.int .i64 b, .int .i64 n, .slice A m c], .int .i64 E]) ∧ w'.ownsRow w.heap.size 43 5 (.slice A m c) m (rowF L) ∧ Below w.heap.size w w' := by
  have k := parse_is s w hs b n L E HU
  rw [hm.out] at k
  exact k
theorem text_small {b n : Int} {L : List L4.Fd} (h : loadE b n L = 0) : (textS b n L).size ≤ 100000 := by
  have G := load_good h
  have b0 := G.b0
  have bn := G.bn
  have n1 := G.n1
  have hl := G.len
  have h1 := segL_size b L n G.rise G.b0 G.n1
  have h2 := three_size b.toNat n.toNat L.length (by omega) (by omega) (by omega)
  unfold textS
  rw [ByteArray.size_append]
  have : L.length * 610 ≤ 64 * 610 := Nat.mul_le_mul_right _ hl
  omega
/-- the two segments held against each other -/
theorem segs_two {w w5 : World} {g k : Nat} {b n : Int} {A A5 : Option Addr} {m c c5 base : Nat} {L : List L4.Fd} {i q : Int} {d : Nat} {o : ByteArray} (H : Hid (BX w w5 g k b n A m c L i q d o)) (ho : Hid (w5.ownsRow base 43 5 (.slice A5 m c5) m (rowF L))) (hm : L.length = m) (hl : m ≤ 70) :
    Calls Try.prog 34 #[.slice (some ⟨w5.heap.size + 1, 0, none⟩) 1 1, .slice (some ⟨w5.heap.size + 1 + 1, 0, none⟩) 1 1] (((w5.alloc (.cells #[.int .i64 b, .int .i64 n, .slice A5 m c5] 53)).alloc (.cells #[.int .i64 b, .int .i64 n, .slice A m c] 53)).alloc (.cells #[.int .i64 b, .int .i64 n, .slice A5 m c5] 53))
      fun e w' => e = .returned (.bool true) ∧ Below w5.heap.size w5 w' := by
  obtain ⟨W, hW⟩ : ∃ W, ((w5.alloc (.cells #[.int .i64 b, .int .i64 n, .slice A5 m c5] 53)).alloc (.cells #[.int .i64 b, .int .i64 n, .slice A m c] 53)).alloc (.cells #[.int .i64 b, .int .i64 n, .slice A5 m c5] 53) = W := ⟨_, rfl⟩
  have hz : W.heap.size = w5.heap.size + 1 + 1 + 1 := by rw [← hW]; simp
  have hB : Below w5.heap.size w5 W := by rw [← hW]; exact (((Below.refl _ _).alloc (Nat.le_refl _) _).alloc (by simp) _).alloc (by simp <;> omega) _
  have r1 : W.heap[w5.heap.size + 1]? = some (.cells #[.int .i64 b, .int .i64 n, .slice A m c] 53 (0, 0)) := by
    rw [← hW]
    refine (Below.heap_alloc _ _ _ (by simp)).trans ?_
    have := heap_alloc_new (w5.alloc (.cells #[.int .i64 b, .int .i64 n, .slice A5 m c5] 53)) (.cells #[.int .i64 b, .int .i64 n, .slice A m c] 53)
    simpa using this
  have r2 : W.heap[w5.heap.size + 1 + 1]? = some (.cells #[.int .i64 b, .int .i64 n, .slice A5 m c5] 53 (0, 0)) := by
    rw [← hW]
    have := heap_alloc_new ((w5.alloc (.cells #[.int .i64 b, .int .i64 n, .slice A5 m c5] 53)).alloc (.cells #[.int .i64 b, .int .i64 n, .slice A m c] 53)) (.cells #[.int .i64 b, .int .i64 n, .slice A5 m c5] 53)
    simpa using this
  rw [hW]
  have rd1 := reads_up (H.out.rd.below hB) hB.size
  have rd2 := reads_up ((own_rd ho.out hm).below hB) hB.size
  refine (rsegs_is _ _ [⟨b, n, A, c, L⟩] [⟨b, n, A5, c5, L⟩] 1 1 1 W.heap.size W (Lib.hid (ReadsT.one r1 hm (by omega) rd1)) (Lib.hid (ReadsT.one r2 hm (by omega) rd2)) (Nat.le_refl _) rfl (by decide) (Lib.hid rfl) (Lib.hid (fun r hr => by rw [List.mem_singleton.1 hr]; dsimp only; unfold maxLen; omega))).mono ?_
  rintro e w' ⟨rfl, hb⟩
  exact ⟨rfl, hB.trans (hb.mono hB.size)⟩

set_option maxRecDepth 100000 in
set_option maxHeartbeats 8000000 in
theorem walk (w : World) (b0 n0 : Int) (A0 : Option Addr) (l0 : List L4.Fd) (c0 : Nat) (R0 : IsFds w A0 l0 ∧ (Lit.int .i64 b0).wf = true ∧ (Lit.int .i64 n0).wf = true) (i1 m1 x1 : Int) (b1 : ByteArray) (hx1 : (Lit.int .u64 x1).wf = true) (zb1 : b1.size ≤ maxLen) (a2 : ByteArray) (w2 : a2.size ≤ maxLen) :
    Calls Try.prog 9 #[.agg #[.int .i64 b0, .int .i64 n0, .slice A0 l0.length c0], .agg #[.int .i64 i1, .int .i64 m1, .int .u64 x1, .string b1], .string a2] w fun e w' => e = .returned (.bool true) ∧ Below w.heap.size w w' := by
  unfold maxLen at w2 zb1
  have hx0 : 0 ≤ x1 ∧ x1 < 18446744073709551616 := by have := hx1; simp [Lit.wf, IntKind.min, IntKind.max, IntKind.bits, IntKind.signed] at this; omega
  obtain ⟨d, rfl⟩ : ∃ d : Nat, x1 = (d : Int) := ⟨x1.toNat, by omega⟩
  have HDD : Hid (d < 18446744073709551616) := Lib.hid (by omega)
  obtain ⟨o, h4⟩ : ∃ o, b1.extract 0 (min (b1.size : Int) 5000).toNat = o := ⟨_, rfl⟩
  have hos : o.size ≤ 5000 := by rw [← h4, ByteArray.size_extract]; omega
  obtain ⟨s, h3⟩ : ∃ s, a2.extract 0 (min (a2.size : Int) 1500).toNat = s := ⟨_, rfl⟩
  have hs : s.size ≤ 1500 := by rw [← h3, ByteArray.size_extract]; omega
  obtain ⟨n, hn⟩ : ∃ n, l0.length = n := ⟨_, rfl⟩
  have hnl : n ≤ 9223372036854775807 := by have := R0.1.2.2; unfold maxLen at this; omega
  have HN := Lib.hid hn
  rw [hn]
  obtain ⟨L, hL⟩ : ∃ L, cutL l0 = L := ⟨_, rfl⟩
  obtain ⟨m, hm⟩ : ∃ m, L.length = m := ⟨_, rfl⟩
  have hm70 : m ≤ 70 := by rw [← hm, ← hL]; exact cutL_len l0
  have HL := Lib.hid hL
  have HMM := Lib.hid hm
  have HSL : Hid (∀ f ∈ L, f.r.key.size ≤ maxLen ∧ f.r.val.size ≤ maxLen) := Lib.hid (cut_sizes hL)
  obtain ⟨x, hx⟩ : ∃ x, loadE b0 n0 L = x := ⟨_, rfl⟩
  obtain ⟨t, ht⟩ : ∃ t : ByteArray, (if x = 0 then textS b0 n0 L else ⟨#[]⟩) = t := ⟨_, rfl⟩
  obtain ⟨u, gx, hu⟩ : ∃ u g, putU ⟨i1, m1, d, o⟩ = (u, g) := ⟨_, _, rfl⟩
  obtain ⟨b3, n3, L3, E3, hU3⟩ := SegU.ex s
  obtain ⟨m3, hm3⟩ : ∃ m, L3.length = m := ⟨_, rfl⟩
  have hl3 : loadE b3 n3 L3 = 0 := by
    rcases hU3 with ⟨h, _⟩ | ⟨_, rfl, rfl, rfl, _⟩
    · exact h
    · exact zero_load
  have hm3b : m3 ≤ 64 := by rw [← hm3]; exact (load_good hl3).len
  obtain ⟨t3, ht3⟩ : ∃ t : ByteArray, (if (0 : Int) = 0 then textS b3 n3 L3 else ⟨#[]⟩) = t := ⟨_, rfl⟩
  have h30 : E3 = 0 → t3 = s := fun e => by
    rcases hU3 with ⟨_, h, _⟩ | ⟨_, _, _, _, h⟩
    · rw [← ht3, if_pos rfl]; exact h
    · omega
  have HS3 : Hid (∀ f ∈ L3, f.r.key.size ≤ maxLen ∧ f.r.val.size ≤ maxLen) := Lib.hid (fun f hf => by
    have := (load_good hl3).small f hf
    unfold maxLen; omega)
  obtain ⟨⟨i4, n4, d4, b4⟩, E4, hU4⟩ := GetU.ex s
  have hd4 : d4 < 18446744073709551616 := by
    rcases hU4 with ⟨_, h, _⟩ | ⟨_, h, _⟩
    · exact h
    · injection h with _ _ h _; omega
  obtain ⟨u4, g4, hp4⟩ : ∃ u g, putU ⟨i4, n4, d4, b4⟩ = (u, g) := ⟨_, _, rfl⟩
  have h40 : E4 = 0 → g4 = 0 ∧ u4 = s := fun e => by
    rcases hU4 with ⟨h1, _, h2, _⟩ | ⟨_, _, h⟩
    · unfold putU at hp4
      rw [if_pos h1] at hp4
      simp only [Prod.mk.injEq] at hp4
      exact ⟨hp4.2.symm, hp4.1.symm.trans h2⟩
    · omega
  have HX := Lib.hid hx
  have HT := Lib.hid ht
  have HU := Lib.hid hu
  have HU3 := Lib.hid hU3
  have HM3 := Lib.hid hm3
  have HX3 := Lib.hid hl3
  have HT3 := Lib.hid ht3
  have H30 := Lib.hid h30
  have HU4 := Lib.hid hU4
  have HD4 := Lib.hid hd4
  have HP4 := Lib.hid hp4
  have H40 := Lib.hid h40
  have HF := R0.1.1
  have HS0 : Hid (∀ f ∈ l0, f.r.key.size ≤ maxLen ∧ f.r.val.size ≤ maxLen) := Lib.hid (fun f hf => (R0.1.2.1.out f hf).1)
  clear hx ht hu hU3 hm3 hl3 ht3 h30 hU4 hd4 hp4 h40 hL hm hn R0 hx0 hx1
  go_enter Try.func9, Try.ntmps9
  go_upto_region 4 with (go_at_call 35; refine (seg_cut b0 n0 A0 l0 L n c0 w.heap.size m _ (Lib.hid (fds_below HF.out (two_box _ _))) (by simp <;> omega) HN.out hnl HS0 HL HMM).mono ?_; rintro e w1 ⟨A1, c1, rfl, ho1, hb1⟩; have HO1 := Lib.hid ho1; have hb1' := hb1; simp only [World.size_alloc] at hb1'; obtain ⟨q0, q1, q2, f0, f1, f2⟩ := seg_rows ((hb1.block w.heap.size (by simp <;> omega)).trans ((Below.heap_alloc _ _ _ (by simp)).trans (heap_alloc_new w _))); obtain ⟨k0, k1, k2, k3, e0, e1, e2, e3⟩ := row_facts ((hb1.block (w.heap.size + 1) (by simp)).trans (by have := heap_alloc_new (w.alloc (.cells #[.int .i64 b0, .int .i64 n0, .slice A0 n c0] 53)) (.cells #[.int .i64 i1, .int .i64 m1, .int .u64 d, .string b1] 71); simpa using this)); have HB1 := Lib.hid hb1; have hz1 : w.heap.size + 1 < w1.heap.size := (by have := hb1.size; simp at this; omega); clear ho1 hb1 hb1')
  obtain ⟨W3, hW3⟩ : ∃ W3, (((w1.setCell ⟨w.heap.size, 0, none⟩ (.int .i64 b0)).setCell ⟨w.heap.size, 1, none⟩ (.int .i64 n0)).setCell ⟨w.heap.size, 2, none⟩ (.slice A1 m c1)).setCell ⟨w.heap.size + 1, 3, none⟩ (.string o) = W3 := ⟨_, rfl⟩
  have BX3 := bx_start (b := b0) (n := n0) (o := o) HMM.out rfl HB1.out HO1.out
  rw [hW3] at BX3 ⊢
  have HBX3 := Lib.hid BX3
  clear hW3 BX3 q0 q1 q2 f0 f1 f2 k0 k1 k2 k3 e0 e1 e2 e3 HB1 HO1 hz1 h3 h4
  obtain ⟨q0, q1, q2, _, _, _⟩ := seg_rows HBX3.out.seg
  go_upto_if 44 with (go_at_call 36; refine (ctext_is b0 n0 A1 L m c1 W3.heap.size t x _ (Lib.hid HBX3.out.rd) (Nat.le_refl _) HMM.out (by unfold maxLen; omega) HSL HX HT).mono ?_; rintro e w4 ⟨rfl, hb4⟩; have BX4 := Lib.hid (HBX3.out.below hb4))
  clear q0 q1 q2
  go_cut [6] (fun q wc => q = .bool false ∧ BX w wc w.heap.size (w.heap.size + 1) b0 n0 A1 m c1 L i1 m1 d o)
  case first =>
    by_cases hx0 : x = 0
    · subst hx0
      have HUT : Hid (SegU t b0 n0 L 0) := Lib.hid (.inl ⟨HX.out, by have := HT.out; rwa [if_pos rfl] at this, rfl⟩)
      have htz : t.size ≤ 100000 := by have h := HT.out; rw [if_pos rfl] at h; rw [← h]; exact text_small HX.out
      go_wp2_with (first
        | (go_at_call 34; refine (segs_two BX5 HO5 HMM.out hm70).mono ?_; rintro e w6 ⟨rfl, hb6⟩)
        | (go_at_call 38; refine (parse_m t b0 n0 L m 0 _ (by omega) HUT HMM).mono ?_; rintro e w5 ⟨A5, c5, rfl, ho5, hb5⟩; have HO5 := Lib.hid ho5; have BX5 := Lib.hid (BX4.out.below hb5); have hlg := BX5.out.ltg; obtain ⟨q0, q1, q2, _, _, _⟩ := seg_rows BX5.out.seg; clear ho5))
      go_meet
      exact ⟨rfl, BX5.out.below hb6⟩
    · have hx1 : (x == 0) = false := by simpa using hx0
      clear hx0
      go_wp2_with fail
      go_meet
      exact ⟨rfl, BX4.out⟩
  case rest =>
    obtain ⟨rfl, hbx4⟩ := hcut
    have BX4 := Lib.hid hbx4
    clear hbx4
    obtain ⟨q0, q1, q2, q3, _, _, _, _⟩ := row_facts BX4.out.ck
    go_upto_if 66 with (go_at_call 45; refine (cput_is i1 m1 d o u gx _ HDD.out HU).mono ?_; rintro e w5 ⟨rfl, hb5⟩; have BX5 := Lib.hid (BX4.out.below hb5))
    clear q0 q1 q2 q3
    go_cut [6] (fun q wc => q = .bool false ∧ BX w wc w.heap.size (w.heap.size + 1) b0 n0 A1 m c1 L i1 m1 d o)
    case first =>
      by_cases hg0 : gx = 0
      · subst hg0
        have HGU : Hid (GetU u ⟨i1, m1, d, o⟩ 0) := Lib.hid (by obtain ⟨h1, h2⟩ := putU_yes HU.out rfl; exact .inl ⟨h1, HDD.out, h2, rfl⟩)
        have huz : u.size ≤ 5000 := by obtain ⟨h1, h2⟩ := putU_yes HU.out rfl; rw [← h2]; have := putC_size h1 HDD.out; omega
        go_wp2_with (go_at_call 47; refine (cget_is u _ (by omega) ⟨i1, m1, d, o⟩ 0 HGU).mono ?_; rintro e w6 ⟨rfl, hb6⟩; have BX6 := Lib.hid (BX5.out.below hb6); have hlk := BX6.out.ltk; obtain ⟨q0, q1, q2, q3, _, _, _, _⟩ := row_facts BX6.out.ck)
        go_meet
        exact ⟨rfl, BX6.out.below (one_box _)⟩
      · have hg1 : (gx == 0) = false := by simpa using hg0
        clear hg0
        go_wp2_with fail
        go_meet
        exact ⟨rfl, BX5.out⟩
    case rest =>
      obtain ⟨rfl, hbx5⟩ := hcut
      have BX5 := Lib.hid hbx5
      clear hbx5 BX4
      by_cases h30 : E3 = 0
      · have hts : (t3.toList == s.toList) = true := by rw [H30.out h30]; simp
        have h31 : (E3 == 0) = true := by simpa using h30
        clear h30
        by_cases h40 : E4 = 0
        · obtain ⟨e40, e41⟩ := H40.out h40
          have h42 : (g4 == 0) = true := by simpa using e40
          have hus : (u4.toList == s.toList) = true := by rw [e41]; simp
          clear e41
          have h41 : (E4 != 0) = false := by simpa using h40
          clear h40 e40
          go_wp2_with (first
            | (go_at_call 42; have _q := X9; refine (fixed7_any _).mono ?_; rintro e w10 ⟨rfl, hb10⟩)
            | (go_at_call 45; have _q := X8; refine (cput_is i4 n4 d4 b4 u4 g4 _ HD4.out HP4).mono ?_; rintro e w9 ⟨rfl, hb9⟩; have X9 := Lib.hid (X8.out.trans ((one_box _).trans (hb9.mono (by simp)) |>.mono X8.out.size)))
            | (go_at_call 47; have _q := X7; refine (cget_is s _ (by omega) ⟨i4, n4, d4, b4⟩ E4 HU4).mono ?_; rintro e w8 ⟨rfl, hb8⟩; have X8 := Lib.hid (X7.out.trans (hb8.mono X7.out.size)))
            | (go_at_call 36; have _q := X6; refine (ctext_is b3 n3 A6 L3 m3 c6 w6.heap.size t3 0 _ (Lib.hid (R6.out.below (one_box _))) (by simp) HM3.out (by unfold maxLen; omega) HS3 HX3 HT3).mono ?_; rintro e w7 ⟨rfl, hb7⟩; have X7 := Lib.hid (X6.out.trans ((one_box _).trans (hb7.mono (by simp)) |>.mono X6.out.size)))
            | (go_at_call 38; refine (parse_m s b3 n3 L3 m3 E3 _ (by omega) HU3 HM3).mono ?_; rintro e w6 ⟨A6, c6, rfl, ho6, hb6⟩; have X6 := Lib.hid (BX5.out.b.trans (hb6.mono BX5.out.b.size)); have R6 := Lib.hid (own_rd ho6 HM3.out); clear ho6))
          go_ret
          exact ⟨rfl, X9.out.trans (hb10.mono X9.out.size)⟩
        · have h41 : (E4 != 0) = true := by simpa using h40
          clear h40
          go_wp2_with (first
            | (go_at_call 42; have _q := X9; refine (fixed7_any _).mono ?_; rintro e w10 ⟨rfl, hb10⟩)
            | (go_at_call 45; have _q := X8; refine (cput_is i4 n4 d4 b4 u4 g4 _ HD4.out HP4).mono ?_; rintro e w9 ⟨rfl, hb9⟩; have X9 := Lib.hid (X8.out.trans ((one_box _).trans (hb9.mono (by simp)) |>.mono X8.out.size)))
            | (go_at_call 47; have _q := X7; refine (cget_is s _ (by omega) ⟨i4, n4, d4, b4⟩ E4 HU4).mono ?_; rintro e w8 ⟨rfl, hb8⟩; have X8 := Lib.hid (X7.out.trans (hb8.mono X7.out.size)))
            | (go_at_call 36; have _q := X6; refine (ctext_is b3 n3 A6 L3 m3 c6 w6.heap.size t3 0 _ (Lib.hid (R6.out.below (one_box _))) (by simp) HM3.out (by unfold maxLen; omega) HS3 HX3 HT3).mono ?_; rintro e w7 ⟨rfl, hb7⟩; have X7 := Lib.hid (X6.out.trans ((one_box _).trans (hb7.mono (by simp)) |>.mono X6.out.size)))
            | (go_at_call 38; refine (parse_m s b3 n3 L3 m3 E3 _ (by omega) HU3 HM3).mono ?_; rintro e w6 ⟨A6, c6, rfl, ho6, hb6⟩; have X6 := Lib.hid (BX5.out.b.trans (hb6.mono BX5.out.b.size)); have R6 := Lib.hid (own_rd ho6 HM3.out); clear ho6))
          go_ret
          exact ⟨rfl, X9.out.trans (hb10.mono X9.out.size)⟩
      · have h31 : (E3 == 0) = false := by simpa using h30
        clear h30
        by_cases h40 : E4 = 0
        · obtain ⟨e40, e41⟩ := H40.out h40
          have h42 : (g4 == 0) = true := by simpa using e40
          have hus : (u4.toList == s.toList) = true := by rw [e41]; simp
          clear e41
          have h41 : (E4 != 0) = false := by simpa using h40
          clear h40 e40
          go_wp2_with (first
            | (go_at_call 42; have _q := X9; refine (fixed7_any _).mono ?_; rintro e w10 ⟨rfl, hb10⟩)
            | (go_at_call 45; have _q := X8; refine (cput_is i4 n4 d4 b4 u4 g4 _ HD4.out HP4).mono ?_; rintro e w9 ⟨rfl, hb9⟩; have X9 := Lib.hid (X8.out.trans ((one_box _).trans (hb9.mono (by simp)) |>.mono X8.out.size)))
            | (go_at_call 47; have _q := X7; refine (cget_is s _ (by omega) ⟨i4, n4, d4, b4⟩ E4 HU4).mono ?_; rintro e w8 ⟨rfl, hb8⟩; have X8 := Lib.hid (X7.out.trans (hb8.mono X7.out.size)))
            | (go_at_call 36; have _q := X6; refine (ctext_is b3 n3 A6 L3 m3 c6 w6.heap.size t3 0 _ (Lib.hid (R6.out.below (one_box _))) (by simp) HM3.out (by unfold maxLen; omega) HS3 HX3 HT3).mono ?_; rintro e w7 ⟨rfl, hb7⟩; have X7 := Lib.hid (X6.out.trans ((one_box _).trans (hb7.mono (by simp)) |>.mono X6.out.size)))
            | (go_at_call 38; refine (parse_m s b3 n3 L3 m3 E3 _ (by omega) HU3 HM3).mono ?_; rintro e w6 ⟨A6, c6, rfl, ho6, hb6⟩; have X6 := Lib.hid (BX5.out.b.trans (hb6.mono BX5.out.b.size)); have R6 := Lib.hid (own_rd ho6 HM3.out); clear ho6))
          go_ret
          exact ⟨rfl, X9.out.trans (hb10.mono X9.out.size)⟩
        · have h41 : (E4 != 0) = true := by simpa using h40
          clear h40
          go_wp2_with (first
            | (go_at_call 42; have _q := X9; refine (fixed7_any _).mono ?_; rintro e w10 ⟨rfl, hb10⟩)
            | (go_at_call 45; have _q := X8; refine (cput_is i4 n4 d4 b4 u4 g4 _ HD4.out HP4).mono ?_; rintro e w9 ⟨rfl, hb9⟩; have X9 := Lib.hid (X8.out.trans ((one_box _).trans (hb9.mono (by simp)) |>.mono X8.out.size)))
            | (go_at_call 47; have _q := X7; refine (cget_is s _ (by omega) ⟨i4, n4, d4, b4⟩ E4 HU4).mono ?_; rintro e w8 ⟨rfl, hb8⟩; have X8 := Lib.hid (X7.out.trans (hb8.mono X7.out.size)))
            | (go_at_call 36; have _q := X6; refine (ctext_is b3 n3 A6 L3 m3 c6 w6.heap.size t3 0 _ (Lib.hid (R6.out.below (one_box _))) (by simp) HM3.out (by unfold maxLen; omega) HS3 HX3 HT3).mono ?_; rintro e w7 ⟨rfl, hb7⟩; have X7 := Lib.hid (X6.out.trans ((one_box _).trans (hb7.mono (by simp)) |>.mono X6.out.size)))
            | (go_at_call 38; refine (parse_m s b3 n3 L3 m3 E3 _ (by omega) HU3 HM3).mono ?_; rintro e w6 ⟨A6, c6, rfl, ho6, hb6⟩; have X6 := Lib.hid (BX5.out.b.trans (hb6.mono BX5.out.b.size)); have R6 := Lib.hid (own_rd ho6 HM3.out); clear ho6))
          go_ret
          exact ⟨rfl, X9.out.trans (hb10.mono X9.out.size)⟩


set_option maxRecDepth 100000 in
set_option maxHeartbeats 1000000 in
theorem lifted (os : Os) (started : os.Started) (H : Type) (enc : TypeId × Value → H) :
    ReturnsInHanded {} Try.checked os 9 .any (Rows.chunksBackSpec.pre6 enc Try.prog Try.f9 Rows.chunksBackRow.domain false) (Rows.chunksBackSpec.post enc Try.prog Try.f9 false true false false) := by
  refine returnsInHanded_of_change (C := Try.checked) own started (by kernel_rfl) Try.func9
    (ChangeSpec.witness6 (enc := enc) (C := Try.checked) false ⟨#[], #[.agg #[.int .i64 0, .int .i64 0, .slice none 0 0], .agg #[.int .i64 0, .int .i64 0, .int .u64 0, .string ByteArray.empty], .string ByteArray.empty], []⟩ 8 (by kernel_rfl) (by kernel_rfl) (by kernel_rfl) (by kernel_rfl)) ?_
  intro W base args ds gs before hval0 hW _ _
  have hval : ∀ (j : Nat) t v, Try.f9.params[j]? = some t → args[j]? = some v → Value.okWide Try.prog W .any base t v := hval0
  have hW' := hW
  obtain ⟨p, q, hA0, hV, rfl, hfz, hnd⟩ := hW
  have hA : DataW.TrodAll enc Try.prog W 0 (fun _ => true) true Try.f9.params.toList args.toList ds p := hA0
  rw [Try.params9] at hA hval
  obtain ⟨v0, vs0, d0, ds0, p0, q0, hargs, rfl, rfl, h0, r0⟩ := trodAll_cons hA
  obtain ⟨v1, vs1, d1, ds1, p1, q1, rfl, rfl, rfl, h1, r1⟩ := trodAll_cons r0
  obtain ⟨v2, vs2, d2, ds2, p2, q2, rfl, rfl, rfl, h2, r2⟩ := trodAll_cons r1
  obtain ⟨rfl, rfl, rfl⟩ := trodAll_nil r2
  obtain rfl : args = #[v0, v1, v2] := by cases args; simp_all
  obtain ⟨rfl, rfl⟩ := trodVars_none hV
  have k0 := h0
  have lt0 : ∀ x ∈ p0, x.block < W.heap.size := by obtain ⟨m, hm⟩ := k0; exact DataW.trod_lt m _ _ _ hm
  have k1 := h1
  have lt1 : ∀ x ∈ p1, x.block < W.heap.size := by obtain ⟨m, hm⟩ := k1; exact DataW.trod_lt m _ _ _ hm
  have k2 := h2
  have lt2 : ∀ x ∈ p2, x.block < W.heap.size := by obtain ⟨m, hm⟩ := k2; exact DataW.trod_lt m _ _ _ hm
  obtain ⟨b0, n0, A0, l0, c0, e0, R0⟩ := L7.open_seg (hval 0 53 v0 rfl rfl) h0
  subst e0
  obtain ⟨i1, m1, x1, b1, e1, hx1, zb1⟩ := L7.open_ck (hval 1 71 v1 rfl rfl) h1
  subst e1
  obtain ⟨a2, e2, _, _, w2⟩ := open_string Try.underlying9 (hval 2 9 v2 rfl rfl) h2
  subst e2
  clear hA0 hval0
  refine (walk W b0 n0 A0 l0 c0 R0 i1 m1 x1 b1 hx1 zb1 a2 w2).mono fun e W' ⟨he, bel⟩ => ?_
  subst he
  exact ⟨_, rfl, _, _, _, [], _, [], hW', trodAll_mk1 (shut_bool Try.underlying4 _), (trodAll_cons_mk (Below.trod laidOut (by kernel_rfl) (of_decide_eq_true (by kernel_rfl)) k0 bel lt0) (trodAll_cons_mk (Below.trod laidOut (by kernel_rfl) (of_decide_eq_true (by kernel_rfl)) k1 bel lt1) (trodAll_cons_mk (Below.trod laidOut (by kernel_rfl) (of_decide_eq_true (by kernel_rfl)) k2 bel lt2) trodAll_mk0))), rfl, bel.frame _, fun h => by cases h⟩

theorem over : Rows.chunksBackRow.holds Try.pinned (OpenSpec.ofChange Rows.chunksBackSpec) :=
  OpenClaim.holds_of_wide 9 Try.f9 rfl rfl rfl rfl rfl rfl rfl ⟨rfl, rfl, rfl, rfl, rfl⟩ rfl rfl rfl rfl rfl (by kernel_rfl) Try.func9 (by kernel_rfl)
    (of_decide_eq_true (by kernel_rfl)) (by unfold Func.isWrapper; first | (rw [if_pos (by decide +kernel)]; kernel_rfl) | (rw [if_neg (by decide +kernel)]; exact ⟨rfl, rfl⟩))
    (fun os started H enc _ => lifted os started H enc)

/-- the statement -/
theorem proved : Rows.ChunksBackSaid :=
  over
#print axioms proved
end Go.Proofs.Ytlemcijgjebekaa.chunksBack
