/-
  Contracts: a reply's bytes: the document's.
-/
import Derived.Test.YtlhkhccpeohefaaRepRight
import Derived.Test.YtlhkhccpeohefaaRepPut
import Derived.Test.YtlhkhccpeohefaaReqOne
import Derived.Test.YtlhkhccpeohefaaMRecRall
namespace Go.Proofs.Ytlhkhccpeohefaa.L4
open Go.RowKit
open L3

set_option maxRecDepth 100000 in
set_option maxHeartbeats 4000000 in
theorem rreply_bad (r : Rp) (FA PA : Option Addr) (fc pc B : Nat) (w : World) (hB : B ≤ w.heap.size) (hF : Hid (ReadsF w B FA r.found)) (hP : Hid (ReadsP w B PA r.parts)) (zF : Hid (r.found.length ≤ maxLen)) (zP : Hid (r.parts.length ≤ maxLen)) (sF : Hid (FSz r.found)) (sP : Hid (PSz r.parts)) (x : Int) (HC : Hid (r.chk = x)) (hx : x ≠ 0) :
    Calls Try.prog 22 #[.agg #[.int .i64 r.e, .int .i64 r.off, .int .i64 r.n, .int .i64 r.gen, .slice FA r.found.length fc, .slice PA r.parts.length pc]] w fun e w' => e = .returned (.tuple #[.string ⟨#[]⟩, .int .i64 x]) ∧ Below w.heap.size w w' := by
  have hne : (x != 0) = true := by simpa using hx
  have RW := Lib.hid (heap_alloc_new w (.cells #[.int .i64 r.e, .int .i64 r.off, .int .i64 r.n, .int .i64 r.gen, .slice FA r.found.length fc, .slice PA r.parts.length pc] 42 (0, 0)))
  have BW := Lib.hid (one_box (w := w) (.cells #[.int .i64 r.e, .int .i64 r.off, .int .i64 r.n, .int .i64 r.gen, .slice FA r.found.length fc, .slice PA r.parts.length pc] 42 (0, 0)))
  clear hx
  go_enter Try.func22, Try.ntmps22
  go_wp2_with (go_at_call 47; refine (right_is r FA PA fc pc B _ (Nat.le_trans hB BW.out.size) (Lib.hid (hF.out.below (BW.out.mono hB))) (Lib.hid (hP.out.below (BW.out.mono hB))) zF zP sF sP x HC).mono ?_; rintro e W2 ⟨rfl, hb2⟩; have RW2 := Lib.hid ((hb2.block w.heap.size (Array.getElem?_eq_some_iff.1 RW.out).1).trans RW.out); have BW2 := Lib.hid (acc BW.out hb2); clear hb2)
  go_ret2
  exact ⟨rfl, BW2.out⟩

set_option maxRecDepth 100000 in
set_option maxHeartbeats 16000000 in
theorem rreply_ok (r : Rp) (FA PA : Option Addr) (fc pc B : Nat) (w : World) (hB : B ≤ w.heap.size) (hF : Hid (ReadsF w B FA r.found)) (hP : Hid (ReadsP w B PA r.parts)) (zF : Hid (r.found.length ≤ maxLen)) (zP : Hid (r.parts.length ≤ maxLen)) (sF : Hid (FSz r.found)) (sP : Hid (PSz r.parts)) (HC : Hid (r.chk = 0)) :
    Calls Try.prog 22 #[.agg #[.int .i64 r.e, .int .i64 r.off, .int .i64 r.n, .int .i64 r.gen, .slice FA r.found.length fc, .slice PA r.parts.length pc]] w fun e w' => e = .returned (.tuple #[.string r.bytes, .int .i64 0]) ∧ Below w.heap.size w w' := by
  have g := good_r HC.out
  have HG := Lib.hid g
  obtain ⟨a1, h1⟩ : ∃ s, V.put r.e.toNat = s := ⟨_, rfl⟩
  obtain ⟨a2, h2⟩ : ∃ s, V.put r.off.toNat = s := ⟨_, rfl⟩
  obtain ⟨a3, h3⟩ : ∃ s, V.put r.n.toNat = s := ⟨_, rfl⟩
  obtain ⟨a4, h4⟩ : ∃ s, V.put r.gen.toNat = s := ⟨_, rfl⟩
  obtain ⟨a5, h5⟩ : ∃ s, V.put (r.found.length : Int).toNat = s := ⟨_, rfl⟩
  obtain ⟨a6, h6⟩ : ∃ s, V.put (r.parts.length : Int).toNat = s := ⟨_, rfl⟩
  have z1 : a1.size ≤ 10 := by rw [← h1]; exact put_le r.e g.e.2
  have z2 : a2.size ≤ 10 := by rw [← h2]; exact put_le r.off g.off.2
  have z3 : a3.size ≤ 10 := by rw [← h3]; exact put_le r.n g.n.2
  have z4 : a4.size ≤ 10 := by rw [← h4]; exact put_le r.gen g.gen.2
  have z5 : a5.size ≤ 10 := by rw [← h5]; exact put_le (r.found.length : Int) (by have := g.lf; omega)
  have z6 : a6.size ≤ 10 := by rw [← h6]; exact put_le (r.parts.length : Int) (by have := g.lp; omega)
  have H5 : Hid (a1 ++ a2 ++ a3 ++ a4 ++ a5 = five r 5) := Lib.hid (by
    rw [← h1, ← h2, ← h3, ← h4, ← h5]
    show _ = (⟨#[]⟩ : ByteArray) ++ V.put r.e.toNat ++ V.put r.off.toNat ++ V.put r.n.toNat ++ V.put r.gen.toNat ++ V.put r.found.length
    rw [show (⟨#[]⟩ : ByteArray) ++ V.put r.e.toNat = V.put r.e.toNat from ByteArray.empty_append, Int.toNat_natCast])
  have H6 : Hid (V.put r.parts.length = a6) := Lib.hid (by rw [← h6, Int.toNat_natCast])
  have E1 := Lib.hid h1
  have E2 := Lib.hid h2
  have E3 := Lib.hid h3
  have E4 := Lib.hid h4
  have E5 := Lib.hid h5
  have E6 := Lib.hid h6
  obtain ⟨e0, e1⟩ := g.e
  obtain ⟨off0, off1⟩ := g.off
  obtain ⟨n0, n1⟩ := g.n
  obtain ⟨gen0, gen1⟩ := g.gen
  have lf0 : (0 : Int) ≤ (r.found.length : Int) := by omega
  have lf1 : (r.found.length : Int) ≤ 1099511627776 := by have := g.lf; omega
  have lp0 : (0 : Int) ≤ (r.parts.length : Int) := by omega
  have lp1 : (r.parts.length : Int) ≤ 1099511627776 := by have := g.lp; omega
  have no1 : (9223372036854775807 < a1.size + a2.size) = False := by simp; omega
  have no2 : (9223372036854775807 < a1.size + a2.size + a3.size) = False := by simp; omega
  have no3 : (9223372036854775807 < a1.size + a2.size + a3.size + a4.size) = False := by simp; omega
  have no4 : (9223372036854775807 < a1.size + a2.size + a3.size + a4.size + a5.size) = False := by simp; omega
  have RW := Lib.hid (heap_alloc_new w (.cells #[.int .i64 r.e, .int .i64 r.off, .int .i64 r.n, .int .i64 r.gen, .slice FA r.found.length fc, .slice PA r.parts.length pc] 42 (0, 0)))
  have BW := Lib.hid (one_box (w := w) (.cells #[.int .i64 r.e, .int .i64 r.off, .int .i64 r.n, .int .i64 r.gen, .slice FA r.found.length fc, .slice PA r.parts.length pc] 42 (0, 0)))
  clear g h1 h2 h3 h4 h5 h6
  go_enter Try.func22, Try.ntmps22
  go_upto_region 1 with (fail)
  generalize w.alloc (.cells #[.int .i64 r.e, .int .i64 r.off, .int .i64 r.n, .int .i64 r.gen, .slice FA r.found.length fc, .slice PA r.parts.length pc] 42 (0, 0)) = W1 at RW BW ⊢
  have x0 := (cell_of_row _ _ 0 _ _ _ RW.out).trans rfl
  have x1 := (cell_of_row _ _ 1 _ _ _ RW.out).trans rfl
  have x2 := (cell_of_row _ _ 2 _ _ _ RW.out).trans rfl
  have x3 := (cell_of_row _ _ 3 _ _ _ RW.out).trans rfl
  have x4 := (cell_of_row _ _ 4 _ _ _ RW.out).trans rfl
  have x5 := (cell_of_row _ _ 5 _ _ _ RW.out).trans rfl
  go_upto_region 4 with (go_at_call 47; refine (right_is r FA PA fc pc B _ (Nat.le_trans hB BW.out.size) (Lib.hid (hF.out.below (BW.out.mono hB))) (Lib.hid (hP.out.below (BW.out.mono hB))) zF zP sF sP 0 HC).mono ?_; rintro e W2 ⟨rfl, hb2⟩; have RW2 := Lib.hid ((hb2.block w.heap.size (Array.getElem?_eq_some_iff.1 RW.out).1).trans RW.out); have BW2 := Lib.hid (acc BW.out hb2); clear hb2)
  clear x0 x1 x2 x3 x4 x5
  have HT : Hid (∀ w', Below W2.heap.size W2 w' → (w'.cell? ⟨w.heap.size, 0, none⟩ = some (.int .i64 r.e) ∧ w'.cell? ⟨w.heap.size, 1, none⟩ = some (.int .i64 r.off) ∧ w'.cell? ⟨w.heap.size, 2, none⟩ = some (.int .i64 r.n) ∧ w'.cell? ⟨w.heap.size, 3, none⟩ = some (.int .i64 r.gen) ∧ w'.cell? ⟨w.heap.size, 4, none⟩ = some (.slice FA r.found.length fc)) ∧ Below W2.heap.size W2 w') := Lib.hid (fun w' hb => by
    have q := (hb.block w.heap.size (Array.getElem?_eq_some_iff.1 RW2.out).1).trans RW2.out
    exact ⟨⟨(cell_of_row _ _ 0 _ _ _ q).trans rfl, (cell_of_row _ _ 1 _ _ _ q).trans rfl, (cell_of_row _ _ 2 _ _ _ q).trans rfl, (cell_of_row _ _ 3 _ _ _ q).trans rfl, (cell_of_row _ _ 4 _ _ _ q).trans rfl⟩, hb⟩)
  go_cut [5] (fun s5 wx => s5 = .string (five r 5) ∧ Hid (Below W2.heap.size W2 wx))
  case first =>
    go_region_held3 (fun w' => (w'.cell? ⟨w.heap.size, 0, none⟩ = some (.int .i64 r.e) ∧ w'.cell? ⟨w.heap.size, 1, none⟩ = some (.int .i64 r.off) ∧ w'.cell? ⟨w.heap.size, 2, none⟩ = some (.int .i64 r.n) ∧ w'.cell? ⟨w.heap.size, 3, none⟩ = some (.int .i64 r.gen) ∧ w'.cell? ⟨w.heap.size, 4, none⟩ = some (.slice FA r.found.length fc)) ∧ Below W2.heap.size W2 w')
      (first | with_reducible assumption | exact HT.out _ (Below.refl _ _).drew | exact keep_one (P := fun w' => (w'.cell? ⟨w.heap.size, 0, none⟩ = some (.int .i64 r.e) ∧ w'.cell? ⟨w.heap.size, 1, none⟩ = some (.int .i64 r.off) ∧ w'.cell? ⟨w.heap.size, 2, none⟩ = some (.int .i64 r.n) ∧ w'.cell? ⟨w.heap.size, 3, none⟩ = some (.int .i64 r.gen) ∧ w'.cell? ⟨w.heap.size, 4, none⟩ = some (.slice FA r.found.length fc))) HT.out (by assumption) (by assumption) (Nat.le_refl _))
      (first
        | (go_at_call 31; (with_reducible refine (rnum_is r.e a1 _ e0 e1 E1).mono ?_); rintro e wn1 ⟨rfl, hbn1⟩)
        | (go_at_call 31; (with_reducible refine (rnum_is r.off a2 _ off0 off1 E2).mono ?_); rintro e wn2 ⟨rfl, hbn2⟩)
        | (go_at_call 31; (with_reducible refine (rnum_is r.n a3 _ n0 n1 E3).mono ?_); rintro e wn3 ⟨rfl, hbn3⟩)
        | (go_at_call 31; (with_reducible refine (rnum_is r.gen a4 _ gen0 gen1 E4).mono ?_); rintro e wn4 ⟨rfl, hbn4⟩)
        | (go_at_call 31; (with_reducible refine (rnum_is (r.found.length : Int) a5 _ lf0 lf1 E5).mono ?_); rintro e wn5 ⟨rfl, hbn5⟩))
    all_goals
      rename_i hh
      go_wp2_with fail
      go_meet
      exact ⟨congrArg Value.string H5.out, Lib.hid hh.2⟩
  case rest =>
    obtain ⟨rfl, HBX⟩ := hcut
    have z5' : Hid ((five r 5).size ≤ 50) := Lib.hid (five_size r HG.out 5)
    go_wp2_with fail
    go_loopw [5, 6] (fun t i wr => ∃ k : Nat, k ≤ r.found.length ∧ i = .int .i64 k ∧ t = .string (catF (five r 5) (r.found.take k)) ∧ Below W2.heap.size W2 wr) (fun _ i _ => r.found.length - (intOf i).toNat)
    case atStart => exact ⟨0, Nat.zero_le _, rfl, rfl, HBX.out⟩
    case round =>
      obtain ⟨k, hk, rfl, rfl, hbel⟩ := hrel
      have zs := catF_size HG.out (five r 5) k
      have zk := z5'.out
      have zl := HG.out.lf
      obtain ⟨T, hT⟩ : ∃ T, catF (five r 5) (r.found.take k) = T := ⟨_, rfl⟩
      rw [hT] at zs ⊢
      have HB := Lib.hid hbel
      have q := (hbel.block w.heap.size (Array.getElem?_eq_some_iff.1 RW2.out).1).trans RW2.out
      have Q := Lib.hid q
      have x4 := (cell_of_row _ _ 4 _ _ _ q).trans rfl
      clear q
      by_cases hlt : k < r.found.length
      · obtain ⟨g, hge, hg, hcells⟩ := hF.out (by omega)
        rw [hge] at x4
        obtain ⟨⟨fo, ⟨fk, fkey, ft, fval⟩⟩, hf⟩ : ∃ f, r.found[k]? = some f := ⟨r.found[k], List.getElem?_eq_getElem hlt⟩
        obtain ⟨⟨o0, o1⟩, hck⟩ := HG.out.fs _ (List.mem_of_getElem? hf)
        have pb := (put_bounds hck).2
        obtain ⟨e0, e1, e2, e3, e4⟩ := hcells k _ hf
        dsimp only at e0 e1 e2 e3 e4 o0 o1
        obtain ⟨u, hu⟩ : ∃ u, V.put fo.toNat = u := ⟨_, rfl⟩
        obtain ⟨v, hv⟩ : ∃ v, putT fk fkey ft fval = v := ⟨_, rfl⟩
        have zu : u.size ≤ 10 := by rw [← hu]; exact put_le fo o1
        have zv : v.size ≤ 2000 := by rw [← hv]; exact Nat.le_trans pb (by decide)
        have HNX : Hid (T ++ (u ++ v) = catF (five r 5) (r.found.take (k + 1))) := Lib.hid (by
          rw [catF_next hf, hT, ← hu, ← hv, ByteArray.append_assoc]
          rfl)
        have HU := Lib.hid hu
        have HV := Lib.hid hv
        have HCK : Hid (chk fk fkey ft fval = 0) := Lib.hid hck
        have k0 : (0 : Int) ≤ (k : Int) := by omega
        have k1 : (k : Int) < (r.found.length : Int) := by omega
        have no5 : (9223372036854775807 < u.size + v.size) = False := by simp; omega
        have no6 : (9223372036854775807 < T.size + (u.size + v.size)) = False := by simp; omega
        have hgw : g < W2.heap.size := by have := BW2.out.size; omega
        have HTT : Hid (∀ w', Below W2.heap.size W2 w' → (w'.cell? ⟨w.heap.size, 4, none⟩ = some (.slice (some ⟨g, 0, none⟩) r.found.length fc) ∧ w'.cell? ⟨g, k * 5, none⟩ = some (.int .i64 fo) ∧ w'.cell? ⟨g, k * 5 + 1, none⟩ = some (.bool fk) ∧ w'.cell? ⟨g, k * 5 + 2, none⟩ = some (.string fkey) ∧ w'.cell? ⟨g, k * 5 + 3, none⟩ = some (.bool ft) ∧ w'.cell? ⟨g, k * 5 + 4, none⟩ = some (.string fval)) ∧ Below W2.heap.size W2 w') := Lib.hid (fun w' hb => by
          have q := (hb.block w.heap.size (Array.getElem?_eq_some_iff.1 RW2.out).1).trans RW2.out
          have hz := BW2.out.trans (hb.mono BW2.out.size)
          have c := fun o => hz.cell (p := ⟨g, o, none⟩) (by show g < _; omega)
          exact ⟨⟨by rw [← hge]; exact (cell_of_row _ _ 4 _ _ _ q).trans rfl, (c _).trans e0, (c _).trans e1, (c _).trans e2, (c _).trans e3, (c _).trans e4⟩, hb⟩)
        clear hcells hf hu hv hge e0 e1 e2 e3 e4 hbel hT hck pb zs zk zl zu zv
        go_wp2_with fail
        go_region_held3 (fun w' => (w'.cell? ⟨w.heap.size, 4, none⟩ = some (.slice (some ⟨g, 0, none⟩) r.found.length fc) ∧ w'.cell? ⟨g, k * 5, none⟩ = some (.int .i64 fo) ∧ w'.cell? ⟨g, k * 5 + 1, none⟩ = some (.bool fk) ∧ w'.cell? ⟨g, k * 5 + 2, none⟩ = some (.string fkey) ∧ w'.cell? ⟨g, k * 5 + 3, none⟩ = some (.bool ft) ∧ w'.cell? ⟨g, k * 5 + 4, none⟩ = some (.string fval)) ∧ Below W2.heap.size W2 w')
          (first | with_reducible assumption | exact HTT.out _ HB.out.drew | exact HTT.out _ (acc (by exact (‹_ ∧ Below W2.heap.size W2 _›).2) (by assumption)))
          (first
            | (go_at_call 31; refine (rnum_is fo u _ o0 o1 HU).mono ?_; rintro e wn ⟨rfl, hbn⟩)
            | (go_at_call 48; refine (refrec_is _ _ _ _ v _ HCK HV).mono ?_; rintro e wm ⟨rfl, hbm⟩))
        all_goals
          rename_i hh
          go_wp2_with fail
          go_roundw
          case rel => exact ⟨k + 1, by omega, by go_num, congrArg Value.string HNX.out, hh.2⟩
          case measure => simp [intOf]; omega
      · obtain rfl : k = r.found.length := by omega
        rw [List.take_length] at hT
        have HT1 := Lib.hid hT
        have no7 : (9223372036854775807 < T.size + a6.size) = False := by simp; omega
        have zT : T.size + a6.size ≤ 100000 := by omega
        have x5 := (cell_of_row _ _ 5 _ _ _ Q.out).trans rfl
        clear hT hbel zs zk zl hk hlt
        go_wp2_with (go_at_call 31; refine (rnum_is (r.parts.length : Int) a6 _ lp0 lp1 E6).mono ?_; rintro e W3 ⟨rfl, hb3⟩; have HB3 := Lib.hid (acc HB.out hb3); clear hb3 x4 x5)
        obtain ⟨T2, hT2⟩ : ∃ T2, T ++ a6 = T2 := ⟨_, rfl⟩
        rw [hT2]
        have zT2 : T2.size ≤ 100000 := by rw [← hT2, ByteArray.size_append]; exact zT
        have HT2 := Lib.hid hT2
        clear hT2 zT no7
        go_loopw [5, 7] (fun t i wr => ∃ k : Nat, k ≤ r.parts.length ∧ i = .int .i64 k ∧ t = .string (catP T2 (r.parts.take k)) ∧ Below W2.heap.size W2 wr) (fun _ i _ => r.parts.length - (intOf i).toNat)
        case atStart => exact ⟨0, Nat.zero_le _, rfl, rfl, HB3.out⟩
        case round =>
          obtain ⟨k, hk, rfl, rfl, hbel⟩ := hrel
          have zs := catP_size HG.out T2 k
          have zl := HG.out.lp
          obtain ⟨T3, hT3⟩ : ∃ T3, catP T2 (r.parts.take k) = T3 := ⟨_, rfl⟩
          rw [hT3] at zs ⊢
          have HB4 := Lib.hid hbel
          have q := (hbel.block w.heap.size (Array.getElem?_eq_some_iff.1 RW2.out).1).trans RW2.out
          have x5 := (cell_of_row _ _ 5 _ _ _ q).trans rfl
          clear q
          by_cases hlt : k < r.parts.length
          · obtain ⟨g, hge, hg, hcells⟩ := hP.out (by omega)
            rw [hge] at x5
            obtain ⟨⟨pt, pn⟩, hf⟩ : ∃ f, r.parts[k]? = some f := ⟨r.parts[k], List.getElem?_eq_getElem hlt⟩
            obtain ⟨⟨o0, o1⟩, hck⟩ := HG.out.ps _ (List.mem_of_getElem? hf)
            have pb := (name_size' hck).2
            obtain ⟨e0, e1⟩ := hcells k _ hf
            dsimp only at e0 e1 o0 o1 pb
            obtain ⟨u, hu⟩ : ∃ u, txt pt = u := ⟨_, rfl⟩
            obtain ⟨v, hv⟩ : ∃ v, V.put pn.toNat = v := ⟨_, rfl⟩
            have zu : u.size ≤ 2000 := by rw [← hu]; have := txt_size pt (by omega); omega
            have zv : v.size ≤ 10 := by rw [← hv]; exact put_le pn o1
            have HNX : Hid (T3 ++ (u ++ v) = catP T2 (r.parts.take (k + 1))) := Lib.hid (by
              rw [catP_next hf, hT3, ← hu, ← hv, ByteArray.append_assoc])
            have HU := Lib.hid hu
            have HV := Lib.hid hv
            have pz : pt.size ≤ 281474976710656 := by omega
            have k0 : (0 : Int) ≤ (k : Int) := by omega
            have k1 : (k : Int) < (r.parts.length : Int) := by omega
            have no5 : (9223372036854775807 < u.size + v.size) = False := by simp; omega
            have no6 : (9223372036854775807 < T3.size + (u.size + v.size)) = False := by simp; omega
            have hgw : g < W2.heap.size := by have := BW2.out.size; omega
            have HTT : Hid (∀ w', Below W2.heap.size W2 w' → (w'.cell? ⟨w.heap.size, 5, none⟩ = some (.slice (some ⟨g, 0, none⟩) r.parts.length pc) ∧ w'.cell? ⟨g, k * 2, none⟩ = some (.string pt) ∧ w'.cell? ⟨g, k * 2 + 1, none⟩ = some (.int .i64 pn)) ∧ Below W2.heap.size W2 w') := Lib.hid (fun w' hb => by
              have q := (hb.block w.heap.size (Array.getElem?_eq_some_iff.1 RW2.out).1).trans RW2.out
              have hz := BW2.out.trans (hb.mono BW2.out.size)
              have c := fun o => hz.cell (p := ⟨g, o, none⟩) (by show g < _; omega)
              exact ⟨⟨by rw [← hge]; exact (cell_of_row _ _ 5 _ _ _ q).trans rfl, (c _).trans e0, (c _).trans e1⟩, hb⟩)
            clear hcells hf hu hv hge e0 e1 hbel hT3 hck pb zs zl zu zv
            go_wp2_with fail
            go_region_held3 (fun w' => (w'.cell? ⟨w.heap.size, 5, none⟩ = some (.slice (some ⟨g, 0, none⟩) r.parts.length pc) ∧ w'.cell? ⟨g, k * 2, none⟩ = some (.string pt) ∧ w'.cell? ⟨g, k * 2 + 1, none⟩ = some (.int .i64 pn)) ∧ Below W2.heap.size W2 w')
              (first | with_reducible assumption | exact HTT.out _ HB4.out.drew | exact HTT.out _ (acc (by exact (‹_ ∧ Below W2.heap.size W2 _›).2) (by assumption)))
              (first
                | (go_at_call 49; refine (reftxt_is pt u _ pz HU).mono ?_; rintro e wm ⟨rfl, hbm⟩)
                | (go_at_call 31; refine (rnum_is pn v _ o0 o1 HV).mono ?_; rintro e wn ⟨rfl, hbn⟩))
            all_goals
              rename_i hh
              go_wp2_with fail
              go_roundw
              case rel => exact ⟨k + 1, by omega, by go_num, congrArg Value.string HNX.out, hh.2⟩
              case measure => simp [intOf]; omega
          · obtain rfl : k = r.parts.length := by omega
            rw [List.take_length] at hT3
            have HT3 : Hid (T3 = r.bytes) := Lib.hid (by rw [← hT3, ← HT2.out, ← HT1.out, ← H6.out]; rfl)
            clear hT3 hbel zs zl hk hlt
            go_wp2_with fail
            go_ret2
            exact ⟨congrArg (fun s => Ending.returned (.tuple #[.string s, .int .i64 0])) HT3.out, BW2.out.trans (HB4.out.mono BW2.out.size)⟩
end Go.Proofs.Ytlhkhccpeohefaa.L4
