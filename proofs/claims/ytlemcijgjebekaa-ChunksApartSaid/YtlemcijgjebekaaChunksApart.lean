/-
  A chunk of another text than the joiner's, or with another number of chunks, is refused and changes nothing of what was taken: for every text, cut at 100 bytes, and any chunk, its body cut at 100 bytes.
-/
import Derived.Test.YtlemcijgjebekaaRows
import Derived.WalkKit
import Derived.ProofKit
import Derived.OpenShut
import Derived.ShutString
import Derived.ChangeOld
import Derived.Below
import Derived.Test.YtlemcijgjebekaaChFixed
import Derived.Test.YtlemcijgjebekaaRecOpen
import Derived.Deep.RegionHeld3
namespace Go.Proofs.Ytlemcijgjebekaa.chunksApart
open Go.ChangeShapes Go.WideShapes Go.ChangeAt Go.RowKit Go.Deep
open Go.ChangeMaps (open_string shut_string)
open L3 L4 L5 L7

theorem own : ownKnob Try.prog.godebug = none := by kernel_rfl
theorem laidOut : laidOutB Try.prog = true := by kernel_rfl

section
variable {H : Type} {enc : TypeId × Value → H} {w : World} {base : Nat} {spare : Nat → Bool} {held : Bool}
set_option maxRecDepth 100000 in
theorem cells_ck {n : Nat} {cs : List Value} {x : DataW H × List MemPlace} (h : DataW.trod enc Try.prog w base spare held n 71 cs = some x) :
    ∃ (i m d : Int) (b : ByteArray), cs = [.int .i64 i, .int .i64 m, .int .u64 d, .string b] ∧ (Lit.int .u64 d).wf = true ∧ b.size ≤ maxLen := by
  obtain ⟨xs, m, _, _, hl, hxl, hf⟩ := DataW.trod_struct Try.underlying71 h
  have hl4 : cs.length = 4 := hl.trans (by kernel_rfl)
  have hx4 : xs.length = 4 := hxl
  match cs, hl4 with
  | [c0, c1, c2, c3], _ =>
    match xs, hx4 with
    | [y0, y1, y2, y3], _ =>
      have f0 : DataW.trod enc Try.prog w base spare held m 3 (([c0, c1, c2, c3].drop 0).take (Try.prog.cellsOf 3)) = some y0 := hf 0 _ rfl
      have f1 : DataW.trod enc Try.prog w base spare held m 3 (([c0, c1, c2, c3].drop 1).take (Try.prog.cellsOf 3)) = some y1 := hf 1 _ rfl
      have f2 : DataW.trod enc Try.prog w base spare held m 67 (([c0, c1, c2, c3].drop 2).take (Try.prog.cellsOf 67)) = some y2 := hf 2 _ rfl
      have f3 : DataW.trod enc Try.prog w base spare held m 9 (([c0, c1, c2, c3].drop 3).take (Try.prog.cellsOf 9)) = some y3 := hf 3 _ rfl
      have z3 : Try.prog.cellsOf 3 = 1 := by kernel_rfl
      have z6 : Try.prog.cellsOf 67 = 1 := by kernel_rfl
      have z9 : Try.prog.cellsOf 9 = 1 := by kernel_rfl
      rw [z3] at f0 f1
      rw [z6] at f2
      rw [z9] at f3
      obtain ⟨i, e0, _⟩ := DataW.trod_int Try.underlying3 f0
      obtain ⟨m', e1, _⟩ := DataW.trod_int Try.underlying3 f1
      obtain ⟨d, e2, _, hd⟩ := DataW.trod_int Try.underlying67 f2
      obtain ⟨b, e3, _, hb⟩ := DataW.trod_string Try.underlying9 f3
      simp at e0 e1 e2 e3
      subst e0 e1 e2 e3
      exact ⟨i, m', d, b, rfl, hd, hb⟩
set_option maxRecDepth 100000 in
theorem open_ck {r : Reach} {b0 : Nat} {v : Value} {d : DataW H} {p : List MemPlace} (hv : Value.okWide Try.prog w r b0 71 v) (h : DataW.Trod enc Try.prog w base spare held 71 v d p) :
    ∃ (i m x : Int) (b : ByteArray), v = .agg #[.int .i64 i, .int .i64 m, .int .u64 x, .string b] ∧ (Lit.int .u64 x).wf = true ∧ b.size ≤ maxLen := by
  obtain ⟨cs, rfl, _⟩ := okWide_struct Try.underlying71 hv
  obtain ⟨fuel, hf⟩ := h
  obtain ⟨i, m, x, b, e, h1, h2⟩ := cells_ck hf
  refine ⟨i, m, x, b, ?_, h1, h2⟩
  have e' : cs.toList = [.int .i64 i, .int .i64 m, .int .u64 x, .string b] := e
  rw [← Array.toArray_toList (xs := cs), e']
end

theorem fx_first {w w1 w2 w3 : World} {g bm D : Nat} {cur : Array Value} (hl : w1.heap[w.heap.size]? = some (.cells cur 71 (0, 0))) (hb1 : Below w.heap.size w w1) (hb2 : Below w1.heap.size w1 w2) (hb3 : Below w2.heap.size w2 w3) (hj : Jn w3 g bm D []) (hg : w2.heap.size ≤ g) (hm : w2.heap.size ≤ bm) :
    FX w w3 w.heap.size g bm D cur none 0 [] [] := by
  have l1 := (Array.getElem?_eq_some_iff.1 hl).1
  have z1 := hb1.size
  have z2 := hb2.size
  exact ⟨(hb3.block _ (by omega)).trans ((hb2.block _ l1).trans hl), hj, hb1.trans ((hb2.trans (hb3.mono z2)).mono z1), Nat.le_refl _, by omega, by omega, by omega, by omega, 0, World.ownsRow_nil _ _ _ _⟩
theorem fx_rebase {w W : World} {o : Obj} {gl g bm D : Nat} {cur : Array Value} {A : Option Addr} {c : Nat} {xs : List Int} {m : Js} (h : FX (w.alloc o) W gl g bm D cur A c xs m) : FX w W gl g bm D cur A c xs m ∧ gl ≠ w.heap.size ∧ g ≠ w.heap.size ∧ bm ≠ w.heap.size := by
  have h0 := h.h0
  have g0 := h.g0
  have b0 := h.b0
  simp only [World.size_alloc] at h0 g0 b0
  exact ⟨⟨h.l, h.j, (one_box o).trans (h.b.mono (by simp)), by omega, h.hg, h.hb, by omega, by omega, h.o⟩, by omega, by omega, by omega⟩
theorem fx_set {w W : World} {gl g bm D k : Nat} {cur : Array Value} {A : Option Addr} {c : Nat} {xs : List Int} {m : Js} {cs : Array Value} (h : FX w W gl g bm D cur A c xs m) (hk : w.heap.size ≤ k) (h1 : gl ≠ k) (h2 : g ≠ k) (h3 : bm ≠ k) (hc : W.heap[k]? = some (.cells cs 71 (0, 0))) (i : Nat) (u : Value) : FX w (W.setCell ⟨k, i, none⟩ u) gl g bm D cur A c xs m := by
  have hq : ∀ j, j ≠ k → (W.setCell ⟨k, i, none⟩ u).heap[j]? = W.heap[j]? := fun j hj => Below.heap_setCell _ _ _ _ (fun e => hj e)
  refine ⟨(hq _ h1).trans h.l, ⟨(hq _ h2).trans h.j.row, h.j.has.at (hq _ h3)⟩, h.b.setCell (p := ⟨k, i, none⟩) hk _, h.h0, h.hg, h.hb, h.g0, h.b0, own_to h.o (fun j cs' fr q => hq j (fun e => ?_))⟩
  subst e
  rw [hc] at q; injection q with q; injection q with _ q _; exact absurd q (by decide)
theorem chunk_row {w W : World} {o : Obj} {gl g bm D : Nat} {cur : Array Value} {A : Option Addr} {c : Nat} {xs : List Int} {m : Js} (h : FX (w.alloc o) W gl g bm D cur A c xs m) : W.heap[w.heap.size]? = some o := (h.b.block _ (by simp)).trans (heap_alloc_new w o)
/-- a chunk of another text, or another number of chunks: refused -/
theorem refused {w W : World} {gl g bm D : Nat} {cur : Array Value} {A : Option Addr} {c : Nat} {xs : List Int} {m : Js} (i n x : Int) (b : ByteArray) (h : Hid (FX w W gl g bm D cur A c xs m)) (hx0 : 0 ≤ x) (hd : x ≠ (D : Int) ∨ (m.length ≠ 0 ∧ n ≠ m.length)) :
    Calls Try.prog 51 #[.pointer (some ⟨g, 0, none⟩), .agg #[.int .i64 i, .int .i64 n, .int .u64 x, .string b]] W fun e w' => ∃ E : Int, e = .returned (.int .i64 E) ∧ (E != 0) = true ∧ FX w w' gl g bm D cur A c xs m := by
  obtain ⟨d, rfl⟩ : ∃ d : Nat, x = (d : Int) := ⟨x.toNat, by omega⟩
  cases hr : right ⟨i, n, d, b⟩ with
  | false =>
    refine (take_form g i n d b (Lib.hid hr)).mono ?_
    rintro e w' ⟨rfl, hb⟩
    exact ⟨70, rfl, by decide, h.out.below hb⟩
  | true =>
    by_cases hdd : (d : Int) = (D : Int)
    · obtain rfl : d = D := by omega
      obtain ⟨q1, q2⟩ : m.length ≠ 0 ∧ n ≠ m.length := by
        rcases hd with q | q
        · exact absurd rfl q
        · exact q
      refine (take_num i n d b (Lib.hid h.out.j) (Lib.hid hr) (by simpa using q1) (by simpa using q2)).mono ?_
      rintro e w' ⟨rfl, hb⟩
      exact ⟨71, rfl, by decide, h.out.below hb⟩
    · refine (take_other i n d b (Lib.hid h.out.j) (Lib.hid hr) (by simpa using hdd)).mono ?_
      rintro e w' ⟨rfl, hb⟩
      exact ⟨71, rfl, by decide, h.out.below hb⟩
theorem miss_fx {w W : World} {gl g bm D n : Nat} {cur : Array Value} {A : Option Addr} {c : Nat} {xs : List Int} {m : Js} (h : Hid (FX w W gl g bm D cur A c xs m)) (hn : m.length = n) (hl : n ≤ 4096) (q : Nat) (hq : (missing m).length = q) :
    Calls Try.prog 55 #[.pointer (some ⟨g, 0, none⟩)] W fun e w' => ∃ A' c', e = .returned (.slice A' q c') ∧ (∃ base, w'.ownsRow base 3 1 (.slice A' (missing m).length c') (missing m).length (rowI (missing m))) ∧ FX w w' gl g bm D cur A c xs m := by
  subst hq
  refine (missing_any n (Lib.hid h.out.j) hn hl).mono ?_
  rintro e w' ⟨A', c', rfl, ho, hb⟩
  exact ⟨A', c', rfl, ⟨_, ho⟩, h.out.below hb⟩
theorem same_nums {w W : World} {gl g bm D : Nat} {cur : Array Value} {A A' : Option Addr} {c c' q : Nat} {xs : List Int} {m : Js} (h : Hid (FX w W gl g bm D cur A c xs m)) (h' : Hid (∃ base, W.ownsRow base 3 1 (.slice A' xs.length c') xs.length (rowI xs))) (hq : xs.length = q) (hz : q ≤ 5000) :
    Calls Try.prog 56 #[.slice A' q c', .slice A q c] W fun e w' => e = .returned (.bool true) ∧ Below W.heap.size W w' := by
  subst hq
  obtain ⟨_, h1⟩ := h.out.o
  obtain ⟨_, h2⟩ := h'.out
  exact L5.nums_is A' A xs xs c' c W.heap.size true W (Lib.hid (ReadsI.own h2)) (Lib.hid (ReadsI.own h1)) (Nat.le_refl _) (by unfold maxLen; omega) (Lib.hid (by simp))

theorem split_row {w w1 : World} {n c : Nat} {L : List Ck} (ho : w1.ownsRow w.heap.size 71 4 (.slice (some ⟨w.heap.size, 0, none⟩) n c) n (rowC L)) : ∃ cur, w1.heap[w.heap.size]? = some (.cells cur 71 (0, 0)) ∧ cur.toList.take (n * 4) = rowC L ∧ n ≤ c := by
  rcases ho.2 with ⟨q, _⟩ | ⟨g, cap, cur, q, _, hh, h1, _, _, h2⟩
  · cases q
  · injection q with q1 _ q3; injection q1 with q1; injection q1 with q1; subst q1; subst q3
    exact ⟨cur, hh, h2, h1⟩
theorem rowC_at : ∀ (l : List Ck) (j : Nat) (c : Ck), l[j]? = some c → (rowC l)[j * 4]? = some (.int .i64 c.i) ∧ (rowC l)[j * 4 + 1]? = some (.int .i64 c.n) ∧ (rowC l)[j * 4 + 2]? = some (.int .u64 c.d) ∧ (rowC l)[j * 4 + 3]? = some (.string c.b)
  | [], j, c, h => by simp at h
  | a :: l, 0, c, h => by simp at h; subst h; exact ⟨rfl, rfl, rfl, rfl⟩
  | a :: l, j + 1, c, h => by
    have := rowC_at l j c (by simpa using h)
    have e : (j + 1) * 4 = j * 4 + 4 := by omega
    rw [e]
    exact this

set_option maxRecDepth 100000 in
set_option maxHeartbeats 8000000 in
theorem walk (a0 : ByteArray) (w0 : a0.size ≤ maxLen) (i m x : Int) (b : ByteArray) (hx : (Lit.int .u64 x).wf = true) (zb : b.size ≤ maxLen) (w : World) :
    Calls Try.prog 13 #[.string a0, .agg #[.int .i64 i, .int .i64 m, .int .u64 x, .string b]] w fun e w' => e = .returned (.bool true) ∧ Below w.heap.size w w' := by
  unfold maxLen at w0 zb
  have hx0 : 0 ≤ x := by have := hx; simp [Lit.wf, IntKind.min, IntKind.max, IntKind.bits, IntKind.signed] at this; omega
  obtain ⟨s, h3⟩ : ∃ s, a0.extract 0 (min (a0.size : Int) 100).toNat = s := ⟨_, rfl⟩
  obtain ⟨b', h4⟩ : ∃ b', b.extract 0 (min (b.size : Int) 100).toNat = b' := ⟨_, rfl⟩
  have hs : s.size ≤ 100 := by rw [← h3, ByteArray.size_extract]; omega
  obtain ⟨s1, h5⟩ : ∃ s1, s ++ ⟨#[120]⟩ = s1 := ⟨_, rfl⟩
  have hs1 : s1.size = s.size + 1 := by rw [← h5, ByteArray.size_append]; rfl
  have hcat := fun W => run_string_add_sum (P := Try.prog) W s ⟨#[120]⟩ (by show s.size + 1 ≤ _; omega)
  rw [h5] at hcat
  obtain ⟨n, hn⟩ : ∃ n, nCh s1 7 = n := ⟨_, rfl⟩
  have n1 : 1 ≤ n := by rw [← hn]; exact nCh_pos s1 7
  have n2 : n ≤ 200 := by
    have h1 := (nCh_some (s := s1) (k := 7) (by decide) (by omega)).1
    rw [hn] at h1; omega
  have n3 : ((n : Int) == 0) = false := by simp; omega
  obtain ⟨d, hd⟩ : ∃ d, digest s1 = d := ⟨_, rfl⟩
  obtain ⟨b0, hb0⟩ : ∃ b0, bodyC s1 7 0 = b0 := ⟨_, rfl⟩
  have hat : (splitL s1 7)[0]? = some ⟨0, n, d, b0⟩ := by
    unfold splitL
    rw [hn, List.getElem?_map, List.getElem?_range (by omega)]
    show some (chunkC s1 7 0) = _
    unfold chunkC
    rw [hn, hd, hb0]; rfl
  have hr0 : right ⟨0, n, d, b0⟩ = true := by
    have := chunk_right (s := s1) (k := 7) (i := 0) (by decide) (by decide) (by omega) (by omega)
    unfold chunkC at this
    rw [hn, hd, hb0] at this
    exact this
  obtain ⟨m1, hm1⟩ : ∃ m1, (baseM [] (n : Int)).set (0 : Int).toNat (some b0) = m1 := ⟨_, rfl⟩
  have hm2 : m1.length = n := by
    rw [← hm1, List.length_set]
    have := base_len (m := []) (n := (n : Int)) (.inl rfl) (by omega)
    omega
  obtain ⟨q, hq⟩ : ∃ q, (missing m1).length = q := ⟨_, rfl⟩
  have hq2 : q ≤ 200 := by have := missing_len m1; omega
  have HD := Lib.hid hd
  have HN := Lib.hid hn
  have HM1 := Lib.hid hm1
  have HM2 := Lib.hid hm2
  have HQ := Lib.hid hq
  have HAT := Lib.hid hat
  have HR0 := Lib.hid hr0
  clear hn hd hb0 hat hr0 hm1 hm2 hq h5
  go_enter Try.func13, Try.ntmps13
  go_upto_region 9 with (first
    | (go_at_call 55; refine (miss_fx F4 HM2.out (by omega) q HQ.out).mono ?_; rintro e w5 ⟨A5, c5, rfl, ho5, hf5⟩; have F5 := Lib.hid (hf5.told ho5); have HC5 := Lib.hid (chunk_row hf5); obtain ⟨p0, p1, p2, p3, f0, f1, f2, f3⟩ := row_facts HC5.out; have hl5 := (Array.getElem?_eq_some_iff.1 HC5.out).1; clear hf5)
    | (go_at_call 51; refine (take_new 0 n d b0 (Lib.hid F3.out.j) HR0 rfl (.inl rfl)).mono ?_; rintro e w4 ⟨rfl, hj4, hl4⟩; rw [HM1.out] at hj4; have F4 := Lib.hid (F3.out.lets hj4 hl4); clear hj4 hl4)
    | (go_at_call 50; have _q := hb2; refine (new_any d _).mono ?_; rintro e w3 ⟨g, bm, rfl, hj3, hg3, hm3, hb3⟩; have F3 := Lib.hid (fx_first hl1 hb1 hb2 hb3 hj3 hg3 hm3); have l0 := F3.out.cells (n * 4) HT.out 0 _ (rowC_at _ 0 _ HAT.out).1; have l1 := F3.out.cells (n * 4) HT.out 1 _ (rowC_at _ 0 _ HAT.out).2.1; have l2 := F3.out.cells (n * 4) HT.out 2 _ (rowC_at _ 0 _ HAT.out).2.2.1; have l3 := F3.out.cells (n * 4) HT.out 3 _ (rowC_at _ 0 _ HAT.out).2.2.2; simp only [World.size_alloc] at l0 l1 l2 l3)
    | (go_at_call 40; have _q := hl1; refine (digest_is s1 d _ (by omega) HD).mono ?_; rintro e w2 ⟨rfl, hb2⟩)
    | (go_at_call 43; refine (split_ok s1 7 n _ (by omega) (by decide) (by decide) HN.out (by omega)).mono ?_; rintro e w1 ⟨c, rfl, ho, hb1⟩; obtain ⟨cur, hl1, ht1, hcc⟩ := split_row ho; have HT := Lib.hid ht1; clear ho ht1))
  obtain ⟨hR5, ne1, ne2, ne3⟩ := fx_rebase F5.out
  have hC5 := HC5.out
  have lc2 := hR5.cells (n * 4) HT.out 2 _ (rowC_at _ 0 _ HAT.out).2.2.1
  obtain ⟨W6, hW6⟩ : ∃ W6, w5.setCell ⟨w.heap.size, 3, none⟩ (.string b') = W6 := ⟨_, rfl⟩
  have hC6 : W6.heap[w.heap.size]? = some (.cells #[.int .i64 i, .int .i64 m, .int .u64 x, .string b'] 71 (0, 0)) := by rw [← hW6]; exact heap_setCell_same w5 w.heap.size 3 _ _ (.string b') hC5
  have F6 := fx_set hR5 (Nat.le_refl _) ne1 ne2 ne3 hC5 3 (.string b')
  rw [hW6] at F6
  rw [hW6]
  have l6 := F6.cells (n * 4) HT.out 2 _ (rowC_at _ 0 _ HAT.out).2.2.1
  simp only [World.size_alloc] at l6
  obtain ⟨r0, r1, r2, r3, g0, g1, g2, g3⟩ := row_facts hC6
  have HF6 := Lib.hid F6
  have HC6 := Lib.hid hC6
  have HNE := Lib.hid (And.intro ne1 (And.intro ne2 ne3))
  have hlw : w.heap.size < W6.heap.size := (Array.getElem?_eq_some_iff.1 hC6).1
  clear hW6 hR5 ne1 ne2 ne3 hC5 lc2 F6 hC6 l0 l1 l2 l3 p0 p1 p2 p3 f0 f1 f2 f3 hl5 h3 h4 hcat hl1 hb1 hb2 hb3 hj3 hg3 hm3
  by_cases hxd : x = (d : Int)
  · subst hxd
    have F7 := fx_set HF6.out (Nat.le_refl _) HNE.out.1 HNE.out.2.1 HNE.out.2.2 HC6.out 1 (.int .i64 ((n : Int) + 1))
    have FT := Lib.hid (F7.below (Below.refl _ _).drew)
    have HDN : (d : Int) ≠ (d : Int) ∨ (m1.length ≠ 0 ∧ ((n : Int) + 1) ≠ m1.length) := .inr ⟨by have := HM2.out; omega, by have := HM2.out; omega⟩
    clear F7
    go_region
    go_wp2_with (first
      | (go_at_call 42; have _q := F10; refine (fixed7_any _).mono ?_; rintro e w11 ⟨rfl, hb11⟩)
      | (go_at_call 56; refine (same_nums F9 O9 HQ.out (by omega)).mono ?_; rintro e w10 ⟨rfl, hb10⟩; have F10 := Lib.hid (F9.out.below hb10))
      | (go_at_call 55; have _q := F8; refine (miss_fx F8 HM2.out (by omega) q HQ.out).mono ?_; rintro e w9 ⟨A9, c9, rfl, ho9, hf9⟩; have F9 := Lib.hid hf9; have O9 := Lib.hid ho9; clear hf9 ho9)
      | (go_at_call 51; refine (refused i ((n : Int) + 1) (d : Int) b' FT hx0 HDN).mono ?_; rintro e w8 ⟨E, rfl, hE, hf8⟩; have F8 := Lib.hid hf8; clear hf8))
    go_ret
    exact ⟨rfl, F10.out.b.trans (hb11.mono F10.out.b.size)⟩
  · have hxe : (x == (d : Int)) = false := by simpa using hxd
    have FT := Lib.hid (HF6.out.below (Below.refl _ _).drew)
    have HDN : x ≠ (d : Int) ∨ (m1.length ≠ 0 ∧ m ≠ m1.length) := .inl hxd
    go_region
    go_wp2_with (first
      | (go_at_call 42; have _q := F10; refine (fixed7_any _).mono ?_; rintro e w11 ⟨rfl, hb11⟩)
      | (go_at_call 56; refine (same_nums F9 O9 HQ.out (by omega)).mono ?_; rintro e w10 ⟨rfl, hb10⟩; have F10 := Lib.hid (F9.out.below hb10))
      | (go_at_call 55; have _q := F8; refine (miss_fx F8 HM2.out (by omega) q HQ.out).mono ?_; rintro e w9 ⟨A9, c9, rfl, ho9, hf9⟩; have F9 := Lib.hid hf9; have O9 := Lib.hid ho9; clear hf9 ho9)
      | (go_at_call 51; refine (refused i m x b' FT hx0 HDN).mono ?_; rintro e w8 ⟨E, rfl, hE, hf8⟩; have F8 := Lib.hid hf8; clear hf8))
    go_ret
    exact ⟨rfl, F10.out.b.trans (hb11.mono F10.out.b.size)⟩

set_option maxRecDepth 100000 in
theorem lifted (os : Os) (started : os.Started) (H : Type) (enc : TypeId × Value → H) :
    ReturnsInHanded {} Try.checked os 13 .any (Rows.chunksApartSpec.pre6 enc Try.prog Try.f13 Rows.chunksApartRow.domain false) (Rows.chunksApartSpec.post enc Try.prog Try.f13 false true false false) := by
  refine returnsInHanded_of_change (C := Try.checked) own started (by kernel_rfl) Try.func13
    (ChangeSpec.witness6 (enc := enc) (C := Try.checked) false ⟨#[], #[.string ByteArray.empty, .agg #[.int .i64 0, .int .i64 0, .int .u64 0, .string ByteArray.empty]], []⟩ 8 (by kernel_rfl) (by kernel_rfl) (by kernel_rfl) (by kernel_rfl)) ?_
  intro W base args ds gs before hval0 hW _ _
  have hval : ∀ (j : Nat) t v, Try.f13.params[j]? = some t → args[j]? = some v → Value.okWide Try.prog W .any base t v := hval0
  have hW' := hW
  obtain ⟨p, q, hA0, hV, rfl, hfz, hnd⟩ := hW
  have hA : DataW.TrodAll enc Try.prog W 0 (fun _ => true) true Try.f13.params.toList args.toList ds p := hA0
  rw [Try.params13] at hA hval
  obtain ⟨v0, vs0, d0, ds0, p0, q0, hargs, rfl, rfl, h0, r0⟩ := trodAll_cons hA
  obtain ⟨v1, vs1, d1, ds1, p1, q1, rfl, rfl, rfl, h1, r1⟩ := trodAll_cons r0
  obtain ⟨rfl, rfl, rfl⟩ := trodAll_nil r1
  obtain rfl : args = #[v0, v1] := by cases args; simp_all
  obtain ⟨rfl, rfl⟩ := trodVars_none hV
  have k0 := h0
  have lt0 : ∀ x ∈ p0, x.block < W.heap.size := by obtain ⟨m, hm⟩ := k0; exact DataW.trod_lt m _ _ _ hm
  have k1 := h1
  have lt1 : ∀ x ∈ p1, x.block < W.heap.size := by obtain ⟨m, hm⟩ := k1; exact DataW.trod_lt m _ _ _ hm
  obtain ⟨a0, e0, _, _, w0⟩ := open_string Try.underlying9 (hval 0 9 v0 rfl rfl) h0
  subst e0
  obtain ⟨i, m, x, b, e1, hx, zb⟩ := open_ck (hval 1 71 v1 rfl rfl) h1
  subst e1
  clear hA0 hval0
  refine (walk a0 w0 i m x b hx zb W).mono fun e W' ⟨he, bel⟩ => ?_
  subst he
  exact ⟨_, rfl, _, _, _, [], _, [], hW', trodAll_mk1 (shut_bool Try.underlying4 _), (trodAll_cons_mk (Below.trod laidOut (by kernel_rfl) (of_decide_eq_true (by kernel_rfl)) k0 bel lt0) (trodAll_cons_mk (Below.trod laidOut (by kernel_rfl) (of_decide_eq_true (by kernel_rfl)) k1 bel lt1) trodAll_mk0)), rfl, bel.frame _, fun h => by cases h⟩

theorem over : Rows.chunksApartRow.holds Try.pinned (OpenSpec.ofChange Rows.chunksApartSpec) :=
  OpenClaim.holds_of_wide 13 Try.f13 rfl rfl rfl rfl rfl rfl rfl ⟨rfl, rfl, rfl, rfl, rfl⟩ rfl rfl rfl rfl rfl (by kernel_rfl) Try.func13 (by kernel_rfl)
    (of_decide_eq_true (by kernel_rfl)) (by unfold Func.isWrapper; first | (rw [if_pos (by decide +kernel)]; kernel_rfl) | (rw [if_neg (by decide +kernel)]; exact ⟨rfl, rfl⟩))
    (fun os started H enc _ => lifted os started H enc)

/-- the statement -/
theorem proved : Rows.ChunksApartSaid :=
  over
#print axioms proved
end Go.Proofs.Ytlemcijgjebekaa.chunksApart
