/-
  Plain facts on the calls whose answers the document fixes.
-/
import Derived.Test.YtlemcijgjebekaaMChFound
import Derived.Test.YtlemcijgjebekaaChSplit
import Derived.Test.YtlemcijgjebekaaChTake
import Derived.Test.YtlemcijgjebekaaChMiss
import Derived.Deep.DeepCutAuto
namespace Go.Proofs.Ytlemcijgjebekaa.L7
open Go.RowKit
open L3 L4 L5

def s5 : ByteArray := ⟨#[97, 98, 99, 100, 101]⟩
theorem put_small {n : Nat} (h : n < 128) : V.put n = ⟨#[UInt8.ofNat n]⟩ := by unfold V.put; rw [V.puts_small h]; rfl
theorem split_s5 (D : Nat) (h : digest s5 = D) : splitL s5 2 = [⟨0, 3, D, ⟨#[97, 98]⟩⟩, ⟨1, 3, D, ⟨#[99, 100]⟩⟩, ⟨2, 3, D, ⟨#[101]⟩⟩] := by
  unfold splitL chunkC
  rw [h]
  rfl
theorem digest_s5 : digest s5 = 9621897057276740326 := by kernel_rfl
theorem take_a : (baseM [] 3).set 2 (some ⟨#[101]⟩) = [none, none, some ⟨#[101]⟩] := rfl
theorem three_591 : three 5 9 1 = ⟨#[5, 9, 1]⟩ := by unfold three; rw [put_small (by decide), put_small (by decide), put_small (by decide)]; rfl
theorem three_540 : three 5 4 0 = ⟨#[5, 4, 0]⟩ := by unfold three; rw [put_small (by decide), put_small (by decide), put_small (by decide)]; rfl
def uS : ByteArray := ⟨#[5, 9, 1, 2, 0, 0]⟩
def fS : List L4.Fd := [⟨7, R.zero⟩]
theorem zero_put : R.zero.put = ⟨#[0, 0]⟩ := by
  have h : chk false ⟨#[]⟩ false ⟨#[]⟩ = 0 := by decide
  show putT false ⟨#[]⟩ false ⟨#[]⟩ = _
  unfold putT
  rw [if_pos h]
  show ((⟨#[0]⟩ : ByteArray) ++ txt ⟨#[]⟩) = _
  unfold txt
  rw [show (⟨#[]⟩ : ByteArray).size = 0 from rfl, put_small (by decide)]
  rfl
theorem text_uS : textS (5 : Nat) (9 : Nat) fS = uS := by
  unfold textS
  show three 5 9 1 ++ (V.put 2 ++ R.zero.put ++ ⟨#[]⟩) = uS
  rw [three_591, zero_put, put_small (by decide)]
  rfl
theorem get3_uS : get3 uS = ((5, 9, 1), 3, true) := by
  have h := get3_at (s := uS) (r := [2, 0, 0]) (a := 5) (b := 9) (c := 1) (by decide) (by decide) (by decide) (by rw [three_591]; rfl)
  rw [h, three_591]; rfl
theorem get3_bad : get3 ⟨#[5, 4, 0]⟩ = ((5, 4, 0), 3, true) := by
  have h := get3_at (s := ⟨#[5, 4, 0]⟩) (r := []) (a := 5) (b := 4) (c := 0) (by decide) (by decide) (by decide) (by rw [three_540]; rfl)
  rw [h, three_540]; rfl
theorem read_uS : readF uS 3 (wrap64 ((5 : Nat) : Int)) 1 = some (fS, 6, 8) := by
  have h1 : V.get uS 3 = (2, 4, 0) := by
    have := V.get_at (s := uS) (l := [5, 9, 1]) (r := [0, 0]) (n := 2) (by decide) (by rw [V.puts_small (by decide)]; rfl)
    rw [V.puts_small (by decide)] at this
    exact this
  have h2 : getR uS 4 = (R.zero, 6, 0) := by
    have := getR_put (s := uS) (r := R.zero) (by decide) (l := [5, 9, 1, 2]) (b := []) (by rw [zero_put]; rfl)
    rw [zero_put] at this
    exact this
  show (match oneF uS 3 (wrap64 ((5 : Nat) : Int)) with | none => none | some (f, t9) => some ([] ++ [f], t9, wrap64 (f.o + 1))) = _
  unfold oneF
  rw [h1]
  dsimp only
  rw [if_neg (by decide), h2]
  dsimp only
  rw [if_neg (by decide)]
  have e1 : wrap64 (wrap64 ((5 : Nat) : Int) + wrap64 ((2 : Nat) : Int)) = 7 := by unfold wrap64; omega
  have e2 : wrap64 ((7 : Int) + 1) = 8 := by unfold wrap64; omega
  dsimp only
  rw [e1, e2]
  rfl
theorem load_uS : loadE 5 9 fS = 0 := by decide
theorem load_bad540 : loadE 5 4 [] = 1 := by decide

theorem w5 : wrap64 ((5 : Nat) : Int) = 5 := by unfold wrap64; omega
theorem w9 : wrap64 ((9 : Nat) : Int) = 9 := by unfold wrap64; omega
theorem w4 : wrap64 ((4 : Nat) : Int) = 4 := by unfold wrap64; omega
theorem parse_u (w : World) : Calls Try.prog 38 #[.string ⟨#[5, 9, 1, 2, 0, 0]⟩] w fun e w' => ∃ A c, e = .returned (.tuple #[.agg #[.int .i64 5, .int .i64 9, .slice A 1 c], .int .i64 0]) ∧ Below w.heap.size w w' := by
  refine (parse_run uS w (by decide) 5 9 1 3 (Lib.hid get3_uS) (by decide) fS 6 8 (Lib.hid read_uS) rfl 0 (Lib.hid (by rw [w5, w9]; exact load_uS))).mono ?_
  rintro e w' (⟨_, A, c, rfl, _, hb⟩ | ⟨h, _⟩)
  · rw [w5, w9]; exact ⟨A, c, rfl, hb⟩
  · exact absurd rfl h
theorem parse_bad (w : World) : Calls Try.prog 38 #[.string ⟨#[5, 4, 0]⟩] w fun e w' => e = .returned (.tuple #[.agg #[.int .i64 0, .int .i64 0, .slice none 0 0], .int .i64 70]) ∧ Below w.heap.size w w' := by
  refine (parse_run ⟨#[5, 4, 0]⟩ w (by decide) 5 4 0 3 (Lib.hid get3_bad) (by decide) [] 3 _ (Lib.hid rfl) rfl 1 (Lib.hid (by rw [w5, w4]; exact load_bad540))).mono ?_
  rintro e w' (⟨h, _⟩ | ⟨_, rfl, hb⟩)
  · exact absurd h (by decide)
  · exact ⟨rfl, hb⟩
/-- what lies below while the calls go on: a row of three chunks, a joiner, numbers that were told -/
structure FX (w W : World) (gl g bm D : Nat) (cur : Array Value) (A : Option Addr) (c : Nat) (xs : List Int) (m : Js) : Prop where
  l : W.heap[gl]? = some (.cells cur 71 (0, 0))
  j : Jn W g bm D m
  b : Below w.heap.size w W
  h0 : w.heap.size ≤ gl
  hg : gl ≠ g
  hb : gl ≠ bm
  g0 : w.heap.size ≤ g
  b0 : w.heap.size ≤ bm
  o : ∃ base, W.ownsRow base 3 1 (.slice A xs.length c) xs.length (rowI xs)
theorem own_to {W W' : World} {A : Option Addr} {c : Nat} {xs : List Int} (h : ∃ base, W.ownsRow base 3 1 (.slice A xs.length c) xs.length (rowI xs)) (hk : ∀ (k : Nat) (cs : Array Value) (fr : Nat × Nat), W.heap[k]? = some (.cells cs 3 fr) → W'.heap[k]? = W.heap[k]?) : ∃ base, W'.ownsRow base 3 1 (.slice A xs.length c) xs.length (rowI xs) := by
  obtain ⟨base, h1, h2⟩ := h
  refine ⟨base, h1, ?_⟩
  rcases h2 with e | ⟨g, cap, cur, e, q1, hh, q2⟩
  · exact .inl e
  · exact .inr ⟨g, cap, cur, e, q1, (hk g _ _ hh).trans hh, q2⟩
section
variable {w W W' : World} {gl g bm D : Nat} {cur : Array Value} {A : Option Addr} {c : Nat} {xs : List Int} {m m' : Js}
theorem FX.below (h : FX w W gl g bm D cur A c xs m) (k : Below W.heap.size W W') : FX w W' gl g bm D cur A c xs m :=
  ⟨(k.block _ (Array.getElem?_eq_some_iff.1 h.l).1).trans h.l, h.j.below k, h.b.trans (k.mono h.b.size), h.h0, h.hg, h.hb, h.g0, h.b0, own_to h.o (fun _ _ _ q => k.block _ (Array.getElem?_eq_some_iff.1 q).1)⟩
theorem FX.lets (h : FX w W gl g bm D cur A c xs m) (j : Jn W' g bm D m') (k : Lets [g, bm] W W') : FX w W' gl g bm D cur A c xs m' :=
  ⟨(k.block _ (Array.getElem?_eq_some_iff.1 h.l).1 (by simp [h.hg, h.hb])).trans h.l, j, h.b.trans (k.below h.b.size (by simp [h.g0, h.b0])), h.h0, h.hg, h.hb, h.g0, h.b0, own_to h.o (fun n cs fr q => k.block _ (Array.getElem?_eq_some_iff.1 q).1 (fun hm => by
    obtain ⟨es, ck, hmap⟩ := h.j.has.map
    have hrow := h.j.row
    rcases List.mem_cons.1 hm with rfl | hm
    · rw [q] at hrow; injection hrow with e; injection e with _ e _; exact absurd e (by decide)
    · rw [List.mem_singleton.1 hm, hmap] at q; cases q))⟩
theorem FX.told (h : FX w W gl g bm D cur A c xs m) {A' : Option Addr} {c' : Nat} {ys : List Int} (o : ∃ base, W.ownsRow base 3 1 (.slice A' ys.length c') ys.length (rowI ys)) : FX w W gl g bm D cur A' c' ys m :=
  ⟨h.l, h.j, h.b, h.h0, h.hg, h.hb, h.g0, h.b0, o⟩
end
theorem FX.cells {w W : World} {gl g bm D : Nat} {cur : Array Value} {A : Option Addr} {c : Nat} {xs : List Int} {m : Js} {L : List Ck} (h : FX w W gl g bm D cur A c xs m) (n : Nat) (ht : cur.toList.take n = rowC L) (j : Nat) (v : Value) (hv : (rowC L)[j]? = some v) : W.cell? ⟨gl, j, none⟩ = some v := by
  refine (cell_of_row _ _ j _ _ _ h.l).trans ?_
  rw [← ht] at hv
  have hj : j < n := by
    have := (List.getElem?_eq_some_iff.1 hv).1
    rw [List.length_take] at this; omega
  rw [List.getElem?_take_of_lt hj] at hv
  rw [← Array.getElem?_toList]; exact hv
def c0 (D : Nat) : Ck := ⟨0, 3, D, ⟨#[97, 98]⟩⟩
def c1 (D : Nat) : Ck := ⟨1, 3, D, ⟨#[99, 100]⟩⟩
def c2 (D : Nat) : Ck := ⟨2, 3, D, ⟨#[101]⟩⟩
theorem FX.twelve {w W : World} {gl g bm D : Nat} {cur : Array Value} {A : Option Addr} {c : Nat} {xs : List Int} {m : Js} (h : FX w W gl g bm D cur A c xs m) (ht : cur.toList.take 12 = rowC [c0 D, c1 D, c2 D]) :
    (W.cell? ⟨gl, 0, none⟩ = some (.int .i64 0) ∧ W.cell? ⟨gl, 1, none⟩ = some (.int .i64 3) ∧ W.cell? ⟨gl, 2, none⟩ = some (.int .u64 D) ∧ W.cell? ⟨gl, 3, none⟩ = some (.string ⟨#[97, 98]⟩)) ∧
    (W.cell? ⟨gl, 4, none⟩ = some (.int .i64 1) ∧ W.cell? ⟨gl, 5, none⟩ = some (.int .i64 3) ∧ W.cell? ⟨gl, 6, none⟩ = some (.int .u64 D) ∧ W.cell? ⟨gl, 7, none⟩ = some (.string ⟨#[99, 100]⟩)) ∧
    (W.cell? ⟨gl, 8, none⟩ = some (.int .i64 2) ∧ W.cell? ⟨gl, 9, none⟩ = some (.int .i64 3) ∧ W.cell? ⟨gl, 10, none⟩ = some (.int .u64 D) ∧ W.cell? ⟨gl, 11, none⟩ = some (.string ⟨#[101]⟩)) :=
  ⟨⟨h.cells 12 ht 0 _ rfl, h.cells 12 ht 1 _ rfl, h.cells 12 ht 2 _ rfl, h.cells 12 ht 3 _ rfl⟩, ⟨h.cells 12 ht 4 _ rfl, h.cells 12 ht 5 _ rfl, h.cells 12 ht 6 _ rfl, h.cells 12 ht 7 _ rfl⟩, ⟨h.cells 12 ht 8 _ rfl, h.cells 12 ht 9 _ rfl, h.cells 12 ht 10 _ rfl, h.cells 12 ht 11 _ rfl⟩⟩
end Go.Proofs.Ytlemcijgjebekaa.L7
/-
  The calls on chunks whose answers the document fixes.
-/
namespace Go.Proofs.Ytlemcijgjebekaa.L7
open Go.RowKit
open L3 L4 L5

def m1 : Js := [none, none, some ⟨#[101]⟩]
def m2 : Js := [some ⟨#[97, 98]⟩, none, some ⟨#[101]⟩]
def m3 : Js := [some ⟨#[97, 98]⟩, some ⟨#[99, 100]⟩, some ⟨#[101]⟩]
section
variable {w W : World} {gl g bm D : Nat} {cur : Array Value} {A : Option Addr} {c : Nat} {xs : List Int} {m : Js}
theorem fx_take (i n : Int) (b : ByteArray) (m' : Js) (h : Hid (FX w W gl g bm D cur A c xs m)) (hr : right ⟨i, n, D, b⟩ = true) (hv : valM m i = none) (hz : m = [] ∨ n = m.length) (hm : (baseM m n).set i.toNat (some b) = m') :
    Calls Try.prog 51 #[.pointer (some ⟨g, 0, none⟩), .agg #[.int .i64 i, .int .i64 n, .int .u64 D, .string b]] W fun e w' => e = .returned (.int .i64 0) ∧ FX w w' gl g bm D cur A c xs m' := by
  refine (take_new i n D b (Lib.hid h.out.j) (Lib.hid hr) hv hz).mono ?_
  rintro e w' ⟨rfl, hj, hl⟩
  rw [hm] at hj
  exact ⟨rfl, h.out.lets hj hl⟩
theorem fx_other (e1 : Int) (i n : Int) (b : ByteArray) (h : Hid (FX w W gl g bm D cur A c xs m)) (hr : right ⟨i, n, D + 1, b⟩ = true) (he : (D : Int) + 1 = e1) :
    Calls Try.prog 51 #[.pointer (some ⟨g, 0, none⟩), .agg #[.int .i64 i, .int .i64 n, .int .u64 e1, .string b]] W fun e w' => e = .returned (.int .i64 71) ∧ FX w w' gl g bm D cur A c xs m := by
  have e2 : e1 = ((D + 1 : Nat) : Int) := by omega
  subst e2
  refine (take_other i n (D + 1) b (Lib.hid h.out.j) (Lib.hid hr) (by simp; omega)).mono ?_
  rintro e w' ⟨rfl, hb⟩
  exact ⟨rfl, h.out.below hb⟩
theorem fx_form (h : Hid (FX w W gl g bm D cur A c xs m)) :
    Calls Try.prog 51 #[.pointer (some ⟨g, 0, none⟩), .agg #[.int .i64 0, .int .i64 2, .int .u64 0, .string ⟨#[]⟩]] W fun e w' => e = .returned (.int .i64 70) ∧ FX w w' gl g bm D cur A c xs m := by
  refine (take_form g 0 2 0 ⟨#[]⟩ (Lib.hid (by decide))).mono ?_
  rintro e w' ⟨rfl, hb⟩
  exact ⟨rfl, h.out.below hb⟩
theorem fx_miss (h : Hid (FX w W gl g bm D cur A c xs m2)) :
    Calls Try.prog 55 #[.pointer (some ⟨g, 0, none⟩)] W fun e w' => ∃ A' c', e = .returned (.slice A' 1 c') ∧ FX w w' gl g bm D cur A' c' [1] m2 := by
  refine (missing_any 3 (Lib.hid h.out.j) rfl (by decide)).mono ?_
  rintro e w' ⟨A, c, rfl, ho, hb⟩
  exact ⟨A, c, rfl, (h.out.below hb).told ⟨_, ho⟩⟩
theorem fx_no (h : Hid (FX w W gl g bm D cur A c xs m2)) :
    Calls Try.prog 54 #[.pointer (some ⟨g, 0, none⟩)] W fun e w' => e = .returned (.tuple #[.string ⟨#[]⟩, .bool false]) ∧ FX w w' gl g bm D cur A c xs m2 := by
  refine (whole_no (Lib.hid h.out.j) (.inr (by decide))).mono ?_
  rintro e w' ⟨rfl, hb⟩
  exact ⟨rfl, h.out.below hb⟩
theorem fx_yes (h : Hid (FX w W gl g bm D cur A c xs m3)) (hD : Hid (digest s5 = D)) :
    Calls Try.prog 54 #[.pointer (some ⟨g, 0, none⟩)] W fun e w' => e = .returned (.tuple #[.string ⟨#[97, 98, 99, 100, 101]⟩, .bool true]) ∧ FX w w' gl g bm D cur A c xs m3 := by
  refine (whole_all 3 D s5 (Lib.hid h.out.j) (by simp [m3]) rfl (by decide) (by decide) (Lib.hid rfl) (by decide) hD).mono ?_
  rintro e w' (⟨_, rfl, hb⟩ | ⟨h2, _⟩)
  · exact ⟨rfl, h.out.below hb⟩
  · exact absurd rfl h2
end
theorem split_f (D : Nat) (w : World) (hD : Hid (digest s5 = D)) :
    Calls Try.prog 43 #[.string ⟨#[97, 98, 99, 100, 101]⟩, .int .i64 2] w fun e w' => ∃ c cur, e = .returned (.tuple #[.slice (some ⟨w.heap.size, 0, none⟩) 3 c, .int .i64 0]) ∧ w'.heap[w.heap.size]? = some (.cells cur 71 (0, 0)) ∧ cur.toList.take 12 = rowC [c0 D, c1 D, c2 D] ∧ 3 ≤ c ∧ Below w.heap.size w w' := by
  refine (split_ok s5 2 3 w (by decide) (by decide) (by decide) (by decide) (by decide)).mono ?_
  rintro e w' ⟨c, rfl, ho, hb⟩
  rcases ho.2 with ⟨q, _⟩ | ⟨k, cap, cur, q, _, hh, h1, _, _, h2⟩
  · cases q
  · injection q with q1 _ q3; injection q1 with q1; injection q1 with q1; subst q1; subst q3
    refine ⟨c, cur, rfl, hh, ?_, h1, hb⟩
    rw [split_s5 D hD.out] at h2
    exact h2
theorem split_z (w : World) : Calls Try.prog 43 #[.string ⟨#[97]⟩, .int .i64 0] w fun e w' => e = .returned (.tuple #[.slice none 0 0, .int .i64 1]) ∧ w = w' := split_arg ⟨#[97]⟩ 0 w (.inl (by decide))
theorem digest_f (D : Nat) (w : World) (hD : Hid (digest s5 = D)) : Calls Try.prog 40 #[.string ⟨#[97, 98, 99, 100, 101]⟩] w fun e w' => e = .returned (.int .u64 D) ∧ Below w.heap.size w w' := digest_is s5 D w (by decide) hD
theorem put_f (D : Nat) (t : ByteArray) (w : World) (hD : D < 18446744073709551616) (ht : Hid (putC (c0 D) = t)) : Calls Try.prog 45 #[.agg #[.int .i64 0, .int .i64 3, .int .u64 D, .string ⟨#[97, 98]⟩]] w fun e w' => e = .returned (.tuple #[.string t, .int .i64 0]) ∧ Below w.heap.size w w' :=
  cput_ok 0 3 D ⟨#[97, 98]⟩ t w (Lib.hid rfl) hD ht
theorem get_f (D : Nat) (t : ByteArray) (w : World) (hD : D < 18446744073709551616) (ht : Hid (putC (c0 D) = t)) : Calls Try.prog 47 #[.string t] w fun e w' => e = .returned (.tuple #[.agg #[.int .i64 0, .int .i64 3, .int .u64 D, .string ⟨#[97, 98]⟩], .int .i64 0]) ∧ Below w.heap.size w w' := by
  have hr : right (c0 D) = true := rfl
  have hz := putC_size hr hD
  rw [ht.out] at hz
  exact cget_is t w (by omega) (c0 D) 0 (Lib.hid (ht.out ▸ GetU.put hr hD))
theorem text_f (w : World) (k : Nat) (hk : k = w.heap.size) : Calls Try.prog 36 #[.agg #[.int .i64 5, .int .i64 9, .slice (some ⟨k, 0, none⟩) 1 1]] (w.alloc (.cells #[.int .i64 7, .bool false, .string ⟨#[]⟩, .bool false, .string ⟨#[]⟩] 43)) fun e w' => e = .returned (.tuple #[.string ⟨#[5, 9, 1, 2, 0, 0]⟩, .int .i64 0]) ∧ Below w.heap.size w w' := by
  subst hk
  have hr := row5_facts (heap_alloc_new w (.cells #[.int .i64 7, .bool false, .string ⟨#[]⟩, .bool false, .string ⟨#[]⟩] 43))
  refine (text_ok 5 9 (some ⟨w.heap.size, 0, none⟩) fS 1 1 (w.heap.size + 1) uS _ (Lib.hid (fun _ => ⟨w.heap.size, rfl, by omega, fun i f hi => ?_⟩)) (by simp) rfl (Lib.hid load_uS) (Lib.hid text_uS)).mono ?_
  · have hi0 : i = 0 := by
      have := (List.getElem?_eq_some_iff.1 hi).1
      simp [fS] at this; omega
    subst hi0
    have : f = ⟨7, R.zero⟩ := by simpa [fS] using hi.symm
    subst this
    exact ⟨hr.1, hr.2.1, hr.2.2.1, hr.2.2.2.1, hr.2.2.2.2.1⟩
  · rintro e w' ⟨rfl, hb⟩
    exact ⟨rfl, (one_box _).trans (hb.mono (by simp))⟩
theorem nums_f (w W : World) (gl g bm D : Nat) (cur : Array Value) (A : Option Addr) (c : Nat) (m : Js) (k : Nat) (h : Hid (FX w W gl g bm D cur A c [1] m)) (hk : k = W.heap.size) :
    Calls Try.prog 56 #[.slice A 1 c, .slice (some ⟨k, 0, none⟩) 1 1] (W.alloc (.cells #[.int .i64 1] 3)) fun e w' => e = .returned (.bool true) ∧ Below W.heap.size W w' := by
  subst hk
  obtain ⟨base, ho⟩ := h.out.o
  have hb := one_box (w := W) (.cells #[.int .i64 1] 3)
  have hr1 : ReadsI W W.heap.size A [1] := ReadsI.own ho
  have hr2 : ReadsI (W.alloc (.cells #[.int .i64 1] 3)) (W.heap.size + 1) (some ⟨W.heap.size, 0, none⟩) [1] := fun _ => ⟨W.heap.size, 0, rfl, by omega, fun i x hi => by
    have hi0 : i = 0 := by
      have := (List.getElem?_eq_some_iff.1 hi).1
      simp at this; omega
    subst hi0
    have : x = 1 := by simpa using hi.symm
    subst this
    exact (cell_of_row _ _ 0 _ _ _ (heap_alloc_new W _)).trans rfl⟩
  refine (L5.nums_is A (some ⟨W.heap.size, 0, none⟩) [1] [1] c 1 (W.heap.size + 1) true _ (Lib.hid ((hr1.below hb).mono (by omega))) (Lib.hid hr2) (by simp) (by decide) (Lib.hid (by simp))).mono ?_
  · rintro e w' ⟨rfl, hb2⟩
    exact ⟨rfl, hb.trans (hb2.mono (by simp))⟩
end Go.Proofs.Ytlemcijgjebekaa.L7
/-
  The calls on chunks whose answers the document fixes, one behind the other.
-/
namespace Go.Proofs.Ytlemcijgjebekaa.L7
open Go.RowKit
open L3 L4 L5

theorem row_twelve {W : World} {gl D : Nat} {cur : Array Value} (h : W.heap[gl]? = some (.cells cur 71 (0, 0))) (ht : cur.toList.take 12 = rowC [c0 D, c1 D, c2 D]) :
    (W.cell? ⟨gl, 0, none⟩ = some (.int .i64 0) ∧ W.cell? ⟨gl, 1, none⟩ = some (.int .i64 3) ∧ W.cell? ⟨gl, 2, none⟩ = some (.int .u64 D) ∧ W.cell? ⟨gl, 3, none⟩ = some (.string ⟨#[97, 98]⟩)) ∧
    (W.cell? ⟨gl, 4, none⟩ = some (.int .i64 1) ∧ W.cell? ⟨gl, 5, none⟩ = some (.int .i64 3) ∧ W.cell? ⟨gl, 6, none⟩ = some (.int .u64 D) ∧ W.cell? ⟨gl, 7, none⟩ = some (.string ⟨#[99, 100]⟩)) ∧
    (W.cell? ⟨gl, 8, none⟩ = some (.int .i64 2) ∧ W.cell? ⟨gl, 9, none⟩ = some (.int .i64 3) ∧ W.cell? ⟨gl, 10, none⟩ = some (.int .u64 D) ∧ W.cell? ⟨gl, 11, none⟩ = some (.string ⟨#[101]⟩)) := by
  have key : ∀ j v, (rowC [c0 D, c1 D, c2 D])[j]? = some v → W.cell? ⟨gl, j, none⟩ = some v := fun j v hv => by
    refine (cell_of_row _ _ j _ _ _ h).trans ?_
    rw [← ht] at hv
    have hj : j < 12 := by
      have := (List.getElem?_eq_some_iff.1 hv).1
      rw [List.length_take] at this; omega
    rw [List.getElem?_take_of_lt hj] at hv
    rw [← Array.getElem?_toList]; exact hv
  exact ⟨⟨key 0 _ rfl, key 1 _ rfl, key 2 _ rfl, key 3 _ rfl⟩, ⟨key 4 _ rfl, key 5 _ rfl, key 6 _ rfl, key 7 _ rfl⟩, ⟨key 8 _ rfl, key 9 _ rfl, key 10 _ rfl, key 11 _ rfl⟩⟩
theorem fx_start {w w1 w2 w3 : World} {g bm D : Nat} {cur : Array Value} (hl : w1.heap[w.heap.size]? = some (.cells cur 71 (0, 0))) (hb1 : Below w.heap.size w w1) (hb2 : Below w1.heap.size w1 w2) (hb3 : Below w2.heap.size w2 w3) (hj : Jn w3 g bm D []) (hg : w2.heap.size ≤ g) (hm : w2.heap.size ≤ bm) :
    FX w w3 w.heap.size g bm D cur none 0 [] [] := by
  have l1 := (Array.getElem?_eq_some_iff.1 hl).1
  have z1 := hb1.size
  have z2 := hb2.size
  exact ⟨(hb3.block _ (by omega)).trans ((hb2.block _ l1).trans hl), hj, hb1.trans ((hb2.trans (hb3.mono z2)).mono z1), Nat.le_refl _, by omega, by omega, by omega, by omega, 0, World.ownsRow_nil _ _ _ _⟩

theorem keep1 {w w' : World} {p : Addr} {v : Value} (h : w.cell? p = some v) (b : Below w.heap.size w w') : w'.cell? p = some v := (b.cell (p := p) (World.block_lt_of_cell? _ _ h)).trans h
theorem ten_next {w w1 w2 : World} {p1 p2 p3 p4 p5 p6 p7 p8 p9 p10 : Addr} {v1 v2 v3 v4 v5 v6 v7 v8 v9 v10 : Value} (h : ((w1.cell? p1 = some v1 ∧ w1.cell? p2 = some v2 ∧ w1.cell? p3 = some v3 ∧ w1.cell? p4 = some v4) ∧ (w1.cell? p5 = some v5 ∧ w1.cell? p6 = some v6) ∧ (w1.cell? p7 = some v7 ∧ w1.cell? p8 = some v8 ∧ w1.cell? p9 = some v9 ∧ w1.cell? p10 = some v10)) ∧ Below w.heap.size w w1) (b : Below w1.heap.size w1 w2) : ((w2.cell? p1 = some v1 ∧ w2.cell? p2 = some v2 ∧ w2.cell? p3 = some v3 ∧ w2.cell? p4 = some v4) ∧ (w2.cell? p5 = some v5 ∧ w2.cell? p6 = some v6) ∧ (w2.cell? p7 = some v7 ∧ w2.cell? p8 = some v8 ∧ w2.cell? p9 = some v9 ∧ w2.cell? p10 = some v10)) ∧ Below w.heap.size w w2 :=
  ⟨⟨⟨keep1 h.1.1.1 b, keep1 h.1.1.2.1 b, keep1 h.1.1.2.2.1 b, keep1 h.1.1.2.2.2 b⟩, ⟨keep1 h.1.2.1.1 b, keep1 h.1.2.1.2 b⟩, ⟨keep1 h.1.2.2.1 b, keep1 h.1.2.2.2.1 b, keep1 h.1.2.2.2.2.1 b, keep1 h.1.2.2.2.2.2 b⟩⟩, acc h.2 b⟩
theorem fx_last {w w13 w15 w16 WR : World} {g bm D : Nat} {cur : Array Value} {A A15 : Option Addr} {c c15 : Nat} {xs : List Int} {m : Js} {n9 : Value} (F : FX w w16 w.heap.size g bm D cur A c xs m) (X : w16.heap[w13.heap.size]? = some (.cells #[.int .i64 0, .int .i64 3, .int .u64 D, .string ⟨#[97, 98]⟩] 71 (0, 0))) (Y : w16.heap[w15.heap.size]? = some (.cells #[.int .i64 5, n9, .slice A15 1 c15] 53 (0, 0))) (ht : cur.toList.take 12 = rowC [c0 D, c1 D, c2 D]) (hW : w16.alloc (.cells #[.int .i64 0, .int .i64 0, .slice none 0 0] 53) = WR) :
    ((WR.cell? ⟨w13.heap.size, 0, none⟩ = some (.int .i64 0) ∧ WR.cell? ⟨w13.heap.size, 1, none⟩ = some (.int .i64 3) ∧ WR.cell? ⟨w13.heap.size, 2, none⟩ = some (.int .u64 D) ∧ WR.cell? ⟨w13.heap.size, 3, none⟩ = some (.string ⟨#[97, 98]⟩)) ∧ (WR.cell? ⟨w15.heap.size, 0, none⟩ = some (.int .i64 5) ∧ WR.cell? ⟨w15.heap.size, 2, none⟩ = some (.slice A15 1 c15)) ∧ (WR.cell? ⟨w.heap.size, 0, none⟩ = some (.int .i64 0) ∧ WR.cell? ⟨w.heap.size, 1, none⟩ = some (.int .i64 3) ∧ WR.cell? ⟨w.heap.size, 2, none⟩ = some (.int .u64 D) ∧ WR.cell? ⟨w.heap.size, 3, none⟩ = some (.string ⟨#[97, 98]⟩))) ∧ FX w WR w.heap.size g bm D cur A c xs m := by
  subst hW
  have b := one_box (w := w16) (.cells #[.int .i64 0, .int .i64 0, .slice none 0 0] 53)
  obtain ⟨x0, x1, x2, x3, _, _, _, _⟩ := row_facts X
  obtain ⟨y0, y1, y2, _, _, _⟩ := row3_all Y
  obtain ⟨⟨q0, q1, q2, q3⟩, _, _⟩ := F.twelve ht
  exact ⟨⟨⟨keep1 x0 b, keep1 x1 b, keep1 x2 b, keep1 x3 b⟩, ⟨keep1 y0 b, keep1 y2 b⟩, ⟨keep1 q0 b, keep1 q1 b, keep1 q2 b, keep1 q3 b⟩⟩, F.below b⟩

set_option maxRecDepth 100000 in
set_option maxHeartbeats 8000000 in
theorem fixed7_any (w : World) :
    Calls Try.prog 42 #[] w fun e w' => e = .returned (.bool true) ∧ Below w.heap.size w w' := by
  obtain ⟨D, hD⟩ : ∃ D, digest s5 = D := ⟨_, rfl⟩
  have hDv : D = 9621897057276740326 := hD.symm.trans digest_s5
  have hD2 : D < 18446744073709551616 := by omega
  have hD3 : (D : Int) + 1 ≤ 18446744073709551615 := by omega
  have HD := Lib.hid hD
  obtain ⟨t, ht0⟩ : ∃ t, putC (c0 D) = t := ⟨_, rfl⟩
  have HT := Lib.hid ht0
  clear hD hDv ht0
  go_enter Try.func42, Try.ntmps42
  go_upto_region 7 with (first
    | (go_at_call 50; have _q := hb2; refine (new_any D _).mono ?_; rintro e w3 ⟨g, bm, rfl, hj3, hg3, hm3, hb3⟩; have F3 : Hid (FX w w3 w.heap.size g bm D cur none 0 [] []) := Lib.hid (fx_start hl1 hb1 hb2 hb3 hj3 hg3 hm3); clear q1_0 q1_1 q1_2 q1_3 q1_4 q1_5 q1_6 q1_7 q1_8 q1_9 q1_a q1_b; obtain ⟨q3_00, q3_01, q3_02, q3_03⟩ := (F3.out.twelve ht).1; obtain ⟨q3_20, q3_21, q3_22, q3_23⟩ := (F3.out.twelve ht).2.2)
    | (go_at_call 40; have _q := hl1; refine (digest_f D _ HD).mono ?_; rintro e w2 ⟨rfl, hb2⟩)
    | (go_at_call 43; refine (split_f D _ HD).mono ?_; rintro e w1 ⟨c, cur, rfl, hl1, ht, hc3, hb1⟩; have hlt1 := (Array.getElem?_eq_some_iff.1 hl1).1; obtain ⟨⟨q1_0, q1_1, q1_2, q1_3⟩, ⟨q1_4, q1_5, q1_6, q1_7⟩, ⟨q1_8, q1_9, q1_a, q1_b⟩⟩ := row_twelve hl1 ht))
  go_cut [4, 5] (fun a b wc => a = .int .i64 0 ∧ b = .int .i64 0 ∧ FX w wc w.heap.size g bm D cur none 0 [] m2)
  case first =>
    have F3d := Lib.hid (F3.out.below (Below.refl _ _).drew)
    go_region_with (first
      | (go_at_call 51; have _q := F4d; refine (fx_take 0 3 ⟨#[97, 98]⟩ m2 F4d rfl rfl (.inr rfl) rfl).mono ?_; rintro e w5 ⟨rfl, hf5⟩; have F5 := Lib.hid hf5; clear hf5; skip)
      | (go_at_call 51; refine (fx_take 2 3 ⟨#[101]⟩ m1 F3d rfl rfl (.inl rfl) rfl).mono ?_; rintro e w4 ⟨rfl, hf4⟩; have F4d := Lib.hid hf4; clear hf4; obtain ⟨q4d_00, q4d_01, q4d_02, q4d_03⟩ := (F4d.out.twelve ht).1))
    all_goals
      go_wp2_with fail
      go_meet
      exact ⟨rfl, rfl, F5.out⟩
  case rest =>
    obtain ⟨rfl, rfl, hf5⟩ := hcut
    have F5 := Lib.hid hf5
    clear hf5
    go_wp2_with (first
      | (go_at_call 43; have _q := F16; refine (split_z _).mono ?_; rintro e w17 ⟨rfl, rfl⟩)
      | (go_at_call 38; have _q := F15; refine (parse_bad _).mono ?_; rintro e w16 ⟨rfl, hb16⟩; have hx16 : Below w15.heap.size w15 w16 := (one_box _).trans (hb16.mono (by simp)); have F16 := Lib.hid (F15.out.below hx16); have X16 := Lib.hid ((hx16.block w13.heap.size (Array.getElem?_eq_some_iff.1 X15.out).1).trans X15.out); have Y16 := Lib.hid ((hb16.block w15.heap.size (by simp)).trans (heap_alloc_new w15 _)); obtain ⟨y0, y1, y2, _, _, _⟩ := row3_all Y16.out; obtain ⟨x0, x1, x2, x3, _, _, _, _⟩ := row_facts X16.out; have hl15 := (Array.getElem?_eq_some_iff.1 Y16.out).1; have hl13 := (Array.getElem?_eq_some_iff.1 X16.out).1; obtain ⟨q16_00, q16_01, q16_02, q16_03⟩ := (F16.out.twelve ht).1)
      | (go_at_call 38; have _q := F14; refine (parse_u _).mono ?_; rintro e w15 ⟨A15, c15, rfl, hb15⟩; have F15 := Lib.hid (F14.out.below hb15); have X15 := Lib.hid ((hb15.block w13.heap.size (Array.getElem?_eq_some_iff.1 X14.out).1).trans X14.out))
      | (go_at_call 36; have _q := F13; refine (text_f _ _ (by simp)).mono ?_; rintro e w14 ⟨rfl, hb14⟩; have hx14 : Below w13.heap.size w13 w14 := (one_box _).trans (hb14.mono (by simp)); have F14 := Lib.hid (F13.out.below hx14); have X14 := Lib.hid ((hb14.block w13.heap.size (by simp)).trans (heap_alloc_new w13 _)))
      | (go_at_call 47; have _q := F12; refine (get_f D t _ hD2 HT).mono ?_; rintro e w13 ⟨rfl, hb13⟩; have F13 := Lib.hid (F12.out.below hb13); skip)
      | (go_at_call 45; have _q := F11; refine (put_f D t _ hD2 HT).mono ?_; rintro e w12 ⟨rfl, hb12⟩; have F12 := Lib.hid (F11.out.below hb12); skip)
      | (go_at_call 51; have _q := F10; refine (fx_form F10).mono ?_; rintro e w11 ⟨rfl, hf11⟩; have F11 := Lib.hid hf11; clear hf11; obtain ⟨q11_00, q11_01, q11_02, q11_03⟩ := (F11.out.twelve ht).1)
      | (go_at_call 54; have _q := F9; refine (fx_yes F9 HD).mono ?_; rintro e w10 ⟨rfl, hf10⟩; have F10 := Lib.hid hf10; clear hf10; skip)
      | (go_at_call 51; have _q := F8; refine (fx_take 1 3 ⟨#[99, 100]⟩ m3 F8 rfl rfl (.inr rfl) rfl).mono ?_; rintro e w9 ⟨rfl, hf9⟩; have F9 := Lib.hid hf9; clear hf9; skip)
      | (go_at_call 51; have _q := F7; refine (fx_other _ 1 3 ⟨#[99, 100]⟩ F7 rfl rfl).mono ?_; rintro e w8 ⟨rfl, hf8⟩; have F8 := Lib.hid hf8; clear hf8; obtain ⟨q8_10, q8_11, q8_12, q8_13⟩ := (F8.out.twelve ht).2.1)
      | (go_at_call 54; have _q := F6; refine (fx_no F6).mono ?_; rintro e w7 ⟨rfl, hf7⟩; have F7 := Lib.hid hf7; clear hf7; obtain ⟨q7_00, q7_01, q7_02, q7_03⟩ := (F7.out.twelve ht).1)
      | (go_at_call 55; refine (fx_miss F5).mono ?_; rintro e w6 ⟨A6, c6, rfl, hf6⟩; have F6 := Lib.hid hf6; clear hf6; skip))
    obtain ⟨WR, hWR⟩ : ∃ WR, w16.alloc (.cells #[.int .i64 0, .int .i64 0, .slice none 0 0] 53) = WR := ⟨_, rfl⟩
    obtain ⟨hc10, FR⟩ := fx_last F16.out X16.out Y16.out ht hWR
    have HFR := Lib.hid FR
    rw [hWR]
    clear hWR FR y0 y1 y2 x0 x1 x2 x3 q16_00 q16_01 q16_02 q16_03 hx16 hb16 hb15 hb14 hb13 hb12 hx14 q11_00 q11_01 q11_02 q11_03 q8_10 q8_11 q8_12 q8_13 q7_00 q7_01 q7_02 q7_03
    simp only [List.append_eq, List.cons_append, List.nil_append]
    go_region_held3 (fun w' => ((w'.cell? ⟨w13.heap.size, 0, none⟩ = some (.int .i64 0) ∧ w'.cell? ⟨w13.heap.size, 1, none⟩ = some (.int .i64 3) ∧ w'.cell? ⟨w13.heap.size, 2, none⟩ = some (.int .u64 D) ∧ w'.cell? ⟨w13.heap.size, 3, none⟩ = some (.string ⟨#[97, 98]⟩)) ∧ (w'.cell? ⟨w15.heap.size, 0, none⟩ = some (.int .i64 5) ∧ w'.cell? ⟨w15.heap.size, 2, none⟩ = some (.slice A15 1 c15)) ∧ (w'.cell? ⟨w.heap.size, 0, none⟩ = some (.int .i64 0) ∧ w'.cell? ⟨w.heap.size, 1, none⟩ = some (.int .i64 3) ∧ w'.cell? ⟨w.heap.size, 2, none⟩ = some (.int .u64 D) ∧ w'.cell? ⟨w.heap.size, 3, none⟩ = some (.string ⟨#[97, 98]⟩))) ∧ Below WR.heap.size WR w')
      (first | assumption | exact ⟨hc10, (Below.refl _ _).drew⟩ | exact (Below.refl _ _).drew | exact ten_next ⟨hc10, Below.refl _ _⟩ ((Below.refl _ _).drew.trans hb18) | exact ten_next (by assumption) (by assumption) | exact ten_next (by assumption) ((Below.refl _ _).drew) | exact ten_next (ten_next (by assumption) ((Below.refl _ _).drew)) (by assumption) | exact ten_next (ten_next (by assumption) (one_box _)) (by assumption) | exact ten_next (by assumption) (one_box _))
      ((go_at_call 56; refine (nums_f w _ _ _ _ _ _ _ _ _ _ (Lib.hid (HFR.out.below (by first | assumption | (rename_i hh; exact hh.2) | exact (Below.refl _ _).drew))) rfl).mono ?_; rintro e w18 ⟨rfl, hb18⟩))
    all_goals
      rename_i hh
      have hbl := hh.2
      clear hh
      go_wp2_with fail
      go_ret
      exact ⟨rfl, HFR.out.b.trans (hbl.mono HFR.out.b.size)⟩
end Go.Proofs.Ytlemcijgjebekaa.L7
