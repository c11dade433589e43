/-
  Plain facts on the calls whose answers the document fixes.
-/
import Derived.Test.YtlemcijgjebekaaChParse
import Derived.Test.YtlemcijgjebekaaChSplit
import Derived.Test.YtlemcijgjebekaaChTake
import Derived.Test.YtlemcijgjebekaaChMiss
namespace Go.Proofs.Ytlemcijgjebekaa.L7
open Go.RowKit
open L3 L4 L5

def s5 : ByteArray := ⟨#[97, 98, 99, 100, 101]⟩
theorem put_small {n : Nat} (h : n < 128) : V.put n = ⟨#[UInt8.ofNat n]⟩ := by unfold V.put; rw [V.puts_small h]; rfl
theorem split_s5 (D : Nat) (h : digest s5 = D) : splitL s5 2 = [⟨0, 3, D, ⟨#[97, 98]⟩⟩, ⟨1, 3, D, ⟨#[99, 100]⟩⟩, ⟨2, 3, D, ⟨#[101]⟩⟩] := by
  unfold splitL chunkC
  rw [h]
  rfl
theorem digest_s5 : digest s5 = 9621897057276740326 := by kernel_rfl
theorem take_a : (baseM [] 3).set 2 (some ⟨#[101]⟩) = [none, none, some ⟨#[101]⟩] := rfl
theorem three_591 : three 5 9 1 = ⟨#[5, 9, 1]⟩ := by unfold three; rw [put_small (by decide), put_small (by decide), put_small (by decide)]; rfl
theorem three_540 : three 5 4 0 = ⟨#[5, 4, 0]⟩ := by unfold three; rw [put_small (by decide), put_small (by decide), put_small (by decide)]; rfl
def uS : ByteArray := ⟨#[5, 9, 1, 2, 0, 0]⟩
def fS : List L4.Fd := [⟨7, R.zero⟩]
theorem zero_put : R.zero.put = ⟨#[0, 0]⟩ := by
  have h : chk false ⟨#[]⟩ false ⟨#[]⟩ = 0 := by decide
  show putT false ⟨#[]⟩ false ⟨#[]⟩ = _
  unfold putT
  rw [if_pos h]
  show ((⟨#[0]⟩ : ByteArray) ++ txt ⟨#[]⟩) = _
  unfold txt
  rw [show (⟨#[]⟩ : ByteArray).size = 0 from rfl, put_small (by decide)]
  rfl
theorem text_uS : textS (5 : Nat) (9 : Nat) fS = uS := by
  unfold textS
  show three 5 9 1 ++ (V.put 2 ++ R.zero.put ++ ⟨#[]⟩) = uS
  rw [three_591, zero_put, put_small (by decide)]
  rfl
theorem get3_uS : get3 uS = ((5, 9, 1), 3, true) := by
  have h := get3_at (s := uS) (r := [2, 0, 0]) (a := 5) (b := 9) (c := 1) (by decide) (by decide) (by decide) (by rw [three_591]; rfl)
  rw [h, three_591]; rfl
theorem get3_bad : get3 ⟨#[5, 4, 0]⟩ = ((5, 4, 0), 3, true) := by
  have h := get3_at (s := ⟨#[5, 4, 0]⟩) (r := []) (a := 5) (b := 4) (c := 0) (by decide) (by decide) (by decide) (by rw [three_540]; rfl)
  rw [h, three_540]; rfl
theorem read_uS : readF uS 3 (wrap64 ((5 : Nat) : Int)) 1 = some (fS, 6, 8) := by
  have h1 : V.get uS 3 = (2, 4, 0) := by
    have := V.get_at (s := uS) (l := [5, 9, 1]) (r := [0, 0]) (n := 2) (by decide) (by rw [V.puts_small (by decide)]; rfl)
    rw [V.puts_small (by decide)] at this
    exact this
  have h2 : getR uS 4 = (R.zero, 6, 0) := by
    have := getR_put (s := uS) (r := R.zero) (by decide) (l := [5, 9, 1, 2]) (b := []) (by rw [zero_put]; rfl)
    rw [zero_put] at this
    exact this
  show (match oneF uS 3 (wrap64 ((5 : Nat) : Int)) with | none => none | some (f, to) => some ([] ++ [f], to, wrap64 (f.o + 1))) = _
  unfold oneF
  rw [h1]
  dsimp only
  rw [if_neg (by decide), h2]
  dsimp only
  rw [if_neg (by decide)]
  have e1 : wrap64 (wrap64 ((5 : Nat) : Int) + wrap64 ((2 : Nat) : Int)) = 7 := by unfold wrap64; omega
  have e2 : wrap64 ((7 : Int) + 1) = 8 := by unfold wrap64; omega
  dsimp only
  rw [e1, e2]
  rfl
theorem load_uS : loadE 5 9 fS = 0 := by decide
theorem load_bad540 : loadE 5 4 [] = 1 := by decide

theorem w5 : wrap64 ((5 : Nat) : Int) = 5 := by unfold wrap64; omega
theorem w9 : wrap64 ((9 : Nat) : Int) = 9 := by unfold wrap64; omega
theorem w4 : wrap64 ((4 : Nat) : Int) = 4 := by unfold wrap64; omega
theorem parse_u (w : World) : Calls Try.prog 38 #[.string ⟨#[5, 9, 1, 2, 0, 0]⟩] w fun e w' => ∃ A c, e = .returned (.tuple #[.agg #[.int .i64 5, .int .i64 9, .slice A 1 c], .int .i64 0]) ∧ Below w.heap.size w w' := by
  refine (parse_run uS w (by decide) 5 9 1 3 (Lib.hid get3_uS) (by decide) fS 6 8 (Lib.hid read_uS) rfl 0 (Lib.hid (by rw [w5, w9]; exact load_uS))).mono ?_
  rintro e w' (⟨_, A, c, rfl, _, hb⟩ | ⟨h, _⟩)
  · rw [w5, w9]; exact ⟨A, c, rfl, hb⟩
  · exact absurd rfl h
theorem parse_bad (w : World) : Calls Try.prog 38 #[.string ⟨#[5, 4, 0]⟩] w fun e w' => e = .returned (.tuple #[.agg #[.int .i64 0, .int .i64 0, .slice none 0 0], .int .i64 70]) ∧ Below w.heap.size w w' := by
  refine (parse_run ⟨#[5, 4, 0]⟩ w (by decide) 5 4 0 3 (Lib.hid get3_bad) (by decide) [] 3 _ (Lib.hid rfl) rfl 1 (Lib.hid (by rw [w5, w4]; exact load_bad540))).mono ?_
  rintro e w' (⟨h, _⟩ | ⟨_, rfl, hb⟩)
  · exact absurd h (by decide)
  · exact ⟨rfl, hb⟩
/-- what lies below while the calls go on: a row of three chunks, a joiner, numbers that were told -/
structure FX (w W : World) (gl g bm D : Nat) (cur : Array Value) (A : Option Addr) (c : Nat) (xs : List Int) (m : Js) : Prop where
  l : W.heap[gl]? = some (.cells cur 71 (0, 0))
  j : Jn W g bm D m
  b : Below w.heap.size w W
  h0 : w.heap.size ≤ gl
  hg : gl ≠ g
  hb : gl ≠ bm
  g0 : w.heap.size ≤ g
  b0 : w.heap.size ≤ bm
  o : ∃ base, W.ownsRow base 3 1 (.slice A xs.length c) xs.length (rowI xs)
theorem own_to {W W' : World} {A : Option Addr} {c : Nat} {xs : List Int} (h : ∃ base, W.ownsRow base 3 1 (.slice A xs.length c) xs.length (rowI xs)) (hk : ∀ (k : Nat) (cs : Array Value) (fr : Nat × Nat), W.heap[k]? = some (.cells cs 3 fr) → W'.heap[k]? = W.heap[k]?) : ∃ base, W'.ownsRow base 3 1 (.slice A xs.length c) xs.length (rowI xs) := by
  obtain ⟨base, h1, h2⟩ := h
  refine ⟨base, h1, ?_⟩
  rcases h2 with e | ⟨g, cap, cur, e, q1, hh, q2⟩
  · exact .inl e
  · exact .inr ⟨g, cap, cur, e, q1, (hk g _ _ hh).trans hh, q2⟩
section
variable {w W W' : World} {gl g bm D : Nat} {cur : Array Value} {A : Option Addr} {c : Nat} {xs : List Int} {m m' : Js}
theorem FX.below (h : FX w W gl g bm D cur A c xs m) (k : Below W.heap.size W W') : FX w W' gl g bm D cur A c xs m :=
  ⟨(k.block _ (Array.getElem?_eq_some_iff.1 h.l).1).trans h.l, h.j.below k, h.b.trans (k.mono h.b.size), h.h0, h.hg, h.hb, h.g0, h.b0, own_to h.o (fun _ _ _ q => k.block _ (Array.getElem?_eq_some_iff.1 q).1)⟩
theorem FX.lets (h : FX w W gl g bm D cur A c xs m) (j : Jn W' g bm D m') (k : Lets [g, bm] W W') : FX w W' gl g bm D cur A c xs m' :=
  ⟨(k.block _ (Array.getElem?_eq_some_iff.1 h.l).1 (by simp [h.hg, h.hb])).trans h.l, j, h.b.trans (k.below h.b.size (by simp [h.g0, h.b0])), h.h0, h.hg, h.hb, h.g0, h.b0, own_to h.o (fun n cs fr q => k.block _ (Array.getElem?_eq_some_iff.1 q).1 (fun hm => by
    obtain ⟨es, ck, hmap⟩ := h.j.has.map
    have hrow := h.j.row
    rcases List.mem_cons.1 hm with rfl | hm
    · rw [q] at hrow; injection hrow with e; injection e with _ e _; exact absurd e (by decide)
    · rw [List.mem_singleton.1 hm, hmap] at q; cases q))⟩
theorem FX.told (h : FX w W gl g bm D cur A c xs m) {A' : Option Addr} {c' : Nat} {ys : List Int} (o : ∃ base, W.ownsRow base 3 1 (.slice A' ys.length c') ys.length (rowI ys)) : FX w W gl g bm D cur A' c' ys m :=
  ⟨h.l, h.j, h.b, h.h0, h.hg, h.hb, h.g0, h.b0, o⟩
end
theorem FX.cells {w W : World} {gl g bm D : Nat} {cur : Array Value} {A : Option Addr} {c : Nat} {xs : List Int} {m : Js} {L : List Ck} (h : FX w W gl g bm D cur A c xs m) (n : Nat) (ht : cur.toList.take n = rowC L) (j : Nat) (v : Value) (hv : (rowC L)[j]? = some v) : W.cell? ⟨gl, j, none⟩ = some v := by
  refine (cell_of_row _ _ j _ _ _ h.l).trans ?_
  rw [← ht] at hv
  have hj : j < n := by
    have := (List.getElem?_eq_some_iff.1 hv).1
    rw [List.length_take] at this; omega
  rw [List.getElem?_take_of_lt hj] at hv
  rw [← Array.getElem?_toList]; exact hv
def c0 (D : Nat) : Ck := ⟨0, 3, D, ⟨#[97, 98]⟩⟩
def c1 (D : Nat) : Ck := ⟨1, 3, D, ⟨#[99, 100]⟩⟩
def c2 (D : Nat) : Ck := ⟨2, 3, D, ⟨#[101]⟩⟩
theorem FX.twelve {w W : World} {gl g bm D : Nat} {cur : Array Value} {A : Option Addr} {c : Nat} {xs : List Int} {m : Js} (h : FX w W gl g bm D cur A c xs m) (ht : cur.toList.take 12 = rowC [c0 D, c1 D, c2 D]) :
    (W.cell? ⟨gl, 0, none⟩ = some (.int .i64 0) ∧ W.cell? ⟨gl, 1, none⟩ = some (.int .i64 3) ∧ W.cell? ⟨gl, 2, none⟩ = some (.int .u64 D) ∧ W.cell? ⟨gl, 3, none⟩ = some (.string ⟨#[97, 98]⟩)) ∧
    (W.cell? ⟨gl, 4, none⟩ = some (.int .i64 1) ∧ W.cell? ⟨gl, 5, none⟩ = some (.int .i64 3) ∧ W.cell? ⟨gl, 6, none⟩ = some (.int .u64 D) ∧ W.cell? ⟨gl, 7, none⟩ = some (.string ⟨#[99, 100]⟩)) ∧
    (W.cell? ⟨gl, 8, none⟩ = some (.int .i64 2) ∧ W.cell? ⟨gl, 9, none⟩ = some (.int .i64 3) ∧ W.cell? ⟨gl, 10, none⟩ = some (.int .u64 D) ∧ W.cell? ⟨gl, 11, none⟩ = some (.string ⟨#[101]⟩)) :=
  ⟨⟨h.cells 12 ht 0 _ rfl, h.cells 12 ht 1 _ rfl, h.cells 12 ht 2 _ rfl, h.cells 12 ht 3 _ rfl⟩, ⟨h.cells 12 ht 4 _ rfl, h.cells 12 ht 5 _ rfl, h.cells 12 ht 6 _ rfl, h.cells 12 ht 7 _ rfl⟩, ⟨h.cells 12 ht 8 _ rfl, h.cells 12 ht 9 _ rfl, h.cells 12 ht 10 _ rfl, h.cells 12 ht 11 _ rfl⟩⟩
end Go.Proofs.Ytlemcijgjebekaa.L7
