/-
  Contract: a text in chunks.
-/
import Derived.Test.YtlemcijgjebekaaChDig
import Derived.Test.YtlemcijgjebekaaChPut
namespace Go.Proofs.Ytlemcijgjebekaa.L7
open Go.RowKit Go.Shelf
open L3 L4 L5

def rowC : List Ck → List Value
  | [] => []
  | c :: l => .int .i64 c.i :: .int .i64 c.n :: .int .u64 c.d :: .string c.b :: rowC l
theorem rowC_len : ∀ l, (rowC l).length = l.length * 4
  | [] => rfl
  | _ :: l => by simp [rowC, rowC_len l]; omega
theorem rowC_app : ∀ a b, rowC (a ++ b) = rowC a ++ rowC b
  | [], _ => rfl
  | _ :: a, b => by simp [rowC, rowC_app a b]
theorem chunkInfo : (Try.prog.info? 71).map (fun i => (i.zero, i.size, i.bytes)) = some (some (.agg #[.int .i64 0, .int .i64 0, .int .u64 0, .string ⟨#[]⟩]), 4, 40) := by kernel_rfl

set_option maxRecDepth 100000 in
set_option maxHeartbeats 1000000 in
theorem split_arg (s : ByteArray) (k : Int) (w : World) (h : k < 1 ∨ 4096 < k) :
    Calls Try.prog 43 #[.string s, .int .i64 k] w fun e w' => e = .returned (.tuple #[.slice none 0 0, .int .i64 1]) ∧ w = w' := by
  rcases h with h | h
  · go_enter Try.func43, Try.ntmps43
    go_wp2_with fail
    go_ret2
    exact ⟨rfl, rfl⟩
  · have h1 : ¬ k < 1 := by omega
    go_enter Try.func43, Try.ntmps43
    go_wp2_with fail
    go_ret2
    exact ⟨rfl, rfl⟩
theorem nCh_int (s : ByteArray) (k n : Nat) (h1 : 1 ≤ k) (hn : nCh s k = n) : max 1 (((s.size : Int) + (k : Int) - 1) / (k : Int)) = (n : Int) := by
  rw [← hn]
  unfold nCh
  have : ((s.size : Int) + (k : Int) - 1) = ((s.size + k - 1 : Nat) : Int) := by omega
  rw [this, ← Int.natCast_ediv]
  omega
set_option maxRecDepth 100000 in
set_option maxHeartbeats 1000000 in
theorem split_big (s : ByteArray) (k n : Nat) (w : World) (hs : s.size ≤ 1000000) (h1 : 1 ≤ k) (h2 : k ≤ 4096) (hn : nCh s k = n) (h : 4096 < n) :
    Calls Try.prog 43 #[.string s, .int .i64 k] w fun e w' => e = .returned (.tuple #[.slice none 0 0, .int .i64 2]) ∧ w = w' := by
  have hN := nCh_int s k n h1 hn
  clear hn
  go_enter Try.func43, Try.ntmps43
  go_wp2_with fail
  go_ret2
  exact ⟨rfl, rfl⟩
theorem cell_in {w : World} {k o : Nat} {cs : Array Value} {T : TypeId} (h : w.heap[k]? = some (.cells cs T (0, 0))) (ho : o < cs.size) : ∃ v, w.cell? ⟨k, o, none⟩ = some v := by
  simp [World.cell?, h, ho]
/-- a chunk stored into a row, behind those that stand -/
theorem rowC_put {W : World} {G k n : Nat} {row : Array Value} {T : TypeId} {l : List Ck} {c : Ck} (hrow : W.heap[G]? = some (.cells row T (0, 0))) (hsz : row.size = n * 4) (ht : row.toList.take (k * 4) = rowC l) (hk : k < n) :
    ∃ row', ((((W.setCell ⟨G, k * 4, none⟩ (.int .i64 c.i)).setCell ⟨G, k * 4 + 1, none⟩ (.int .i64 c.n)).setCell ⟨G, k * 4 + 2, none⟩ (.int .u64 c.d)).setCell ⟨G, k * 4 + 3, none⟩ (.string c.b)).heap[G]? = some (.cells row' T (0, 0)) ∧ row'.size = n * 4 ∧ row'.toList.take ((k + 1) * 4) = rowC (l ++ [c]) := by
  refine ⟨_, heap_setCell_same _ _ _ _ _ _ (heap_setCell_same _ _ _ _ _ _ (heap_setCell_same _ _ _ _ _ _ (heap_setCell_same _ _ _ _ _ _ hrow))), by simpa using hsz, ?_⟩
  have e1 := take_set (v := .int .i64 c.i) (by omega : k * 4 < row.size) ht
  have e2 := take_set (v := .int .i64 c.n) (by simp; omega : k * 4 + 1 < _) e1
  have e3 := take_set (v := .int .u64 c.d) (by simp; omega : k * 4 + 2 < _) e2
  have e4 := take_set (v := .string c.b) (by simp; omega : k * 4 + 3 < _) e3
  rw [show (k + 1) * 4 = k * 4 + 3 + 1 by omega, e4, rowC_app]
  simp [rowC]

set_option maxRecDepth 100000 in
set_option maxHeartbeats 4000000 in
theorem split_ok (s : ByteArray) (k n : Nat) (w : World) (hs : s.size ≤ 1000000) (h1 : 1 ≤ k) (h2 : k ≤ 4096) (hn : nCh s k = n) (h : n ≤ 4096) :
    Calls Try.prog 43 #[.string s, .int .i64 k] w fun e w' => ∃ c, e = .returned (.tuple #[.slice (some ⟨w.heap.size, 0, none⟩) n c, .int .i64 0]) ∧ w'.ownsRow w.heap.size 71 4 (.slice (some ⟨w.heap.size, 0, none⟩) n c) n (rowC (splitL s k)) ∧ Below w.heap.size w w' := by
  obtain ⟨i0, hi0, hz0, hz1, hz2⟩ := info_parts chunkInfo
  have hN := nCh_int s k n h1 hn
  have h0 : 1 ≤ n := by rw [← hn]; exact nCh_pos s k
  obtain ⟨d, hd⟩ : ∃ d, digest s = d := ⟨_, rfl⟩
  have HD := Lib.hid hd
  have HN := Lib.hid hn
  clear hn hd
  go_enter Try.func43, Try.ntmps43
  go_wp2_with (first
    | (go_at_call 40; refine (digest_is s d _ hs HD).mono ?_; rintro e w2 ⟨rfl, hb2⟩)
    | (at_make; refine wpList_make_full _ rfl _ _ 72 rfl w.heap.size 71 i0 _ 4 Try.underlying72 hi0 hz0 hz1 .i64 .i64 _ _ n rfl rfl rfl rfl (by rw [hz2]; omega) (by unfold maxLen; omega) (Nat.le_refl _) ?_; intro w1 hown1 hgrow1))
  obtain ⟨cur, hcur, hcs⟩ : ∃ cur, w1.heap[w.heap.size]? = some (.cells cur 71 (0, 0)) ∧ cur.size = n * 4 := by
    rcases hown1.2 with ⟨e, _⟩ | ⟨g, cap, cur, e, _, hh, _, _, h3, _⟩
    · cases e
    · injection e with e1 _ e3; injection e1 with e1; injection e1 with e1; subst e1; subst e3
      exact ⟨cur, hh, h3⟩
  have hw1 : w.heap.size < w1.heap.size := (Array.getElem?_eq_some_iff.1 hcur).1
  have B1 : Below w.heap.size w w1 := (Below.refl _ _).grown hgrow1 (Nat.le_refl _) (fun j e => by cases e)
  have B2 : Below w.heap.size w w2 := B1.trans (hb2.mono B1.size)
  have hcur2 := (hb2.block w.heap.size hw1).trans hcur
  clear hown1 hgrow1 hcur hb2 B1 hw1
  go_loopw [34] (fun i wr => ∃ (j : Nat) (row : Array Value), j ≤ n ∧ i = .int .i64 j ∧ Hid (wr.heap[w.heap.size]? = some (.cells row 71 (0, 0))) ∧ Hid (row.size = n * 4) ∧ Hid (row.toList.take (j * 4) = rowC ((splitL s k).take j)) ∧ Hid (Below w.heap.size w wr)) (fun i _ => n - (intOf i).toNat)
  case atStart => exact ⟨0, cur, by omega, rfl, Lib.hid hcur2, Lib.hid hcs, Lib.hid (by simp [rowC]), Lib.hid B2⟩
  case round =>
    obtain ⟨j, row, hj, rfl, HROW, HSZ, HT, HB⟩ := hrel
    by_cases hlt : j < n
    · obtain ⟨p, hp⟩ : ∃ p, j * k = p := ⟨_, rfl⟩
      have hps : p ≤ s.size := by
        rw [← hp]
        by_cases hz : s.size = 0
        · have := nCh_none h1 hz
          have : n = 1 := by rw [← HN.out]; exact this
          obtain rfl : j = 0 := by omega
          simp
        · exact Nat.le_of_lt (body_pos h1 hz (by rw [HN.out]; exact hlt))
      have hm : (j : Int) * (k : Int) = (p : Int) := by rw [← hp]; simp
      obtain ⟨q, hq⟩ : ∃ q : Nat, min (p + k) s.size = q := ⟨_, rfl⟩
      have hq1 : min ((p : Int) + (k : Int)) (s.size : Int) = (q : Int) := by omega
      have q0 : p ≤ q := by omega
      have q1 : q ≤ s.size := by omega
      have j0 : (0 : Int) ≤ (j : Int) := by omega
      have j1 : (j : Int) < (n : Int) := by omega
      have HPQ : Hid (s.extract p q = bodyC s k j) := Lib.hid (by unfold bodyC; rw [hp, hq])
      clear hp hq
      have hlim : (s.extract p q).size ≤ 281474976710656 := by rw [ByteArray.size_extract]; omega
      have HLW : Hid (w.heap.size < wr.heap.size) := Lib.hid (Array.getElem?_eq_some_iff.1 HROW.out).1
      go_wp2_with (go_at_call 99; refine (clone_any (s.extract p q) _ hlim).mono ?_; rintro e w3 ⟨rfl, hb3⟩; have hr3 := (hb3.block w.heap.size HLW.out).trans HROW.out; obtain ⟨v0, hv0⟩ := cell_in hr3 (by rw [HSZ.out]; omega : j * 4 < row.size); obtain ⟨v1, hv1⟩ := cell_in hr3 (by rw [HSZ.out]; omega : j * 4 + 1 < row.size); obtain ⟨v2, hv2⟩ := cell_in hr3 (by rw [HSZ.out]; omega : j * 4 + 2 < row.size); obtain ⟨v3, hv3⟩ := cell_in hr3 (by rw [HSZ.out]; omega : j * 4 + 3 < row.size); have f0 := frozen_of_row w3 w.heap.size (j * 4) _ _ hr3; have f1 := frozen_of_row w3 w.heap.size (j * 4 + 1) _ _ hr3; have f2 := frozen_of_row w3 w.heap.size (j * 4 + 2) _ _ hr3; have f3 := frozen_of_row w3 w.heap.size (j * 4 + 3) _ _ hr3; have HR3 := Lib.hid hr3; clear hr3)
      obtain ⟨row', x1, x2, x3⟩ := rowC_put (c := chunkC s k j) HR3.out HSZ.out HT.out hlt
      go_roundw
      case rel =>
        have hsn : (splitL s k).take (j + 1) = (splitL s k).take j ++ [chunkC s k j] := by
          rw [List.take_add_one, List.getElem?_eq_getElem (by rw [splitL_len, HN.out]; exact hlt)]
          simp [splitL]
        have hB3 : Below w.heap.size w w3 := HB.out.trans (hb3.mono HB.out.size)
        refine ⟨j + 1, row', by omega, by go_num, Lib.hid ?_, Lib.hid x2, Lib.hid (by rw [hsn]; exact x3), Lib.hid ?_⟩
        · rw [← x1]
          unfold chunkC
          dsimp only
          rw [HPQ.out, HN.out, HD.out]
        · exact (((hB3.setCell (p := ⟨w.heap.size, j * 4, none⟩) (Nat.le_refl _) _).setCell (p := ⟨w.heap.size, j * 4 + 1, none⟩) (Nat.le_refl _) _).setCell (p := ⟨w.heap.size, j * 4 + 2, none⟩) (Nat.le_refl _) _).setCell (p := ⟨w.heap.size, j * 4 + 3, none⟩) (Nat.le_refl _) _
      case measure => simp [intOf]; omega
    · obtain rfl : j = n := by omega
      go_wp2_with fail
      go_ret2
      refine ⟨j, rfl, ⟨by rw [rowC_len, splitL_len, HN.out], .inr ⟨w.heap.size, j, row, rfl, Nat.le_refl _, HROW.out, Nat.le_refl _, by unfold maxLen; omega, HSZ.out, ?_⟩⟩, HB.out⟩
      rw [HT.out, List.take_of_length_le (by rw [splitL_len, HN.out]; omega)]
end Go.Proofs.Ytlemcijgjebekaa.L7
