/-
  The document's digest of a text.
-/
import Derived.Test.YtlemcijgjebekaaChDig
import Derived.Test.YtlemcijgjebekaaCrcRef
import Derived.Deep.QuietTactic
import Derived.BigQuiet
import Derived.LoopTactic
import Derived.Test.YtlemcijgjebekaaChSplit
import Derived.Deep.Cut
namespace Go.Proofs.Ytlemcijgjebekaa.L7
open Go.RowKit
open L3 L4 L5

theorem rev_step {l : List Nat} {q n : Nat} (h : l[q]? = some n) : (l.drop q).reverse = (l.drop (q + 1)).reverse ++ [n] := by
  obtain ⟨h1, h2⟩ := List.getElem?_eq_some_iff.1 h
  rw [List.drop_eq_getElem_cons h1, List.reverse_cons, h2]
set_option maxRecDepth 100000 in
theorem conv_own {W : World} {base : Nat} {A : Option Addr} {n c : Nat} {s : ByteArray} (hn : s.size = n) (hrow : W.ownsRow base 5 1 (.slice A n c) n (rowB (V.nats s).reverse)) (W' : World) (hb : Below W.heap.size W W') :
    (convert 127 9 (.slice A n c)).run Try.prog W' = .ok (.string (rev s)) W' := by
  have hl : (V.nats s).reverse.length = n := by rw [List.length_reverse, V.nats_len]; exact hn
  rcases hrow.2 with ⟨e, e0⟩ | ⟨g, cap, cur, e, _, hh, _⟩
  · injection e with e1 e2 e3
    subst e1
    rw [run_convert_bytes_nil (P := Try.prog) W' 127 5 Try.underlying127 Try.underlying5 n c 9 Try.underlying9]
    have : rev s = ByteArray.empty := ByteArray.size_eq_zero_iff.1 (by rw [rev_size, hn]; exact e0)
    rw [this]
  · injection e with e1 e2 e3
    subst e1
    rw [run_convert_bytes_arg (P := Try.prog) W' 127 5 Try.underlying127 Try.underlying5 g 0 n c ((V.nats s).reverse.map fun n : Nat => (n : Int)) (by rw [List.length_map, hl]) (fun i hi => ?_) 9 Try.underlying9, rev_row]
    have hlt : i < (V.nats s).reverse.length := by rw [hl]; exact hi
    have q := hrow.cells (g := g) rfl i (.int .u8 ((V.nats s).reverse[i] : Int)) (by unfold rowB; rw [List.getElem?_map, List.getElem?_eq_getElem hlt]; rfl)
    rw [addr_add] at q
    rw [Nat.zero_add]
    refine (World.cell?_of_block (w := W) (a := ⟨g, i, none⟩) (hb.block g (Array.getElem?_eq_some_iff.1 hh).1)).trans (q.trans ?_)
    rw [List.getD_eq_getElem?_getD, List.getElem?_map, List.getElem?_eq_getElem hlt]; rfl
set_option maxRecDepth 100000 in
set_option maxHeartbeats 4000000 in
theorem rdigest_is (s : ByteArray) (d : Nat) (w : World) (hs : s.size ≤ 1000000) (hd : Hid (digest s = d)) :
    Calls Try.prog 41 #[.string s] w fun e w' => e = .returned (.int .u64 d) ∧ Below w.heap.size w w' := by
  obtain ⟨i0, hi0, hz0, hz1, hz2⟩ := info_parts u8Info
  have hnl := V.nats_len s
  have HNL := Lib.hid hnl
  clear hnl
  go_enter Try.func41, Try.ntmps41
  go_wp2_with fail
  go_loopw [3, 4] (fun bv iv wr => ∃ (j m c : Nat) (A : Option Addr) (p : Int), j ≤ s.size ∧ m + j = s.size ∧ iv = .int .i64 p ∧ bv = .slice A m c ∧ Hid (p + 1 = (j : Int)) ∧ Hid (wr.ownsRow w.heap.size 5 1 (.slice A m c) m (rowB ((V.nats s).drop j).reverse)) ∧ Hid (Below w.heap.size w wr)) (fun _ iv _ => (intOf iv + 1).toNat)
  case atStart => exact ⟨s.size, 0, 0, _, _, by omega, by omega, rfl, rfl, Lib.hid (by omega), Lib.hid (by rw [List.drop_of_length_le (by rw [HNL.out]; omega)]; simpa [rowB] using World.ownsRow_made (size := 1) w #[] 0 (Nat.le_refl _) (by unfold maxLen; omega) rfl), Lib.hid (one_box _)⟩
  case round =>
    obtain ⟨j, m, c, A, p, hj, hm, rfl, rfl, HP, HROW, HB⟩ := hrel
    cases j with
    | succ q =>
      obtain rfl : p = (q : Int) := by have := HP.out; omega
      have q0 : (0 : Int) ≤ (q : Int) := by omega
      have q1 : q < s.size := by omega
      have q2 : (q : Int) < (s.size : Int) := by omega
      obtain ⟨x, hx⟩ : ∃ x, (V.nats s)[q]? = some x := ⟨_, List.getElem?_eq_getElem (by rw [HNL.out]; exact q1)⟩
      have hxv : s[q].toNat = x := by
        rw [V.nats, List.getElem?_map] at hx
        have : s.data.toList[q]? = some s[q] := by rw [List.getElem?_eq_getElem (by simpa using q1)]; rfl
        rw [this] at hx
        exact Option.some.inj hx
      have hsn := rev_step hx
      have HSN := Lib.hid hsn
      have HXV := Lib.hid hxv
      clear hsn hx
      go_wp2_with (at_builtin; refine wpList_append_own _ rfl _ _ 127 rfl w.heap.size 5 i0 _ 1 1 Try.underlying127 hi0 hz0 hz1 hz2 rfl (by decide) _ _ _ rfl (HROW.out.alloc _) ⟨wr.heap.size, 0, none⟩ 1 1 [.int .u8 x] rfl rfl (cell_one_new _ _ _) (by simp [Value.oneCell']) (by unfold maxLen; omega) (by omega) (by have := HB.out.size; simp; omega) ?_; intro v' w1 hown' hgrow _; obtain ⟨g', cap', rfl⟩ := ownsRow_succ hown')
      go_roundw
      case rel =>
        refine ⟨q, m + 1, cap', some ⟨g', 0, none⟩, _, by omega, by omega, rfl, rfl, Lib.hid (by omega), Lib.hid ?_, Lib.hid ?_⟩
        · rw [HSN.out, rowB_snoc]; exact hown'
        · exact (HB.out.alloc HB.out.size _).grown hgrow (by have := HB.out.size; simp; omega) (fun k e => by have := HROW.out.lt k e; exact this.1)
      case measure => simp [intOf]
    | zero =>
      obtain rfl : p = -1 := by have := HP.out; omega
      obtain rfl : m = s.size := by omega
      have hrow := HROW.out
      rw [List.drop_zero] at hrow
      have hconv := conv_own rfl hrow
      have HCV := Lib.hid hconv
      obtain ⟨p, hp⟩ : ∃ p : Nat, sumOf s = p := ⟨_, rfl⟩
      obtain ⟨q, hq⟩ : ∃ q : Nat, sumOf (rev s) = q := ⟨_, rfl⟩
      have p1 : (p : Int) ≤ 4294967295 := by have := sumOf_lt s; omega
      have q1 : (q : Int) ≤ 4294967295 := by have := sumOf_lt (rev s); omega
      have HPP : Hid (((sumOf s : Nat) : Int) = (p : Int)) := Lib.hid (by rw [hp])
      have HQQ : Hid (((sumOf (rev s) : Nat) : Int) = (q : Int)) := Lib.hid (by rw [hq])
      have rs : (rev s).size ≤ 1000000 := by rw [rev_size]; exact hs
      have hdd : p * 4294967296 + q = d := by rw [← hd.out, ← hp, ← hq]; rfl
      have u1 : IntKind.u64.wrap (p : Int) = p := IntWalk.u64_in _ (by omega)
      have u2 : IntKind.u64.wrap ((p : Int) * 4294967296) = (p : Int) * 4294967296 := IntWalk.u64_in _ (by omega)
      have u3 : IntKind.u64.wrap (q : Int) = q := IntWalk.u64_in _ (by omega)
      have u4 : IntKind.u64.wrap ((p : Int) * 4294967296 + (q : Int)) = (d : Int) := by rw [IntWalk.u64_in _ (by omega)]; omega
      have g0 := hconv wr (Below.refl _ _)
      have gd := hconv wr.drew (Below.refl _ _).drew
      have g1 := fun n => hconv (wr.drewN n) (drewN_below (Below.refl _ _) n)
      clear hconv hrow hp hq hdd
      go_wp2_with fail
      go_quiet ((first | (go_at_call 98; with_reducible exact Calls.quiet_of_same ((refsum_is s p _ (by omega) HPP).mono fun _ _ h => ⟨h.1, h.2.symm⟩)) | (go_at_call 98; exact Calls.quiet_of_same ((refsum_is (rev s) q _ (by omega) HQQ).mono fun _ _ h => ⟨h.1, h.2.symm⟩))))
      go_wp2_with fail
      go_ret
      exact ⟨rfl, drewN_below HB.out _⟩
end Go.Proofs.Ytlemcijgjebekaa.L7
/-
  The document's chunks of a text.
-/
namespace Go.Proofs.Ytlemcijgjebekaa.L7
open Go.RowKit
open L3 L4 L5

theorem cells_four (W : World) (T : TypeId) (x y z u : Value) (k : Nat) (hk : k = W.heap.size) : ∀ j a, [x, y, z, u][j]? = some a → (W.alloc (.cells #[x, y, z, u] T)).cell? ((⟨k, 0, none⟩ : Addr).add j) = some a := by
  subst hk
  intro j a h
  rw [addr_add]
  refine (cell_of_row _ _ j _ _ _ (heap_alloc_new W _)).trans ?_
  simpa using h
theorem strInfo : (Try.prog.info? 9).map (fun i => (i.zero, i.size, i.bytes)) = some (some (.string ⟨#[]⟩), 1, 16) := by kernel_rfl
def rowS (l : List ByteArray) : List Value := l.map Value.string
theorem rowC_cells : ∀ (l : List Ck) (j : Nat) (c : Ck), l[j]? = some c → (rowC l)[j * 4]? = some (.int .i64 c.i) ∧ (rowC l)[j * 4 + 1]? = some (.int .i64 c.n) ∧ (rowC l)[j * 4 + 2]? = some (.int .u64 c.d) ∧ (rowC l)[j * 4 + 3]? = some (.string c.b)
  | [], j, c, h => by simp at h
  | a :: l, 0, c, h => by simp at h; subst h; exact ⟨rfl, rfl, rfl, rfl⟩
  | a :: l, j + 1, c, h => by
    have := rowC_cells l j c (by simpa using h)
    have e : (j + 1) * 4 = j * 4 + 4 := by omega
    rw [e]
    exact this
theorem nCh_uniq {s : ByteArray} {k j : Nat} (hk : 1 ≤ k) (hs : s.size ≠ 0) (h1 : s.size ≤ j * k) (h2 : (j - 1) * k < s.size) : nCh s k = j := by
  obtain ⟨q1, q2⟩ := nCh_some hk hs
  have hp := nCh_pos s k
  have a : nCh s k - 1 < j := Nat.lt_of_mul_lt_mul_right (a := k) (by omega)
  have b : j - 1 < nCh s k := Nat.lt_of_mul_lt_mul_right (a := k) (by omega)
  omega
theorem body_none {s : ByteArray} (hs : s.size = 0) (k i : Nat) : bodyC s k i = ⟨#[]⟩ := ByteArray.size_eq_zero_iff.1 (by rw [bodyC_size]; omega)
theorem rsplit_arg (s : ByteArray) (k : Int) (w : World) (h : k < 1 ∨ 4096 < k) :
    Calls Try.prog 44 #[.string s, .int .i64 k] w fun e w' => e = .returned (.tuple #[.slice none 0 0, .int .i64 1]) ∧ w = w' := by
  by_cases h1 : k < 1
  · go_enter Try.func44, Try.ntmps44
    go_wp2_with fail
    go_ret2
    exact ⟨rfl, rfl⟩
  · have h2 : 4096 < k := by omega
    clear h
    go_enter Try.func44, Try.ntmps44
    go_wp2_with fail
    go_ret2
    exact ⟨rfl, rfl⟩
set_option maxRecDepth 100000 in
set_option maxHeartbeats 4000000 in
theorem rsplit_ok (s : ByteArray) (k n : Nat) (w : World) (hs : s.size ≤ 1000000) (h1 : 1 ≤ k) (h2 : k ≤ 4096) (hn : nCh s k = n) (h : n ≤ 4096) :
    Calls Try.prog 44 #[.string s, .int .i64 k] w fun e w' => ∃ A c, e = .returned (.tuple #[.slice A n c, .int .i64 0]) ∧ (∃ base, w'.ownsRow base 71 4 (.slice A n c) n (rowC (splitL s k))) ∧ Below w.heap.size w w' := by
  obtain ⟨i0, hi0, hz0, hz1, hz2⟩ := info_parts chunkInfo
  obtain ⟨s0, hs0, sz0, sz1, sz2⟩ := info_parts strInfo
  obtain ⟨d, hd⟩ : ∃ d, digest s = d := ⟨_, rfl⟩
  have HD := Lib.hid hd
  have HN := Lib.hid hn
  have k1 : ¬ (k : Int) < 1 := by omega
  have k2 : ¬ (4096 : Int) < (k : Int) := by omega
  clear hn hd
  go_enter Try.func44, Try.ntmps44
  go_wp2_with fail
  go_loopw [6, 7] (fun pv tv wr => ∃ (j p c : Nat) (A : Option Addr), tv = .int .i64 p ∧ pv = .slice A j c ∧ p ≤ s.size + k ∧ j ≤ p ∧ Hid (j * k = p) ∧ Hid (j = 0 ∨ (j - 1) * k < s.size) ∧ Hid (wr.ownsRow w.heap.size 9 1 (.slice A j c) j (rowS ((List.range j).map (bodyC s k)))) ∧ Hid (Below w.heap.size w wr)) (fun _ tv _ => s.size - (intOf tv).toNat)
  case atStart => exact ⟨0, 0, 0, _, rfl, rfl, by omega, by omega, Lib.hid (by omega), Lib.hid (.inl rfl), Lib.hid (by simpa [rowS] using World.ownsRow_made (size := 1) w #[] 0 (Nat.le_refl _) (by unfold maxLen; omega) rfl), Lib.hid (one_box _)⟩
  case round =>
    obtain ⟨j, p, c, A, rfl, rfl, hps, hjp, HJ, HJ2, HROW, HB⟩ := hrel
    have p0 : (0 : Int) ≤ (p : Int) := by omega
    by_cases hlt : p < s.size
    · have hlt' : (p : Int) < (s.size : Int) := by omega
      obtain ⟨q, hq⟩ : ∃ q : Nat, min (p + k) s.size = q := ⟨_, rfl⟩
      have hq1 : min (s.size : Int) ((p : Int) + (k : Int)) = (q : Int) := by omega
      have q0 : p ≤ q := by omega
      have q1 : q ≤ s.size := by omega
      obtain ⟨b, hb⟩ : ∃ b, s.extract p q = b := ⟨_, rfl⟩
      have hbb : bodyC s k j = b := by unfold bodyC; rw [HJ.out, hq, hb]
      have hsn : rowS ((List.range (j + 1)).map (bodyC s k)) = rowS ((List.range j).map (bodyC s k)) ++ [.string b] := by
        rw [List.range_succ, List.map_append, rowS, List.map_append, List.map_singleton, List.map_singleton, hbb]; rfl
      have HSN := Lib.hid hsn
      have HJJ : Hid ((j + 1) * k = p + k) := Lib.hid (by rw [Nat.add_mul, HJ.out]; omega)
      clear hq hbb hsn
      go_wp2_with (at_builtin; refine wpList_append_own _ rfl _ _ 154 rfl w.heap.size 9 s0 _ 1 16 Try.underlying154 hs0 sz0 sz1 sz2 rfl (by decide) _ _ _ rfl (HROW.out.alloc _) ⟨wr.heap.size, 0, none⟩ 1 1 [.string b] rfl rfl (cell_one_new _ _ _) (by simp [Value.oneCell']) (by unfold maxLen; omega) (by omega) (by have := HB.out.size; simp; omega) ?_; intro v' w1 hown' hgrow _; obtain ⟨g', cap', rfl⟩ := ownsRow_succ hown')
      go_roundw
      case rel => exact ⟨j + 1, p + k, cap', some ⟨g', 0, none⟩, by go_num, rfl, by omega, by omega, HJJ, Lib.hid (.inr (by rw [Nat.add_sub_cancel, HJ.out]; exact hlt)), Lib.hid (by rw [HSN.out]; exact hown'), Lib.hid ((HB.out.alloc HB.out.size _).grown hgrow (by have := HB.out.size; simp; omega) (fun k e => (HROW.out.lt k e).1))⟩
      case measure => simp [intOf]; omega
    · have hlt' : ¬ (p : Int) < (s.size : Int) := by omega
      have n2 : ¬ (4096 : Int) < (n : Int) := by omega
      have HBW := HB
      by_cases hs0' : s.size = 0
      · have hz : ((s.size : Int) == 0) = true := by simpa using hs0'
        obtain rfl : n = 1 := by rw [← HN.out]; exact nCh_none h1 hs0'
        obtain ⟨W5, hW5⟩ : ∃ W5, wr.alloc (.cells #[.string ⟨#[]⟩] 9) = W5 := ⟨_, rfl⟩
        obtain ⟨G, hG⟩ : ∃ G, wr.heap.size = G := ⟨_, rfl⟩
        have HG : Hid (G < W5.heap.size) := Lib.hid (by rw [← hW5, ← hG]; simp)
        have HPA : Hid (∀ i, i < 1 → W5.cell? ⟨G, i, none⟩ = some (.string (bodyC s k i))) := Lib.hid (fun i hi => by
          obtain rfl : i = 0 := by omega
          rw [body_none hs0', ← hW5, ← hG]
          exact (cell_of_row _ _ 0 _ _ _ (heap_alloc_new wr _)).trans rfl)
        have HBW : Hid (Below w.heap.size w W5) := Lib.hid (by rw [← hW5]; exact HB.out.alloc HB.out.size _)
        go_upto_region 12 with fail

        clear hW5 hG HB
        go_wp2_with (go_at_call 41; refine (rdigest_is s d _ hs HD).mono ?_; rintro e w6 ⟨rfl, hb6⟩)
        have HO6 := Lib.hid (own_below (World.ownsRow_made (size := 4) (e := 71) W5 #[] 0 (Nat.le_refl _) (by unfold maxLen; omega) rfl) hb6)
        have HB6 := Lib.hid ((one_box (w := W5) (.cells #[] 71)).trans (hb6.mono (by simp)))
        clear hb6
        go_loopw [8, 10] (fun ov iv wr => ∃ (i c : Nat) (A : Option Addr), i ≤ 1 ∧ iv = .int .i64 i ∧ ov = .slice A i c ∧ Hid (wr.ownsRow W5.heap.size 71 4 (.slice A i c) i (rowC ((splitL s k).take i))) ∧ Hid (Below W5.heap.size W5 wr)) (fun _ iv _ => 1 - (intOf iv).toNat)
        case atStart => exact ⟨0, 0, _, by omega, rfl, rfl, Lib.hid HO6.out, HB6⟩
        case round =>
          obtain ⟨i, c, A, hi, rfl, rfl, HRW, HB⟩ := hrel
          have i0' : (0 : Int) ≤ (i : Int) := by omega
          by_cases hlt : i < 1
          · have hlt' : (i : Int) < (1 : Int) := by omega
            obtain ⟨b, hb⟩ : ∃ b, bodyC s k i = b := ⟨_, rfl⟩
            have hat : (splitL s k)[i]? = some ⟨i, 1, d, b⟩ := by
              unfold splitL
              rw [HN.out, List.getElem?_map, List.getElem?_range hlt]
              show some (chunkC s k i) = _
              unfold chunkC
              rw [HN.out, HD.out, hb]
              all_goals rfl
            have hsn : rowC ((splitL s k).take (i + 1)) = rowC ((splitL s k).take i) ++ [.int .i64 i, .int .i64 1, .int .u64 d, .string b] := by
              rw [List.take_add_one, hat, rowC_app]; rfl
            have HSN := Lib.hid hsn
            have c0 := (HB.out.cell (p := ⟨G, i, none⟩) HG.out).trans (HPA.out i hlt)
            rw [hb] at c0
            clear hb hat hsn
            go_wp2_with (at_builtin; refine wpList_append_own _ rfl _ _ 72 rfl W5.heap.size 71 i0 _ 4 40 Try.underlying72 hi0 hz0 hz1 hz2 rfl (by decide) _ _ _ rfl (HRW.out.alloc _) ⟨wr.heap.size, 0, none⟩ 1 1 [.int .i64 i, .int .i64 1, .int .u64 d, .string b] rfl rfl (cells_four _ _ _ _ _ _ _ (by simp)) (by simp [Value.oneCell']) (by unfold maxLen; omega) (by omega) (by have := HB.out.size; simp; omega) ?_; intro v' w7 hown' hgrow _; obtain ⟨g', cap', rfl⟩ := ownsRow_succ hown')
            go_roundw
            case rel => exact ⟨i + 1, cap', some ⟨g', 0, none⟩, by omega, by go_num, rfl, Lib.hid (by rw [HSN.out]; exact hown'), Lib.hid ((HB.out.alloc HB.out.size _).grown hgrow (by have := HB.out.size; simp; omega) (fun k e => (HRW.out.lt k e).1))⟩
            case measure => simp [intOf]; omega
          · have hlt' : ¬ (i : Int) < (1 : Int) := by omega
            go_wp2_with fail
            go_ret2
            obtain rfl : i = 1 := by omega
            have hrow := HRW.out
            rw [List.take_of_length_le (by rw [splitL_len, HN.out]; omega)] at hrow
            exact ⟨A, c, rfl, ⟨W5.heap.size, hrow⟩, HBW.out.trans (HB.out.mono HBW.out.size)⟩
      · have hz : ((s.size : Int) == 0) = false := by simpa using hs0'
        have hjn : nCh s k = j := nCh_uniq h1 hs0' (by rw [HJ.out]; omega) (by rcases HJ2.out with q | q; exfalso; have := HJ.out; rw [q] at this; omega; exact q)
        obtain rfl : n = j := by rw [← HN.out]; exact hjn
        have n0 : 0 < n := by have := nCh_pos s k; omega
        have hrow := HROW.out
        obtain ⟨G, c', hv, _, _⟩ := hrow.form n0
        injection hv with e1 e2 e3
        subst e1
        obtain ⟨W5, hW5⟩ : ∃ W5, wr = W5 := ⟨_, rfl⟩
        have HG : Hid (G < W5.heap.size) := Lib.hid (by rw [← hW5]; exact (hrow.lt G rfl).2)
        have HPA : Hid (∀ i, i < n → W5.cell? ⟨G, i, none⟩ = some (.string (bodyC s k i))) := Lib.hid (fun i hi => by
          have := hrow.cells (g := G) rfl i (.string (bodyC s k i)) (by unfold rowS; rw [List.getElem?_map, List.getElem?_map, List.getElem?_range hi]; rfl)
          rw [addr_add] at this
          rw [← hW5]; exact this)
        rw [hW5] at HB HBW ⊢
        clear hW5 hrow e2 e3 hjn
        go_wp2_with (go_at_call 41; refine (rdigest_is s d _ hs HD).mono ?_; rintro e w6 ⟨rfl, hb6⟩)
        have HO6 := Lib.hid (own_below (World.ownsRow_made (size := 4) (e := 71) W5 #[] 0 (Nat.le_refl _) (by unfold maxLen; omega) rfl) hb6)
        have HB6 := Lib.hid ((one_box (w := W5) (.cells #[] 71)).trans (hb6.mono (by simp)))
        clear hb6
        go_loopw [8, 10] (fun ov iv wr => ∃ (i c : Nat) (A : Option Addr), i ≤ n ∧ iv = .int .i64 i ∧ ov = .slice A i c ∧ Hid (wr.ownsRow W5.heap.size 71 4 (.slice A i c) i (rowC ((splitL s k).take i))) ∧ Hid (Below W5.heap.size W5 wr)) (fun _ iv _ => n - (intOf iv).toNat)
        case atStart => exact ⟨0, 0, _, by omega, rfl, rfl, Lib.hid HO6.out, HB6⟩
        case round =>
          obtain ⟨i, c, A, hi, rfl, rfl, HRW, HB⟩ := hrel
          have i0' : (0 : Int) ≤ (i : Int) := by omega
          by_cases hlt : i < n
          · have hlt' : (i : Int) < (n : Int) := by omega
            obtain ⟨b, hb⟩ : ∃ b, bodyC s k i = b := ⟨_, rfl⟩
            have hat : (splitL s k)[i]? = some ⟨i, n, d, b⟩ := by
              unfold splitL
              rw [HN.out, List.getElem?_map, List.getElem?_range hlt]
              show some (chunkC s k i) = _
              unfold chunkC
              rw [HN.out, HD.out, hb]
              all_goals rfl
            have hsn : rowC ((splitL s k).take (i + 1)) = rowC ((splitL s k).take i) ++ [.int .i64 i, .int .i64 n, .int .u64 d, .string b] := by
              rw [List.take_add_one, hat, rowC_app]; rfl
            have HSN := Lib.hid hsn
            have c0 := (HB.out.cell (p := ⟨G, i, none⟩) HG.out).trans (HPA.out i hlt)
            rw [hb] at c0
            clear hb hat hsn
            go_wp2_with (at_builtin; refine wpList_append_own _ rfl _ _ 72 rfl W5.heap.size 71 i0 _ 4 40 Try.underlying72 hi0 hz0 hz1 hz2 rfl (by decide) _ _ _ rfl (HRW.out.alloc _) ⟨wr.heap.size, 0, none⟩ 1 1 [.int .i64 i, .int .i64 n, .int .u64 d, .string b] rfl rfl (cells_four _ _ _ _ _ _ _ (by simp)) (by simp [Value.oneCell']) (by unfold maxLen; omega) (by omega) (by have := HB.out.size; simp; omega) ?_; intro v' w7 hown' hgrow _; obtain ⟨g', cap', rfl⟩ := ownsRow_succ hown')
            go_roundw
            case rel => exact ⟨i + 1, cap', some ⟨g', 0, none⟩, by omega, by go_num, rfl, Lib.hid (by rw [HSN.out]; exact hown'), Lib.hid ((HB.out.alloc HB.out.size _).grown hgrow (by have := HB.out.size; simp; omega) (fun k e => (HRW.out.lt k e).1))⟩
            case measure => simp [intOf]; omega
          · have hlt' : ¬ (i : Int) < (n : Int) := by omega
            go_wp2_with fail
            go_ret2
            obtain rfl : i = n := by omega
            have hrow := HRW.out
            rw [List.take_of_length_le (by rw [splitL_len, HN.out]; omega)] at hrow
            exact ⟨A, c, rfl, ⟨W5.heap.size, hrow⟩, HBW.out.trans (HB.out.mono HBW.out.size)⟩

set_option maxRecDepth 100000 in
set_option maxHeartbeats 2000000 in
/-- equal chunks are the same -/
theorem rsame_is (A A' : Option Addr) (l : List Ck) (n c c' : Nat) (w : World) (b b' : Nat) (h1 : Hid (w.ownsRow b 71 4 (.slice A n c) n (rowC l))) (h2 : Hid (w.ownsRow b' 71 4 (.slice A' n c') n (rowC l))) (hn : l.length = n) (hl : n ≤ 5000) :
    Calls Try.prog 49 #[.slice A n c, .slice A' n c'] w fun e w' => e = .returned (.bool true) ∧ Below w.heap.size w w' := by
  go_enter Try.func49, Try.ntmps49
  go_wp2_with fail
  go_loopw [5] (fun iv wr => ∃ i : Nat, i ≤ n ∧ iv = .int .i64 i ∧ Below w.heap.size w wr) (fun iv _ => n - (intOf iv).toNat)
  case atStart => exact ⟨0, by omega, rfl, Below.refl _ _⟩
  case round =>
    obtain ⟨i, hi, rfl, hbel⟩ := hrel
    have i0 : (0 : Int) ≤ (i : Int) := by omega
    by_cases hlt : i < n
    · have hlt' : (i : Int) < (n : Int) := by omega
      obtain ⟨⟨xi, xn, xd, xb⟩, hx⟩ : ∃ x, l[i]? = some x := ⟨_, List.getElem?_eq_getElem (by rw [hn]; exact hlt)⟩
      obtain ⟨e0, e1, e2, e3⟩ := rowC_cells l i _ hx
      dsimp only at e0 e1 e2 e3
      have o1 := own_below h1.out hbel
      have o2 := own_below h2.out hbel
      obtain ⟨g, c1, hv, _, _⟩ := o1.form (by omega)
      injection hv with q1 q2 q3
      subst q1
      obtain ⟨g', c1', hv', _, _⟩ := o2.form (by omega)
      injection hv' with q1' q2' q3'
      subst q1'
      have a0 := o1.cells (g := g) rfl _ _ e0
      have a1 := o1.cells (g := g) rfl _ _ e1
      have a2 := o1.cells (g := g) rfl _ _ e2
      have a3 := o1.cells (g := g) rfl _ _ e3
      have b0 := o2.cells (g := g') rfl _ _ e0
      have b1 := o2.cells (g := g') rfl _ _ e1
      have b2 := o2.cells (g := g') rfl _ _ e2
      have b3 := o2.cells (g := g') rfl _ _ e3
      rw [addr_add] at a0 a1 a2 a3 b0 b1 b2 b3
      clear e0 e1 e2 e3 o1 o2 q2 q3 q2' q3' hx
      go_wp2_with fail
      go_quiet (fail)
      go_wp2_with fail
      go_roundw
      case rel => exact ⟨i + 1, by omega, by go_num, drewN_below hbel _⟩
      case measure => simp [intOf]; omega
    · obtain rfl : i = n := by omega
      have hlt' : ¬ (i : Int) < (i : Int) := by omega
      go_wp2_with fail
      go_ret
      exact ⟨rfl, hbel⟩
end Go.Proofs.Ytlemcijgjebekaa.L7
