/-
  The document's joiner: the whole, and what is taken.
-/
import Derived.Test.YtlemcijgjebekaaRcJoin
import Derived.Test.YtlemcijgjebekaaChTake
import Derived.RegionTactic
import Derived.Test.YtlemcijgjebekaaMChFix
namespace Go.Proofs.Ytlemcijgjebekaa.L7
open Go.RowKit
open L3 L4 L5

theorem kept8 {w w' : World} {k : Nat} {o : Obj} (h : w.heap[k]? = some o) (b : Below w.heap.size w w') : w'.heap[k]? = some o := (b.block _ (Array.getElem?_eq_some_iff.1 h).1).trans h
theorem keep1q {w w' : World} {p : Addr} {v : Value} (h : w.cell? p = some v) (b : Below w.heap.size w w') : w'.cell? p = some v := (b.cell (p := p) (World.block_lt_of_cell? _ _ h)).trans h
theorem jkeep {w w1 w2 : World} {p : Addr} {v : Value} (h : w1.cell? p = some v ∧ Below w.heap.size w w1) (hb : Below w1.heap.size w1 w2) : w2.cell? p = some v ∧ Below w.heap.size w w2 := ⟨keep1q h.1 hb, acc h.2 hb⟩
set_option maxRecDepth 100000 in
set_option maxHeartbeats 4000000 in
theorem rwhole_no (w : World) (g dg : Nat) (A : Option Addr) (n c : Nat) (l : List Ck) (m : Js) (H : Hid (JD w g dg A n c l)) (R : Hid (Rel m l)) (hl : n ≤ 1000) (hm : m.length ≤ 1000) (h : m = [] ∨ cntM m < m.length) :
    Calls Try.prog 58 #[.pointer (some ⟨g, 0, none⟩)] w fun e w' => e = .returned (.tuple #[.string ⟨#[]⟩, .bool false]) ∧ Below w.heap.size w w' := by
  have c1 := H.out.c1
  by_cases hm0 : m = []
  · have hl0 := R.out.nil.1 hm0
    have hn0 : n = 0 := by rw [← H.out.len, hl0]; rfl
    subst hn0
    clear h hm0 hl0
    go_enter Try.func58, Try.ntmps58
    go_wp2_with fail
    go_ret2
    exact ⟨rfl, Below.refl _ _⟩
  · have hc : 0 < (missing m).length := by have := missing_len m; rcases h with h | h; exact absurd h hm0; omega
    obtain ⟨q, hq⟩ : ∃ q, (missing m).length = q := ⟨_, rfl⟩
    rw [hq] at hc
    have hc' : (0 : Int) < (q : Int) := by omega
    have hn0 : ((n : Int) == 0) = false := by
      obtain ⟨x, hx⟩ := R.out.pos hm0
      have := (List.getElem?_eq_some_iff.1 hx).1
      rw [H.out.len] at this
      simp; omega
    have HQ := Lib.hid hq
    clear h hm0 hq
    go_enter Try.func58, Try.ntmps58
    go_wp2_with (go_at_call 57; refine (rmissing_is w g dg A n c l m H R hl hm).mono ?_; rw [HQ.out]; rintro e w1 ⟨A1, c1', rfl, _, hb1⟩)
    go_ret2
    exact ⟨rfl, hb1⟩
set_option maxRecDepth 100000 in
set_option maxHeartbeats 4000000 in
theorem rwhole_all (w : World) (g dg : Nat) (A : Option Addr) (n c : Nat) (l : List Ck) (m : Js) (s : ByteArray) (d : Nat) (H : Hid (JD w g dg A n c l)) (R : Hid (Rel m l)) (hl : n ≤ 1000) (hm : m.length ≤ 1000) (h0 : m ≠ []) (hc : ¬ cntM m < m.length) (hs : Hid (join (bodies m) = s)) (hz : s.size ≤ 1000000) (hd : Hid (digest s = d)) :
    Calls Try.prog 58 #[.pointer (some ⟨g, 0, none⟩)] w fun e w' => (d = dg ∧ e = .returned (.tuple #[.string s, .bool true]) ∧ Below w.heap.size w w') ∨ (d ≠ dg ∧ e = .returned (.tuple #[.string ⟨#[]⟩, .bool false]) ∧ JD w' g dg none 0 0 [] ∧ Lets [g] w w') := by
  have c1 := H.out.c1
  have hq : (missing m).length = 0 := by have := missing_len m; omega
  obtain ⟨x, hx⟩ := R.out.pos h0
  have hn0 : ((n : Int) == 0) = false := by
    have := (List.getElem?_eq_some_iff.1 hx).1
    rw [H.out.len] at this
    simp; omega
  have hxn := R.out.head hx
  obtain ⟨ml, hml⟩ : ∃ ml, m.length = ml := ⟨_, rfl⟩
  rw [hml] at hxn hm
  have HML := Lib.hid hml
  have HX := Lib.hid hx
  have HXN := Lib.hid hxn
  have HQ := Lib.hid hq
  have HC := Lib.hid hc
  clear hq hx hxn hml h0 hc
  go_enter Try.func58, Try.ntmps58
  go_wp2_with (go_at_call 57; refine (rmissing_is w g dg A n c l m H R hl (by rw [HML.out]; exact hm)).mono ?_; rw [HQ.out]; rintro e w1 ⟨A1, c1', rfl, _, hb1⟩)
  go_loopw [4, 5] (fun tv kv wr => ∃ (k : Nat) (t : ByteArray), k ≤ ml ∧ kv = .int .i64 k ∧ tv = .string t ∧ t.size ≤ 1000000 ∧ Hid (join ((bodies m).take k) = t) ∧ Hid (Below w.heap.size w wr)) (fun _ kv _ => ml - (intOf kv).toNat)
  case atStart => exact ⟨0, ⟨#[]⟩, by omega, rfl, rfl, by decide, Lib.hid rfl, Lib.hid hb1⟩
  case round =>
    obtain ⟨k, t, hk, rfl, rfl, htz, HT, HB⟩ := hrel
    have HJ := Lib.hid (H.out.below HB.out)
    have cj := HJ.out.c1
    have ck := HJ.out.c0
    obtain ⟨a, rfl, _, d0, d1, d2, d3⟩ := HJ.out.cells HX.out
    rw [HXN.out] at d1
    simp only [Nat.zero_mul, Nat.zero_add] at d0 d1 d2 d3
    have hn2 : 0 < n := by have := (List.getElem?_eq_some_iff.1 HX.out).1; rw [H.out.len] at this; exact this
    have hn3 : (0 : Int) < (n : Int) := by omega
    have k0 : (0 : Int) ≤ (k : Int) := by omega
    clear d0 d2 d3 c1 hb1
    by_cases hlt : k < ml
    · have k1 : (k : Int) < (ml : Int) := by omega
      obtain ⟨b, hb⟩ := all_there HC.out (i := k) (by rw [HML.out]; exact hlt)
      have HVV : Hid (findB l (k : Int) = some b) := Lib.hid ((R.out.val k).symm.trans (by rw [valM_nat, hb]; rfl))
      have hsn := bodies_take hb
      rw [HT.out] at hsn
      obtain ⟨t2, ht2⟩ : ∃ t2, t ++ b = t2 := ⟨_, rfl⟩
      rw [ht2] at hsn
      have hz2 : t2.size ≤ 1000000 := by
        have := join_le (bodies m) (k + 1)
        rw [hsn, hs.out] at this; omega
      have hbz : t.size + b.size ≤ 1000000 := by rw [← ByteArray.size_append, ht2]; exact hz2
      have hcat := fun W => run_string_add_sum (P := Try.prog) W t b (by omega)
      rw [ht2] at hcat
      have HSN := Lib.hid hsn
      clear hb hsn ht2
      go_wp2_with (go_at_call 108; refine (rbody_is wr g dg _ n c l k (some b) HJ hl HVV).mono ?_; rintro e w2 ⟨rfl, rfl⟩)
      go_roundw
      case rel => exact ⟨k + 1, t2, by omega, by go_num, rfl, hz2, HSN, HB⟩
      case measure => simp [intOf]; omega
    · have k1 : ¬ (k : Int) < (ml : Int) := by omega
      have hts : t = s := by
        rw [← HT.out, ← hs.out, List.take_of_length_le]
        unfold bodies
        rw [List.length_map, HML.out]; omega
      subst hts
      by_cases hdd : d = dg
      · have hde : ((d : Int) != (dg : Int)) = false := by simp; omega
        go_upto_region 9 with fail
        go_region_held3 (fun w' => w'.cell? ⟨g, 0, none⟩ = some (.int .u64 dg) ∧ Below wr.heap.size wr w')
          (first | assumption | exact ⟨ck, (Below.refl _ _).drew⟩ | exact (Below.refl _ _).drew | exact jkeep (by assumption) (by assumption) | exact jkeep (by assumption) ((Below.refl _ _).drew))
          ((go_at_call 41; refine (rdigest_is t d _ hz hd).mono ?_; rintro e w5 ⟨rfl, hb5⟩))
        all_goals
          rename_i hh
          have hbl := hh.2
          clear hh
          go_wp2_with fail
          go_ret2
          exact .inl ⟨hdd, rfl, HB.out.trans (hbl.mono HB.out.size)⟩
      · have hde : ((d : Int) != (dg : Int)) = true := by simp; omega
        go_upto_region 9 with fail
        go_region_held3 (fun w' => w'.cell? ⟨g, 0, none⟩ = some (.int .u64 dg) ∧ Below wr.heap.size wr w')
          (first | assumption | exact ⟨ck, (Below.refl _ _).drew⟩ | exact (Below.refl _ _).drew | exact jkeep (by assumption) (by assumption) | exact jkeep (by assumption) ((Below.refl _ _).drew))
          ((go_at_call 41; refine (rdigest_is t d _ hz hd).mono ?_; rintro e w5 ⟨rfl, hb5⟩))
        all_goals
          rename_i hh
          have hbl := hh.2
          have HJ2 := Lib.hid (HJ.out.below hbl)
          have x1 := HJ2.out.c1
          have x2 := HJ2.out.froz 1
          clear hh
          go_wp2_with fail
          go_ret2
          refine .inr ⟨hdd, rfl, ⟨heap_setCell_same _ g 1 _ _ (.slice none 0 0) HJ2.out.row, ⟨0, World.ownsRow_nil _ _ _ _⟩, rfl, by simp [blk]⟩, ?_⟩
          exact (Lets.ofBelow (HB.out.trans (hbl.mono HB.out.size))).setCell (p := ⟨g, 1, none⟩) (by simp) _
set_option maxRecDepth 100000 in
set_option maxHeartbeats 4000000 in
theorem rtake_form (w : World) (g : Nat) (i n1 : Int) (d : Nat) (b : ByteArray) (hr : Hid (right ⟨i, n1, d, b⟩ = false)) :
    Calls Try.prog 52 #[.pointer (some ⟨g, 0, none⟩), .agg #[.int .i64 i, .int .i64 n1, .int .u64 d, .string b]] w fun e w' => e = .returned (.int .i64 70) ∧ Below w.heap.size w w' := by
  go_enter Try.func52, Try.ntmps52
  go_wp2_with (go_at_call 102; refine (rright_in i n1 d b _ false hr).mono ?_; rintro e w1 ⟨rfl, hb1⟩)
  go_ret
  exact ⟨rfl, (one_box _).trans (hb1.mono (by simp))⟩
set_option maxRecDepth 100000 in
set_option maxHeartbeats 4000000 in
theorem rtake_other (w : World) (g dg : Nat) (A : Option Addr) (n c : Nat) (l : List Ck) (i n1 : Int) (d : Nat) (b : ByteArray) (H : Hid (JD w g dg A n c l)) (hr : Hid (right ⟨i, n1, d, b⟩ = true)) (hd : ((d : Int) != (dg : Int)) = true) :
    Calls Try.prog 52 #[.pointer (some ⟨g, 0, none⟩), .agg #[.int .i64 i, .int .i64 n1, .int .u64 d, .string b]] w fun e w' => e = .returned (.int .i64 71) ∧ Below w.heap.size w w' := by
  have HJ0 := Lib.hid (H.out.below (one_box (.cells #[.int .i64 i, .int .i64 n1, .int .u64 d, .string b] 71)))
  go_enter Try.func52, Try.ntmps52
  go_upto_region 3 with (go_at_call 102; refine (rright_in i n1 d b _ true hr).mono ?_; rintro e w1 ⟨rfl, hb1⟩)
  have HB1 : Hid (Below w.heap.size w w1) := Lib.hid ((one_box _).trans (hb1.mono (by simp)))
  have HJ1 := Lib.hid (HJ0.out.below hb1)
  have HC1 : Hid (w1.heap[w.heap.size]? = some (.cells #[.int .i64 i, .int .i64 n1, .int .u64 d, .string b] 71 (0, 0))) := Lib.hid ((hb1.block _ (by simp)).trans (heap_alloc_new w _))
  clear hb1 HJ0
  obtain ⟨x0, x1, x2, x3, _, _, _, _⟩ := row_facts HC1.out
  have j0 := HJ1.out.c0
  have j1 := HJ1.out.c1
  go_quiet (fail)
  go_wp2_with fail
  go_ret
  exact ⟨rfl, drewN_below HB1.out _⟩
set_option maxRecDepth 100000 in
set_option maxHeartbeats 4000000 in
theorem rtake_num (w : World) (g : Nat) (A : Option Addr) (n c : Nat) (l : List Ck) (i n1 : Int) (d : Nat) (b : ByteArray) (m : Js) (H : Hid (JD w g d A n c l)) (R : Hid (Rel m l)) (hr : Hid (right ⟨i, n1, d, b⟩ = true)) (hm : m ≠ []) (hn1 : n1 ≠ m.length) :
    Calls Try.prog 52 #[.pointer (some ⟨g, 0, none⟩), .agg #[.int .i64 i, .int .i64 n1, .int .u64 d, .string b]] w fun e w' => e = .returned (.int .i64 71) ∧ Below w.heap.size w w' := by
  have HM := Lib.hid hm
  have HNE := Lib.hid hn1
  clear hm hn1
  have HJ0 := Lib.hid (H.out.below (one_box (.cells #[.int .i64 i, .int .i64 n1, .int .u64 d, .string b] 71)))
  go_enter Try.func52, Try.ntmps52
  go_upto_region 3 with (go_at_call 102; refine (rright_in i n1 d b _ true hr).mono ?_; rintro e w1 ⟨rfl, hb1⟩)
  have HB1 : Hid (Below w.heap.size w w1) := Lib.hid ((one_box _).trans (hb1.mono (by simp)))
  have HJ1 := Lib.hid (HJ0.out.below hb1)
  have HC1 : Hid (w1.heap[w.heap.size]? = some (.cells #[.int .i64 i, .int .i64 n1, .int .u64 d, .string b] 71 (0, 0))) := Lib.hid ((hb1.block _ (by simp)).trans (heap_alloc_new w _))
  clear hb1 HJ0
  obtain ⟨x0, x1, x2, x3, _, _, _, _⟩ := row_facts HC1.out
  have j0 := HJ1.out.c0
  have j1 := HJ1.out.c1
  have hde : ((d : Int) != (d : Int)) = false := by simp
  go_quiet (fail)
  go_wp2_with fail
  go_loopw [5] (fun kv wr => ∃ k : Nat, k ≤ n ∧ kv = .int .i64 k ∧ Hid (k = 0) ∧ Hid (Below w1.heap.size w1 wr)) (fun kv _ => n - (intOf kv).toNat)
  case atStart => exact ⟨0, by omega, rfl, Lib.hid rfl, Lib.hid (drewN_below (Below.refl _ _) _)⟩
  case round =>
    obtain ⟨k, hk, rfl, HN, HB⟩ := hrel
    have HJ := Lib.hid (HJ1.out.below HB.out)
    have HC := Lib.hid (kept8 HC1.out HB.out)
    obtain ⟨y0, y1, y2, y3, _, _, _, _⟩ := row_facts HC.out
    have cj := HJ.out.c1
    have k0 : (0 : Int) ≤ (k : Int) := by omega
    by_cases hlt : k < n
    · have k1 : (k : Int) < (n : Int) := by omega
      obtain ⟨z, hz⟩ : ∃ z, l[k]? = some z := ⟨_, List.getElem?_eq_getElem (by rw [H.out.len]; exact hlt)⟩
      obtain ⟨a, rfl, _, d0, d1, d2, d3⟩ := HJ.out.cells hz
      have hzn := R.out.num z (List.mem_of_getElem? hz)
      have hzu := R.out.uni z (List.mem_of_getElem? hz)
      obtain ⟨zi, zn, zd, zb⟩ := z
      dsimp only at d0 d1 d2 d3 hzn hzu
      have HZ := Lib.hid hz
      have HZN := Lib.hid hzn.1
      have HZU := Lib.hid hzu
      clear hz hzn hzu
      have hne : (zn != n1) = true := by rw [HZN.out]; simpa using (fun e => HNE.out e.symm)
      go_wp2_with fail
      go_quiet (fail)
      go_wp2_with fail
      go_ret
      exact ⟨rfl, HB1.out.trans ((drewN_below HB.out _).mono HB1.out.size)⟩
    · exfalso
      obtain ⟨z, hz⟩ := R.out.pos HM.out
      have := (List.getElem?_eq_some_iff.1 hz).1
      rw [H.out.len] at this
      have := HN.out
      omega
set_option maxRecDepth 100000 in
set_option maxHeartbeats 4000000 in
theorem rtake_there (w : World) (g : Nat) (A : Option Addr) (n c : Nat) (l : List Ck) (i n1 : Int) (d : Nat) (b : ByteArray) (m : Js) (x : ByteArray) (E : Int) (H : Hid (JD w g d A n c l)) (R : Hid (Rel m l)) (hr : Hid (right ⟨i, n1, d, b⟩ = true)) (hn1 : n1 = m.length) (hv : Hid (valM m i = some x)) (hl : n ≤ 1000) (hE : Hid ((if x = b then 0 else 71 : Int) = E)) :
    Calls Try.prog 52 #[.pointer (some ⟨g, 0, none⟩), .agg #[.int .i64 i, .int .i64 n1, .int .u64 d, .string b]] w fun e w' => e = .returned (.int .i64 E) ∧ Below w.heap.size w w' := by
  have HNE := Lib.hid hn1
  clear hn1
  have HF : Hid (findB l i = some x) := Lib.hid ((R.out.val i).symm.trans hv.out)
  have HJ0 := Lib.hid (H.out.below (one_box (.cells #[.int .i64 i, .int .i64 n1, .int .u64 d, .string b] 71)))
  go_enter Try.func52, Try.ntmps52
  go_upto_region 3 with (go_at_call 102; refine (rright_in i n1 d b _ true hr).mono ?_; rintro e w1 ⟨rfl, hb1⟩)
  have HB1 : Hid (Below w.heap.size w w1) := Lib.hid ((one_box _).trans (hb1.mono (by simp)))
  have HJ1 := Lib.hid (HJ0.out.below hb1)
  have HC1 : Hid (w1.heap[w.heap.size]? = some (.cells #[.int .i64 i, .int .i64 n1, .int .u64 d, .string b] 71 (0, 0))) := Lib.hid ((hb1.block _ (by simp)).trans (heap_alloc_new w _))
  clear hb1 HJ0
  obtain ⟨x0, x1, x2, x3, _, _, _, _⟩ := row_facts HC1.out
  have j0 := HJ1.out.c0
  have j1 := HJ1.out.c1
  have hde : ((d : Int) != (d : Int)) = false := by simp
  go_quiet (fail)
  go_wp2_with fail
  have hxb : x = b ∨ x ≠ b := Classical.em _
  have HXB := Lib.hid hxb
  clear hxb
  go_loopw [5] (fun kv wr => ∃ k : Nat, k ≤ n ∧ kv = .int .i64 k ∧ Hid (x = b ∨ ∀ y ∈ l.take k, y.i ≠ i) ∧ Hid (Below w1.heap.size w1 wr)) (fun kv _ => n - (intOf kv).toNat)
  case atStart => exact ⟨0, by omega, rfl, Lib.hid (.inr (by simp)), Lib.hid (drewN_below (Below.refl _ _) _)⟩
  case round =>
    obtain ⟨k, hk, rfl, HN, HB⟩ := hrel
    have HJ := Lib.hid (HJ1.out.below HB.out)
    have HC := Lib.hid (kept8 HC1.out HB.out)
    obtain ⟨y0, y1, y2, y3, _, _, _, _⟩ := row_facts HC.out
    have cj := HJ.out.c1
    have k0 : (0 : Int) ≤ (k : Int) := by omega
    by_cases hlt : k < n
    · have k1 : (k : Int) < (n : Int) := by omega
      obtain ⟨z, hz⟩ : ∃ z, l[k]? = some z := ⟨_, List.getElem?_eq_getElem (by rw [H.out.len]; exact hlt)⟩
      obtain ⟨a, rfl, _, d0, d1, d2, d3⟩ := HJ.out.cells hz
      have hzn := R.out.num z (List.mem_of_getElem? hz)
      have hzu := R.out.uni z (List.mem_of_getElem? hz)
      obtain ⟨zi, zn, zd, zb⟩ := z
      dsimp only at d0 d1 d2 d3 hzn hzu
      have HZ := Lib.hid hz
      have HZN := Lib.hid hzn.1
      have HZU := Lib.hid hzu
      clear hz hzn hzu
      have hne : (zn != n1) = false := by rw [HZN.out, HNE.out]; simp
      by_cases hzi : zi = i
      · have hzi' : (zi == i) = true := by simpa using hzi
        have hzx : zb = x := by
          have := HZU.out
          rw [hzi, HF.out] at this
          exact (Option.some.inj this).symm
        by_cases hb : x = b
        · have hbb : (zb.toList == b.toList) = true := by rw [hzx, hb]; simp
          have HB2 := Lib.hid hb
          clear hzi hzx hb
          go_wp2_with fail
          go_quiet (fail)
          go_wp2_with fail
          go_roundw
          case rel => exact ⟨k + 1, by omega, by go_num, Lib.hid (.inl HB2.out), Lib.hid (drewN_below HB.out _)⟩
          case measure => simp [intOf]; omega
        · have hbb : (zb.toList == b.toList) = false := bytes_ne (by rw [hzx]; exact hb)
          have hE1 : E = 71 := by rw [← hE.out, if_neg hb]
          have HE1 := Lib.hid hE1
          clear hzi hzx hb hE1
          go_wp2_with fail
          go_quiet (fail)
          go_wp2_with fail
          go_ret
          rw [HE1.out]
          exact ⟨rfl, HB1.out.trans ((drewN_below HB.out _).mono HB1.out.size)⟩
      · have hzi' : (zi == i) = false := by simpa using hzi
        have HZI := Lib.hid hzi
        clear hzi
        go_wp2_with fail
        go_quiet (fail)
        go_wp2_with fail
        go_roundw
        case rel =>
          refine ⟨k + 1, by omega, by go_num, Lib.hid ?_, Lib.hid (drewN_below HB.out _)⟩
          rcases HN.out with q | q
          · exact .inl q
          · right
            intro y hy
            rw [List.take_add_one, HZ.out] at hy
            rcases List.mem_append.1 hy with hy | hy
            · exact q y hy
            · have : y = ⟨zi, zn, zd, zb⟩ := by simpa using hy
              rw [this]; exact HZI.out
        case measure => simp [intOf]; omega
    · have k1 : ¬ (k : Int) < (n : Int) := by omega
      obtain ⟨q0, hq0, hqi, hqb⟩ := findB_mem HF.out
      have hxb : x = b := by
        rcases HN.out with q | q
        · exact q
        · rw [List.take_of_length_le (by rw [H.out.len]; omega)] at q
          exact absurd hqi (q q0 hq0)
      have HE0 : Hid (E = 0) := Lib.hid (by rw [← hE.out, if_pos hxb])
      have HQ0 := Lib.hid (And.intro hq0 hqi)
      clear hq0 hqi hqb hxb
      have HBW := HB
      go_wp2_with fail
      go_loopw [6] (fun kv wq => ∃ k : Nat, k ≤ n ∧ kv = .int .i64 k ∧ Hid (∀ y ∈ l.take k, y.i ≠ i) ∧ Hid (Below w1.heap.size w1 wq)) (fun kv _ => n - (intOf kv).toNat)
      case atStart => exact ⟨0, by omega, rfl, Lib.hid (by simp), HBW⟩
      case round =>
        clear HJ HC y0 y1 y2 y3 cj HN HB
        obtain ⟨k, hk, rfl, HN, HB⟩ := hrel
        have HJ := Lib.hid (HJ1.out.below HB.out)
        have HC := Lib.hid (kept8 HC1.out HB.out)
        obtain ⟨y0, y1, y2, y3, _, _, _, _⟩ := row_facts HC.out
        have cj := HJ.out.c1
        have k0 : (0 : Int) ≤ (k : Int) := by omega
        by_cases hlt : k < n
        · have k1 : (k : Int) < (n : Int) := by omega
          obtain ⟨z, hz⟩ : ∃ z, l[k]? = some z := ⟨_, List.getElem?_eq_getElem (by rw [H.out.len]; exact hlt)⟩
          obtain ⟨a, rfl, _, d0, d1, d2, d3⟩ := HJ.out.cells hz
          have hzn := R.out.num z (List.mem_of_getElem? hz)
          have hzu := R.out.uni z (List.mem_of_getElem? hz)
          obtain ⟨zi, zn, zd, zb⟩ := z
          dsimp only at d0 d1 d2 d3 hzn hzu
          have HZ := Lib.hid hz
          have HZN := Lib.hid hzn.1
          have HZU := Lib.hid hzu
          clear hz hzn hzu
          by_cases hzi : zi = i
          · have hzi' : (zi == i) = true := by simpa using hzi
            clear hzi
            go_wp2_with fail
            go_quiet (fail)
            go_wp2_with fail
            go_ret
            rw [HE0.out]
            exact ⟨rfl, HB1.out.trans ((drewN_below HB.out _).mono HB1.out.size)⟩
          · have hzi' : (zi == i) = false := by simpa using hzi
            have HZI := Lib.hid hzi
            clear hzi
            go_wp2_with fail
            go_quiet (fail)
            go_wp2_with fail
            go_roundw
            case rel =>
              refine ⟨k + 1, by omega, by go_num, Lib.hid ?_, Lib.hid (drewN_below HB.out _)⟩
              intro y hy
              rw [List.take_add_one, HZ.out] at hy
              rcases List.mem_append.1 hy with hy | hy
              · exact HN.out y hy
              · have : y = ⟨zi, zn, zd, zb⟩ := by simpa using hy
                rw [this]; exact HZI.out
            case measure => simp [intOf]; omega
        · exfalso
          have q := HN.out
          rw [List.take_of_length_le (by rw [H.out.len]; omega)] at q
          exact q _ HQ0.out.1 HQ0.out.2
/-- what Take tells of a further chunk, and what the joiner has then -/
def TakeP (w : World) (g d : Nat) (A : Option Addr) (n : Nat) (l : List Ck) (x : Ck) (e : Ending) (w' : World) : Prop :=
  e = .returned (.int .i64 0) ∧ (∃ A' c', JD w' g d A' (n + 1) c' (l ++ [x]) ∧ ∀ k, blk A' = some k → blk A = some k ∨ w.heap.size ≤ k) ∧ But g (blk A) w w'
theorem jd_taken {w W w2 : World} {g d : Nat} {A : Option Addr} {n c gg cc : Nat} {l : List Ck} {i n1 : Int} {b : ByteArray} (hj : JD W g d A n c l) (hB : Below w.heap.size w W)
    (hbut : But g (blk A) W (w2.setCell ⟨g, 1, none⟩ (.slice (some ⟨gg, 0, none⟩) (n + 1) cc))) (hrow : w2.heap[g]? = some (.cells #[.int .u64 d, .slice A n c] 85 (0, 0)))
    (ho : w2.ownsRow 0 71 4 (.slice (some ⟨gg, 0, none⟩) (n + 1) cc) (n + 1) (rowC l ++ [.int .i64 i, .int .i64 n1, .int .u64 d, .string b])) (hat : (Value.slice A n c).ownBlock = some gg ∨ gg = W.heap.size + 1) :
    TakeP w g d A n l ⟨i, n1, d, b⟩ (.returned (.int .i64 0)) (w2.setCell ⟨g, 1, none⟩ (.slice (some ⟨gg, 0, none⟩) (n + 1) cc)) := by
  have hlt := hj.lt
  have hne : gg ≠ g := by
    rcases hat with e | e
    · intro q
      rw [ownBlock_blk, q] at e
      exact hj.ne e
    · omega
  refine ⟨rfl, ⟨some ⟨gg, 0, none⟩, cc, ⟨heap_setCell_same _ g 1 _ _ _ hrow, ⟨0, ?_⟩, by rw [List.length_append, hj.len]; rfl, fun e => hne (by injection e)⟩, fun k e => ?_⟩, (But.ofBelow hB).trans hbut (fun k e => .inl e)⟩
  · have e : rowC (l ++ [⟨i, n1, d, b⟩]) = rowC l ++ [.int .i64 i, .int .i64 n1, .int .u64 d, .string b] := by rw [rowC_app]; rfl
    rw [e]
    refine ⟨ho.1, ?_⟩
    rcases ho.2 with q | ⟨g', cap', cur, q, q1, hh, q2⟩
    · exact .inl q
    · have hgg : g' = gg := by injection q with q; injection q with q; injection q with q; exact q.symm
      exact .inr ⟨g', cap', cur, q, q1, (Below.heap_setCell _ _ _ _ (by dsimp only; omega)).trans hh, q2⟩
  · have hk : gg = k := by injection e
    subst hk
    rcases hat with q | q
    · left; rw [ownBlock_blk] at q; exact q
    · right; have := hB.size; omega
set_option maxRecDepth 100000 in
set_option maxHeartbeats 4000000 in
theorem rtake_new (w : World) (g : Nat) (A : Option Addr) (n c : Nat) (l : List Ck) (i n1 : Int) (d : Nat) (b : ByteArray) (m : Js) (H : Hid (JD w g d A n c l)) (R : Hid (Rel m l)) (hr : Hid (right ⟨i, n1, d, b⟩ = true)) (hz : m = [] ∨ n1 = m.length) (hv : Hid (valM m i = none)) (hl : n ≤ 1000) :
    Calls Try.prog 52 #[.pointer (some ⟨g, 0, none⟩), .agg #[.int .i64 i, .int .i64 n1, .int .u64 d, .string b]] w (TakeP w g d A n l ⟨i, n1, d, b⟩) := by
  obtain ⟨i0, hi0, hz0, hz1, hz2⟩ := info_parts chunkInfo
  have HNE := Lib.hid hz
  clear hz
  have HF : Hid (∀ y ∈ l, y.i ≠ i) := Lib.hid (fun y hy e => by
    have h1 := R.out.uni y hy
    rw [e, ← R.out.val, hv.out] at h1
    cases h1)
  have HJ0 := Lib.hid (H.out.below (one_box (.cells #[.int .i64 i, .int .i64 n1, .int .u64 d, .string b] 71)))
  go_enter Try.func52, Try.ntmps52
  go_upto_region 3 with (go_at_call 102; refine (rright_in i n1 d b _ true hr).mono ?_; rintro e w1 ⟨rfl, hb1⟩)
  have HB1 : Hid (Below w.heap.size w w1) := Lib.hid ((one_box _).trans (hb1.mono (by simp)))
  have HJ1 := Lib.hid (HJ0.out.below hb1)
  have HC1 : Hid (w1.heap[w.heap.size]? = some (.cells #[.int .i64 i, .int .i64 n1, .int .u64 d, .string b] 71 (0, 0))) := Lib.hid ((hb1.block _ (by simp)).trans (heap_alloc_new w _))
  clear hb1 HJ0
  obtain ⟨x0, x1, x2, x3, _, _, _, _⟩ := row_facts HC1.out
  have j0 := HJ1.out.c0
  have j1 := HJ1.out.c1
  have hde : ((d : Int) != (d : Int)) = false := by simp
  go_quiet (fail)
  go_wp2_with fail
  go_loopw [5] (fun kv wr => ∃ k : Nat, k ≤ n ∧ kv = .int .i64 k ∧ Hid (True) ∧ Hid (Below w1.heap.size w1 wr)) (fun kv _ => n - (intOf kv).toNat)
  case atStart => exact ⟨0, by omega, rfl, Lib.hid trivial, Lib.hid (drewN_below (Below.refl _ _) _)⟩
  case round =>
    obtain ⟨k, hk, rfl, HN, HB⟩ := hrel
    have HJ := Lib.hid (HJ1.out.below HB.out)
    have HC := Lib.hid (kept8 HC1.out HB.out)
    obtain ⟨y0, y1, y2, y3, _, _, _, _⟩ := row_facts HC.out
    have cj := HJ.out.c1
    have k0 : (0 : Int) ≤ (k : Int) := by omega
    by_cases hlt : k < n
    · have k1 : (k : Int) < (n : Int) := by omega
      obtain ⟨z, hz⟩ : ∃ z, l[k]? = some z := ⟨_, List.getElem?_eq_getElem (by rw [H.out.len]; exact hlt)⟩
      obtain ⟨a, rfl, _, d0, d1, d2, d3⟩ := HJ.out.cells hz
      have hzn := R.out.num z (List.mem_of_getElem? hz)
      have hzu := R.out.uni z (List.mem_of_getElem? hz)
      obtain ⟨zi, zn, zd, zb⟩ := z
      dsimp only at d0 d1 d2 d3 hzn hzu
      have HZ := Lib.hid hz
      have HZN := Lib.hid hzn.1
      have HZU := Lib.hid hzu
      clear hz hzn hzu
      have hne : (zn != n1) = false := by
        rcases HNE.out with q | q
        · have := R.out.nil.1 q
          have h2 := (List.getElem?_eq_some_iff.1 HZ.out).1
          rw [this] at h2
          simp at h2
        · rw [HZN.out, q]; simp
      have hzi' : (zi == i) = false := by simpa using HF.out _ (List.mem_of_getElem? HZ.out)
      go_wp2_with fail
      go_quiet (fail)
      go_wp2_with fail
      go_roundw
      case rel => exact ⟨k + 1, by omega, by go_num, Lib.hid trivial, Lib.hid (drewN_below HB.out _)⟩
      case measure => simp [intOf]; omega
    · have k1 : ¬ (k : Int) < (n : Int) := by omega
      have HBW := HB
      go_wp2_with fail
      go_loopw [6] (fun kv wq => ∃ k : Nat, k ≤ n ∧ kv = .int .i64 k ∧ Hid True ∧ Hid (Below w1.heap.size w1 wq)) (fun kv _ => n - (intOf kv).toNat)
      case atStart => exact ⟨0, by omega, rfl, Lib.hid trivial, HBW⟩
      case round =>
        clear HJ HC y0 y1 y2 y3 cj HN HB
        obtain ⟨k, hk, rfl, HN, HB⟩ := hrel
        have HJ := Lib.hid (HJ1.out.below HB.out)
        have HC := Lib.hid (kept8 HC1.out HB.out)
        obtain ⟨y0, y1, y2, y3, _, _, _, _⟩ := row_facts HC.out
        have cj := HJ.out.c1
        have k0 : (0 : Int) ≤ (k : Int) := by omega
        by_cases hlt : k < n
        · have k1 : (k : Int) < (n : Int) := by omega
          obtain ⟨z, hz⟩ : ∃ z, l[k]? = some z := ⟨_, List.getElem?_eq_getElem (by rw [H.out.len]; exact hlt)⟩
          obtain ⟨a, rfl, _, d0, d1, d2, d3⟩ := HJ.out.cells hz
          have hzn := R.out.num z (List.mem_of_getElem? hz)
          have hzu := R.out.uni z (List.mem_of_getElem? hz)
          obtain ⟨zi, zn, zd, zb⟩ := z
          dsimp only at d0 d1 d2 d3 hzn hzu
          have HZ := Lib.hid hz
          have HZN := Lib.hid hzn.1
          have HZU := Lib.hid hzu
          clear hz hzn hzu
          have hzi' : (zi == i) = false := by simpa using HF.out _ (List.mem_of_getElem? HZ.out)
          go_wp2_with fail
          go_quiet (fail)
          go_wp2_with fail
          go_roundw
          case rel => exact ⟨k + 1, by omega, by go_num, Lib.hid trivial, Lib.hid (drewN_below HB.out _)⟩
          case measure => simp [intOf]; omega
        · have k1 : ¬ (k : Int) < (n : Int) := by omega
          go_upto_region 15 with fail
          obtain ⟨W, hW⟩ : ∃ W, wr = W := ⟨_, rfl⟩
          rw [hW] at HB HJ HC y0 y1 y2 y3 cj ⊢
          have HBW2 : Hid (Below w.heap.size w W) := Lib.hid (HB1.out.trans (HB.out.mono HB1.out.size))
          have HJW := HJ
          have HR := Lib.hid HJ.out.row
          have HNB := Lib.hid HJ.out.ne
          obtain ⟨base, hown⟩ := HJ.out.own
          have HO := Lib.hid (L3.own_low hown (Nat.zero_le _))
          have hwz : w.heap.size ≠ g := by have := H.out.lt; omega
          have hwb : some w.heap.size ≠ blk A := fun e => by
            obtain ⟨base', ho'⟩ := H.out.own
            have := ho'.lt w.heap.size (by rw [ownBlock_blk]; exact e.symm)
            omega
          have HT : Hid (∀ w', But g (blk A) W w' → (w'.cell? ⟨w.heap.size, 0, none⟩ = some (.int .i64 i) ∧ w'.cell? ⟨w.heap.size, 1, none⟩ = some (.int .i64 n1) ∧ w'.cell? ⟨w.heap.size, 2, none⟩ = some (.int .u64 d) ∧ w'.cell? ⟨w.heap.size, 3, none⟩ = some (.string b)) ∧ But g (blk A) W w') := Lib.hid (fun w' q => ⟨⟨q.cell y0 hwz hwb, q.cell y1 hwz hwb, q.cell y2 hwz hwb, q.cell y3 hwz hwb⟩, q⟩)
          have hgW := HJ.out.lt
          clear y0 y1 y2 y3 hown
          refine wp_region_held_drew (S := fun w' => (w'.cell? ⟨w.heap.size, 0, none⟩ = some (.int .i64 i) ∧ w'.cell? ⟨w.heap.size, 1, none⟩ = some (.int .i64 n1) ∧ w'.cell? ⟨w.heap.size, 2, none⟩ = some (.int .u64 d) ∧ w'.cell? ⟨w.heap.size, 3, none⟩ = some (.string b)) ∧ But g (blk A) W w') (by kernel_rfl) (HT.out _ (But.ofBelow (Below.refl _ _).drew)) (fun hHeld => ?_)
          refine wpAnyH_take (i := 0) (oi := ?o1) (v := ?v1) ?a1 (by kernel_rfl) (by kernel_rfl) (by kernel_rfl) ?q1 (Or.inl ⟨?g1, ?y1⟩) (by assumption) ?r1; (case' a1 => (simp only [List.getElem?_toArray, List.getElem?_cons_zero]; rfl)); (case' q1 => (exact fun _ _ _ h => h)); (case' g1 => rfl); (case' y1 => (intro w hSw; (try dsimp only at hSw); go_simp; try with_reducible rfl)); (case' r1 => (try simp only [Act.put, List.setIfInBounds_toArray, List.set_cons_zero, List.set_cons_succ]))
          refine wpAnyH_take (i := 1) (oi := ?o2) (v := ?v2) ?a2 (by kernel_rfl) (by kernel_rfl) (by kernel_rfl) ?q2 (Or.inl ⟨?g2, ?y2⟩) (by assumption) ?r2; (case' a2 => (simp only [List.getElem?_toArray, List.getElem?_cons_zero, List.getElem?_cons_succ]; rfl)); (case' q2 => (exact fun _ _ _ h => h)); (case' g2 => rfl); (case' y2 => (intro w hSw; (try dsimp only at hSw); go_simp; try with_reducible rfl)); (case' r2 => (try simp only [Act.put, List.setIfInBounds_toArray, List.set_cons_zero, List.set_cons_succ]))
          refine wpAnyH_take (i := 2) (oi := ?o3) (v := ?v3) ?a3 (by kernel_rfl) (by kernel_rfl) (by kernel_rfl) ?q3 (Or.inl ⟨?g3, ?y3⟩) (by assumption) ?r3; (case' a3 => (simp only [List.getElem?_toArray, List.getElem?_cons_zero, List.getElem?_cons_succ]; rfl)); (case' q3 => (exact fun _ _ _ h => h)); (case' g3 => rfl); (case' y3 => (intro w hSw; (try dsimp only at hSw); go_simp; try with_reducible rfl)); (case' r3 => (try simp only [Act.put, List.setIfInBounds_toArray, List.set_cons_zero, List.set_cons_succ]))
          refine wpAnyH_take (i := 3) (oi := ?o4) (v := ?v4) ?a4 (by kernel_rfl) (by kernel_rfl) (by kernel_rfl) ?q4 (Or.inl ⟨?g4, ?y4⟩) (by assumption) ?r4; (case' a4 => (simp only [List.getElem?_toArray, List.getElem?_cons_zero, List.getElem?_cons_succ]; rfl)); (case' q4 => (exact fun _ _ _ h => h)); (case' g4 => rfl); (case' y4 => (intro w hSw; (try dsimp only at hSw); go_simp; try with_reducible rfl)); (case' r4 => (try simp only [Act.put, List.setIfInBounds_toArray, List.set_cons_zero, List.set_cons_succ]))
          refine wpAnyH_take (i := 5) (oi := ?o5) (v := ?v5) ?a5 (by kernel_rfl) (by kernel_rfl) (by kernel_rfl) ?q5 (Or.inl ⟨?g5, ?y5⟩) (by assumption) ?r5; (case' a5 => (simp only [List.getElem?_toArray, List.getElem?_cons_zero, List.getElem?_cons_succ]; rfl)); (case' q5 => (exact fun _ _ _ h => h)); (case' g5 => rfl); (case' y5 => (intro w hSw; (try dsimp only at hSw); go_simp; try with_reducible rfl)); (case' r5 => (try simp only [Act.put, List.setIfInBounds_toArray, List.set_cons_zero, List.set_cons_succ]))
          refine wpAnyH_ready (rs := [4, 6]) (by kernel_rfl) (by simp) ?_
          refine AllReadyH.cons (o := ?o6) ?a6 (fun K hK => ?s6) ?m6; (case' a6 => (simp only [List.getElem?_toArray, List.getElem?_cons_zero, List.getElem?_cons_succ]; rfl))
          case s6 =>
            go_simp
            refine hK.out _ _ (hHeld) (fun hHeld => ?_)
            clear hK K
            (try simp only [Act.put, List.setIfInBounds_toArray, List.set_cons_zero, List.set_cons_succ])
            refine wpAnyH_ready (rs := [6]) (by kernel_rfl) (by simp) ?_
            refine AllReadyH.cons (o := ?o7) ?a7 (fun K hK => ?s7) ?m7; (case' a7 => (simp only [List.getElem?_toArray, List.getElem?_cons_zero, List.getElem?_cons_succ]; rfl))
            case s7 =>
              go_simp
              refine hK.out _ _ (HT.out _ (hHeld.2.alloc _)) (fun hHeld => ?_)
              clear hK K
              (try simp only [Act.put, List.setIfInBounds_toArray, List.set_cons_zero, List.set_cons_succ])
              refine wpAnyH_ready (rs := [7]) (by kernel_rfl) (by simp) ?_
              refine AllReadyH.cons (o := ?o8) ?a8 (fun K hK => ?s8) ?m8; (case' a8 => (simp only [List.getElem?_toArray, List.getElem?_cons_zero, List.getElem?_cons_succ]; rfl))
              case s8 =>
                refine step_append_lies _ (by rfl) _ _ _ (by rfl) 0 71 i0 _ 4 40 Try.underlying72 hi0 hz0 hz1 hz2 rfl (by omega) (.slice A n c) n (rowC l) (by rfl) ((own_below HO.out (Below.refl _ _).drew).alloc _) ⟨W.heap.size, 0, none⟩ 1 1 [.int .i64 i, .int .i64 n1, .int .u64 d, .string b] (by rfl) (by rfl) (World.news_of_block (cs := #[.int .i64 i, .int .i64 n1, .int .u64 d, .string b]) (t := 71) (fr := (0, 0)) (heap_alloc_new W.drew _)) (by simp [Value.oneCell']) (by omega) (by unfold maxLen; omega) (by omega) (Nat.zero_le _) (W.heap.size + 1) (by simp) ?_
                intro gg cc w2 hown2 hgrow hat hltg
                have hrow := grown_row HR.out hgrow HNB.out
                have x9 := (cell_of_row _ _ 1 _ _ _ hrow).trans rfl
                have y9 := frozen_of_row _ _ 1 _ _ hrow
                have HROW := Lib.hid hrow
                clear hrow
                refine hK.out _ _ (HT.out _ (but_grown hgrow)) (fun hHeld => ?_)
                clear hK K
                (try simp only [Act.put, List.setIfInBounds_toArray, List.set_cons_zero, List.set_cons_succ])
                refine wpAnyH_take (i := 8) (oi := ?o9) (v := ?v9) ?a9 (by kernel_rfl) (by kernel_rfl) (by kernel_rfl) ?q9 (Or.inl ⟨?g9, ?y9⟩) (by assumption) ?r9; (case' a9 => (simp only [List.getElem?_toArray, List.getElem?_cons_zero, List.getElem?_cons_succ]; rfl)); (case' q9 => (exact fun _ _ _ h => h)); (case' g9 => rfl); (case' y9 => (intro w hSw; (try dsimp only at hSw); go_simp; try with_reducible rfl)); (case' r9 => (try simp only [Act.put, List.setIfInBounds_toArray, List.set_cons_zero, List.set_cons_succ]))
                refine wpAnyH_take (i := 9) (oi := ?o10) (v := ?v10) ?a10 (by kernel_rfl) (by kernel_rfl) (by kernel_rfl) ?q10 (Or.inl ⟨?g10, ?y10⟩) (by assumption) ?r10; (case' a10 => (simp only [List.getElem?_toArray, List.getElem?_cons_zero, List.getElem?_cons_succ]; rfl)); (case' q10 => (exact fun _ _ _ h => h)); (case' g10 => rfl); (case' y10 => (intro w hSw; (try dsimp only at hSw); go_simp; try with_reducible rfl)); (case' r10 => (try simp only [Act.put, List.setIfInBounds_toArray, List.set_cons_zero, List.set_cons_succ]))
                refine wpAnyH_ready (rs := [10]) (by kernel_rfl) (by simp) ?_
                refine AllReadyH.cons (o := ?o11) ?a11 (fun K hK => ?s11) ?m11; (case' a11 => (simp only [List.getElem?_toArray, List.getElem?_cons_zero, List.getElem?_cons_succ]; rfl))
                case s11 =>
                  go_simp
                  refine hK.out _ _ (HT.out _ (hHeld.2.setCell (.inl rfl) _)) (fun hHeld => ?_)
                  clear hK K
                  (try simp only [Act.put, List.setIfInBounds_toArray, List.set_cons_zero, List.set_cons_succ])
                  refine wpAnyH_done (by kernel_rfl) ?_ _
                  go_wp2_with fail
                  go_ret
                  exact jd_taken HJW.out HBW2.out hHeld.2 HROW.out hown2 hat
                exact AllReadyH.nil
              exact AllReadyH.nil
            exact AllReadyH.nil
          refine AllReadyH.cons (o := ?o12) ?a12 (fun K hK => ?s12) ?m12; (case' a12 => (simp only [List.getElem?_toArray, List.getElem?_cons_zero, List.getElem?_cons_succ]; rfl))
          case s12 =>
            go_simp
            refine hK.out _ _ (HT.out _ (hHeld.2.alloc _)) (fun hHeld => ?_)
            clear hK K
            (try simp only [Act.put, List.setIfInBounds_toArray, List.set_cons_zero, List.set_cons_succ])
            refine wpAnyH_ready (rs := [4]) (by kernel_rfl) (by simp) ?_
            refine AllReadyH.cons (o := ?o13) ?a13 (fun K hK => ?s13) ?m13; (case' a13 => (simp only [List.getElem?_toArray, List.getElem?_cons_zero, List.getElem?_cons_succ]; rfl))
            case s13 =>
              go_simp
              refine hK.out _ _ (hHeld) (fun hHeld => ?_)
              clear hK K
              (try simp only [Act.put, List.setIfInBounds_toArray, List.set_cons_zero, List.set_cons_succ])
              refine wpAnyH_ready (rs := [7]) (by kernel_rfl) (by simp) ?_
              refine AllReadyH.cons (o := ?o14) ?a14 (fun K hK => ?s14) ?m14; (case' a14 => (simp only [List.getElem?_toArray, List.getElem?_cons_zero, List.getElem?_cons_succ]; rfl))
              case s14 =>
                refine step_append_lies _ (by rfl) _ _ _ (by rfl) 0 71 i0 _ 4 40 Try.underlying72 hi0 hz0 hz1 hz2 rfl (by omega) (.slice A n c) n (rowC l) (by rfl) ((own_below HO.out (Below.refl _ _).drew).alloc _) ⟨W.heap.size, 0, none⟩ 1 1 [.int .i64 i, .int .i64 n1, .int .u64 d, .string b] (by rfl) (by rfl) (World.news_of_block (cs := #[.int .i64 i, .int .i64 n1, .int .u64 d, .string b]) (t := 71) (fr := (0, 0)) (heap_alloc_new W.drew _)) (by simp [Value.oneCell']) (by omega) (by unfold maxLen; omega) (by omega) (Nat.zero_le _) (W.heap.size + 1) (by simp) ?_
                intro gg cc w2 hown2 hgrow hat hltg
                have hrow := grown_row HR.out hgrow HNB.out
                have x9 := (cell_of_row _ _ 1 _ _ _ hrow).trans rfl
                have y9 := frozen_of_row _ _ 1 _ _ hrow
                have HROW := Lib.hid hrow
                clear hrow
                refine hK.out _ _ (HT.out _ (but_grown hgrow)) (fun hHeld => ?_)
                clear hK K
                (try simp only [Act.put, List.setIfInBounds_toArray, List.set_cons_zero, List.set_cons_succ])
                refine wpAnyH_take (i := 8) (oi := ?o15) (v := ?v15) ?a15 (by kernel_rfl) (by kernel_rfl) (by kernel_rfl) ?q15 (Or.inl ⟨?g15, ?y15⟩) (by assumption) ?r15; (case' a15 => (simp only [List.getElem?_toArray, List.getElem?_cons_zero, List.getElem?_cons_succ]; rfl)); (case' q15 => (exact fun _ _ _ h => h)); (case' g15 => rfl); (case' y15 => (intro w hSw; (try dsimp only at hSw); go_simp; try with_reducible rfl)); (case' r15 => (try simp only [Act.put, List.setIfInBounds_toArray, List.set_cons_zero, List.set_cons_succ]))
                refine wpAnyH_take (i := 9) (oi := ?o16) (v := ?v16) ?a16 (by kernel_rfl) (by kernel_rfl) (by kernel_rfl) ?q16 (Or.inl ⟨?g16, ?y16⟩) (by assumption) ?r16; (case' a16 => (simp only [List.getElem?_toArray, List.getElem?_cons_zero, List.getElem?_cons_succ]; rfl)); (case' q16 => (exact fun _ _ _ h => h)); (case' g16 => rfl); (case' y16 => (intro w hSw; (try dsimp only at hSw); go_simp; try with_reducible rfl)); (case' r16 => (try simp only [Act.put, List.setIfInBounds_toArray, List.set_cons_zero, List.set_cons_succ]))
                refine wpAnyH_ready (rs := [10]) (by kernel_rfl) (by simp) ?_
                refine AllReadyH.cons (o := ?o17) ?a17 (fun K hK => ?s17) ?m17; (case' a17 => (simp only [List.getElem?_toArray, List.getElem?_cons_zero, List.getElem?_cons_succ]; rfl))
                case s17 =>
                  go_simp
                  refine hK.out _ _ (HT.out _ (hHeld.2.setCell (.inl rfl) _)) (fun hHeld => ?_)
                  clear hK K
                  (try simp only [Act.put, List.setIfInBounds_toArray, List.set_cons_zero, List.set_cons_succ])
                  refine wpAnyH_done (by kernel_rfl) ?_ _
                  go_wp2_with fail
                  go_ret
                  exact jd_taken HJW.out HBW2.out hHeld.2 HROW.out hown2 hat
                exact AllReadyH.nil
              exact AllReadyH.nil
            exact AllReadyH.nil
          exact AllReadyH.nil
end Go.Proofs.Ytlemcijgjebekaa.L7
/-
  Both joiners side by side: each call by one answer; a copy.
-/
namespace Go.Proofs.Ytlemcijgjebekaa.L7
open Go.RowKit
open Go.Maps Go.MapKept Go.ChangeMaps
open L3 L4 L5

theorem Jn.lets {w w' : World} {g bm dg : Nat} {m : Js} {S : List Nat} (h : Jn w g bm dg m) (k : Lets S w w') (h1 : g ∉ S) (h2 : bm ∉ S) : Jn w' g bm dg m := ⟨(k.block _ h.lt h1).trans h.row, h.has.at (k.block _ h.has.lt h2)⟩
theorem takeM_form {dg : Nat} {m : Js} {c : Ck} (h : right c = false) : takeM dg m c = (70, m) := if_pos h
theorem takeM_other {dg : Nat} {m : Js} {c : Ck} (h : right c = true) (h2 : c.d ≠ dg ∨ (m ≠ [] ∧ c.n ≠ m.length)) : takeM dg m c = (71, m) := by
  unfold takeM; rw [if_neg (by simp [h]), if_pos h2]
theorem takeM_there {dg : Nat} {m : Js} {c : Ck} {b : ByteArray} (h : right c = true) (h2 : ¬ (c.d ≠ dg ∨ (m ≠ [] ∧ c.n ≠ m.length))) (hv : valM m c.i = some b) : takeM dg m c = ((if b = c.b then 0 else 71), m) := by
  unfold takeM; rw [if_neg (by simp [h]), if_neg h2, hv]
  dsimp only
  split <;> rfl
theorem takeM_new {dg : Nat} {m : Js} {c : Ck} (h : right c = true) (h2 : ¬ (c.d ≠ dg ∨ (m ≠ [] ∧ c.n ≠ m.length))) (hv : valM m c.i = none) : takeM dg m c = (0, (baseM m c.n).set c.i.toNat (some c.b)) := by
  unfold takeM; rw [if_neg (by simp [h]), if_neg h2, hv]
/-- the program's Take -/
theorem ctake_is (w : World) (g bm dg : Nat) (m m' : Js) (i n1 : Int) (d : Nat) (b : ByteArray) (E : Int) (HJ : Hid (Jn w g bm dg m)) (H : Hid (takeM dg m ⟨i, n1, d, b⟩ = (E, m'))) :
    Calls Try.prog 51 #[.pointer (some ⟨g, 0, none⟩), .agg #[.int .i64 i, .int .i64 n1, .int .u64 d, .string b]] w fun e w' => e = .returned (.int .i64 E) ∧ Jn w' g bm dg m' ∧ Lets [g, bm] w w' := by
  have h := H.out
  have same : ∀ {e w'}, Below w.heap.size w w' → m = m' → e = Ending.returned (.int .i64 E) → e = .returned (.int .i64 E) ∧ Jn w' g bm dg m' ∧ Lets [g, bm] w w' := fun hb hm he => ⟨he, hm ▸ HJ.out.below hb, Lets.ofBelow hb⟩
  by_cases hr : right ⟨i, n1, d, b⟩ = true
  · by_cases h2 : d ≠ dg ∨ (m ≠ [] ∧ n1 ≠ m.length)
    · rw [takeM_other hr h2] at h
      simp only [Prod.mk.injEq] at h
      obtain ⟨rfl, rfl⟩ := h
      by_cases hd : d = dg
      · subst hd
        obtain ⟨q1, q2⟩ : m ≠ [] ∧ n1 ≠ m.length := by
          rcases h2 with q | q
          · exact absurd rfl q
          · exact q
        have q3 : m.length ≠ 0 := fun e => q1 (List.length_eq_zero_iff.1 e)
        refine (take_num i n1 d b HJ (Lib.hid hr) (by simp; omega) (by simpa using q2)).mono ?_
        rintro e w' ⟨he, hb⟩
        exact same hb rfl he
      · refine (take_other i n1 d b HJ (Lib.hid hr) (by simp; omega)).mono ?_
        rintro e w' ⟨he, hb⟩
        exact same hb rfl he
    · obtain rfl : d = dg := by omega
      have hz : m = [] ∨ n1 = m.length := by
        by_cases q : m = []
        · exact .inl q
        · right
          apply Classical.byContradiction
          intro q2
          exact h2 (.inr ⟨q, q2⟩)
      cases hv : valM m i with
      | some x =>
        rw [takeM_there hr h2 hv] at h
        simp only [Prod.mk.injEq] at h
        obtain ⟨hE, rfl⟩ := h
        have hm0 : m ≠ [] := fun e => by subst e; rw [valM_nil] at hv; cases hv
        have q3 : m.length ≠ 0 := fun e => hm0 (List.length_eq_zero_iff.1 e)
        have hn : n1 = m.length := by
          rcases hz with q | q
          · exact absurd q hm0
          · exact q
        refine (take_there i n1 d b HJ (Lib.hid hr) x hv (by simp; omega) (by simpa using hn) E (Lib.hid hE)).mono ?_
        rintro e w' ⟨he, hb⟩
        exact same hb rfl he
      | none =>
        rw [takeM_new hr h2 hv] at h
        simp only [Prod.mk.injEq] at h
        obtain ⟨rfl, rfl⟩ := h
        exact take_new i n1 d b HJ (Lib.hid hr) hv hz
  · have hr' : right ⟨i, n1, d, b⟩ = false := by simpa using hr
    rw [takeM_form hr'] at h
    simp only [Prod.mk.injEq] at h
    obtain ⟨rfl, rfl⟩ := h
    refine (take_form g i n1 d b (Lib.hid hr')).mono ?_
    rintro e w' ⟨he, hb⟩
    exact same hb rfl he
/-- what the document's Take tells, and what it has then -/
def RTakeP (w : World) (g dg : Nat) (A : Option Addr) (n : Nat) (m' : Js) (E : Int) (e : Ending) (w' : World) : Prop :=
  e = .returned (.int .i64 E) ∧ (∃ A' n' c' l', JD w' g dg A' n' c' l' ∧ Rel m' l' ∧ n' ≤ n + 1 ∧ ∀ k, blk A' = some k → blk A = some k ∨ w.heap.size ≤ k) ∧ But g (blk A) w w'
theorem rtake_is (w : World) (g dg : Nat) (A : Option Addr) (n c : Nat) (l : List Ck) (m m' : Js) (i n1 : Int) (d : Nat) (b : ByteArray) (E : Int) (HJ : Hid (JD w g dg A n c l)) (R : Hid (Rel m l)) (hl : n ≤ 1000) (H : Hid (takeM dg m ⟨i, n1, d, b⟩ = (E, m'))) :
    Calls Try.prog 52 #[.pointer (some ⟨g, 0, none⟩), .agg #[.int .i64 i, .int .i64 n1, .int .u64 d, .string b]] w (RTakeP w g dg A n m' E) := by
  have h := H.out
  have same : ∀ {e w'}, Below w.heap.size w w' → m = m' → e = Ending.returned (.int .i64 E) → RTakeP w g dg A n m' E e w' := fun hb hm he => ⟨he, ⟨A, n, c, l, HJ.out.below hb, hm ▸ R.out, by omega, fun k e => .inl e⟩, But.ofBelow hb⟩
  by_cases hr : right ⟨i, n1, d, b⟩ = true
  · by_cases h2 : d ≠ dg ∨ (m ≠ [] ∧ n1 ≠ m.length)
    · rw [takeM_other hr h2] at h
      simp only [Prod.mk.injEq] at h
      obtain ⟨rfl, rfl⟩ := h
      by_cases hd : d = dg
      · subst hd
        obtain ⟨q1, q2⟩ : m ≠ [] ∧ n1 ≠ m.length := by
          rcases h2 with q | q
          · exact absurd rfl q
          · exact q
        refine (rtake_num w g A n c l i n1 d b m HJ R (Lib.hid hr) q1 q2).mono ?_
        rintro e w' ⟨he, hb⟩
        exact same hb rfl he
      · refine (rtake_other w g dg A n c l i n1 d b HJ (Lib.hid hr) (by simp; omega)).mono ?_
        rintro e w' ⟨he, hb⟩
        exact same hb rfl he
    · obtain rfl : d = dg := by omega
      have hz : m = [] ∨ n1 = m.length := by
        by_cases q : m = []
        · exact .inl q
        · right
          apply Classical.byContradiction
          intro q2
          exact h2 (.inr ⟨q, q2⟩)
      cases hv : valM m i with
      | some x =>
        rw [takeM_there hr h2 hv] at h
        simp only [Prod.mk.injEq] at h
        obtain ⟨hE, rfl⟩ := h
        have hm0 : m ≠ [] := fun e => by subst e; rw [valM_nil] at hv; cases hv
        have hn : n1 = m.length := by
          rcases hz with q | q
          · exact absurd q hm0
          · exact q
        refine (rtake_there w g A n c l i n1 d b m x E HJ R (Lib.hid hr) hn (Lib.hid hv) hl (Lib.hid hE)).mono ?_
        rintro e w' ⟨he, hb⟩
        exact same hb rfl he
      | none =>
        rw [takeM_new hr h2 hv] at h
        simp only [Prod.mk.injEq] at h
        obtain ⟨rfl, rfl⟩ := h
        refine (rtake_new w g A n c l i n1 d b m HJ R (Lib.hid hr) hz (Lib.hid hv) hl).mono ?_
        rintro e w' ⟨he, ⟨A', c', hj, hk⟩, hb⟩
        exact ⟨he, ⟨A', n + 1, c', _, hj, R.out.take hr hz hv, Nat.le_refl _, hk⟩, hb⟩
  · have hr' : right ⟨i, n1, d, b⟩ = false := by simpa using hr
    rw [takeM_form hr'] at h
    simp only [Prod.mk.injEq] at h
    obtain ⟨rfl, rfl⟩ := h
    refine (rtake_form w g i n1 d b (Lib.hid hr')).mono ?_
    rintro e w' ⟨he, hb⟩
    exact same hb rfl he
theorem wholeM_no {dg : Nat} {m : Js} (h : m = [] ∨ cntM m < m.length) : wholeM dg m = ((⟨#[]⟩, false), m) := if_pos h
theorem wholeM_yes {dg : Nat} {m : Js} (h : ¬ (m = [] ∨ cntM m < m.length)) (hd : digest (join (bodies m)) = dg) : wholeM dg m = ((join (bodies m), true), m) := by
  unfold wholeM; rw [if_neg h, if_pos hd]
theorem wholeM_bad {dg : Nat} {m : Js} (h : ¬ (m = [] ∨ cntM m < m.length)) (hd : digest (join (bodies m)) ≠ dg) : wholeM dg m = ((⟨#[]⟩, false), []) := by
  unfold wholeM; rw [if_neg h, if_neg hd]
/-- the program's Whole -/
theorem cwhole_is (w : World) (g bm dg : Nat) (m m' : Js) (s : ByteArray) (q : Bool) (HJ : Hid (Jn w g bm dg m)) (hl : m.length ≤ 1000) (hz : Hid ((join (bodies m)).size ≤ 1000000)) (H : Hid (wholeM dg m = ((s, q), m'))) :
    Calls Try.prog 54 #[.pointer (some ⟨g, 0, none⟩)] w fun e w' => e = .returned (.tuple #[.string s, .bool q]) ∧ Jn w' g bm dg m' ∧ Lets [g, bm] w w' := by
  have h := H.out
  by_cases h1 : m = [] ∨ cntM m < m.length
  · rw [wholeM_no h1] at h
    simp only [Prod.mk.injEq] at h
    obtain ⟨⟨rfl, rfl⟩, rfl⟩ := h
    refine (whole_no HJ h1).mono ?_
    rintro e w' ⟨he, hb⟩
    exact ⟨he, HJ.out.below hb, Lets.ofBelow hb⟩
  · have h0 : m ≠ [] := fun e => h1 (.inl e)
    have hc : ¬ cntM m < m.length := fun e => h1 (.inr e)
    refine (whole_all m.length (digest (join (bodies m))) (join (bodies m)) HJ h0 rfl (by omega) hc (Lib.hid rfl) hz.out (Lib.hid rfl)).mono ?_
    rintro e w' (⟨hd, he, hb⟩ | ⟨hd, he, hj, hb⟩)
    · rw [wholeM_yes h1 hd] at h
      simp only [Prod.mk.injEq] at h
      obtain ⟨⟨rfl, rfl⟩, rfl⟩ := h
      exact ⟨he, HJ.out.below hb, Lets.ofBelow hb⟩
    · rw [wholeM_bad h1 hd] at h
      simp only [Prod.mk.injEq] at h
      obtain ⟨⟨rfl, rfl⟩, rfl⟩ := h
      exact ⟨he, hj, hb⟩
def RWholeP (w : World) (g dg : Nat) (A : Option Addr) (n : Nat) (m' : Js) (s : ByteArray) (q : Bool) (e : Ending) (w' : World) : Prop :=
  e = .returned (.tuple #[.string s, .bool q]) ∧ (∃ A' n' c' l', JD w' g dg A' n' c' l' ∧ Rel m' l' ∧ n' ≤ n ∧ ∀ k, blk A' = some k → blk A = some k) ∧ Lets [g] w w'
theorem rwhole_is (w : World) (g dg : Nat) (A : Option Addr) (n c : Nat) (l : List Ck) (m m' : Js) (s : ByteArray) (q : Bool) (HJ : Hid (JD w g dg A n c l)) (R : Hid (Rel m l)) (hn : n ≤ 1000) (hl : m.length ≤ 1000) (hz : Hid ((join (bodies m)).size ≤ 1000000)) (H : Hid (wholeM dg m = ((s, q), m'))) :
    Calls Try.prog 58 #[.pointer (some ⟨g, 0, none⟩)] w (RWholeP w g dg A n m' s q) := by
  have h := H.out
  by_cases h1 : m = [] ∨ cntM m < m.length
  · rw [wholeM_no h1] at h
    simp only [Prod.mk.injEq] at h
    obtain ⟨⟨rfl, rfl⟩, rfl⟩ := h
    refine (rwhole_no w g dg A n c l m HJ R hn hl h1).mono ?_
    rintro e w' ⟨he, hb⟩
    exact ⟨he, ⟨A, n, c, l, HJ.out.below hb, R.out, Nat.le_refl _, fun k e => e⟩, Lets.ofBelow hb⟩
  · have h0 : m ≠ [] := fun e => h1 (.inl e)
    have hc : ¬ cntM m < m.length := fun e => h1 (.inr e)
    refine (rwhole_all w g dg A n c l m (join (bodies m)) (digest (join (bodies m))) HJ R hn hl h0 hc (Lib.hid rfl) hz.out (Lib.hid rfl)).mono ?_
    rintro e w' (⟨hd, he, hb⟩ | ⟨hd, he, hj, hb⟩)
    · rw [wholeM_yes h1 hd] at h
      simp only [Prod.mk.injEq] at h
      obtain ⟨⟨rfl, rfl⟩, rfl⟩ := h
      exact ⟨he, ⟨A, n, c, l, HJ.out.below hb, R.out, Nat.le_refl _, fun k e => e⟩, Lets.ofBelow hb⟩
    · rw [wholeM_bad h1 hd] at h
      simp only [Prod.mk.injEq] at h
      obtain ⟨⟨rfl, rfl⟩, rfl⟩ := h
      exact ⟨he, ⟨none, 0, 0, [], hj, rel_nil, Nat.zero_le _, fun k e => by cases e⟩, hb⟩
set_option maxRecDepth 100000 in
set_option maxHeartbeats 4000000 in
/-- a copy -/
theorem ccopy_is (w : World) (g bm dg : Nat) (m : Js) (HJ : Hid (Jn w g bm dg m)) :
    Calls Try.prog 53 #[.pointer (some ⟨g, 0, none⟩)] w fun e w' => ∃ g' bm', e = .returned (.pointer (some ⟨g', 0, none⟩)) ∧ Jn w' g' bm' dg m ∧ w.heap.size ≤ g' ∧ w.heap.size ≤ bm' ∧ Below w.heap.size w w' := by
  have c0 := HJ.out.c0
  have c1 := HJ.out.c1
  have c2 := HJ.out.c2
  have hg := HJ.out.lt
  obtain ⟨D, hown, hrd⟩ := HJ.out.has
  have HO := Lib.hid hown
  have HRD := Lib.hid hrd
  clear hown hrd
  go_enter Try.func53, Try.ntmps53
  go_wp2_with fail
  go_region_with (go_at_call 107; refine (mapclone_owns 3 (plainElem Try.prog 9) bm (cntM m) D w.drew (own_map_at (w' := w.drew) HO.out rfl)).mono ?_; rintro e w2 ⟨rfl, ho2, _, hb2⟩; have hb3 : Below w.heap.size w w2 := ((Below.refl _ w).drew.trans hb2); have d0 := keep1q c0 hb3; have d1 := keep1q c1 hb3; have HO2 := Lib.hid ho2; clear ho2)
  all_goals
    go_wp2_with fail
    go_ret
    exact ⟨w2.heap.size, w.heap.size, rfl, ⟨heap_alloc_new w2 _, ⟨D, own_map_at HO2.out (Below.heap_alloc _ _ _ HO2.out.lt), HRD.out⟩⟩, hb3.size, Nat.le_refl _, hb3.alloc hb3.size _⟩
end Go.Proofs.Ytlemcijgjebekaa.L7
/-
  Two joiners, the program's and the document's, apart from each other.
-/
namespace Go.Proofs.Ytlemcijgjebekaa.L7
open Go.RowKit
open L3 L4 L5


theorem kept_row {W W' : World} {k : Nat} {o : Obj} (h : W.heap[k]? = some o) (b : Below W.heap.size W W') : W'.heap[k]? = some o := (b.block _ (Array.getElem?_eq_some_iff.1 h).1).trans h
def Small (m : Js) : Prop := m.length ≤ 8 ∧ ∀ b, some b ∈ m → b.size ≤ 100
theorem join_small (l : List ByteArray) (h : ∀ b ∈ l, b.size ≤ 100) : ∀ k, (join (l.take k)).size ≤ 100 * k
  | 0 => by show (⟨#[]⟩ : ByteArray).size ≤ _; exact Nat.zero_le _
  | k + 1 => by
    have ih := join_small l h k
    rw [List.take_add_one]
    cases hx : l[k]? with
    | none => simp; omega
    | some b =>
      have := h b (List.mem_of_getElem? hx)
      show (join (l.take k ++ [b])).size ≤ _
      rw [join_snoc, ByteArray.size_append]; omega
theorem Small.joins {m : Js} (h : Small m) : (L7.join (bodies m)).size ≤ 1000000 := by
  have hl : (bodies m).length ≤ 8 := by unfold bodies; rw [List.length_map]; exact h.1
  have := join_small (bodies m) (fun b hb => by
    unfold bodies at hb
    obtain ⟨x, hx, rfl⟩ := List.mem_map.1 hb
    cases x with
    | none => decide
    | some y => exact h.2 y hx) 8
  rw [List.take_of_length_le hl] at this
  omega
theorem Small.take {dg : Nat} {m m' : Js} {c : Ck} {E : Int} (h : Small m) (ht : takeM dg m c = (E, m')) (hb : c.b.size ≤ 100) (hn : c.n ≤ 8) : Small m' := by
  have same : m = m' → Small m' := fun e => e ▸ h
  by_cases hr : right c = true
  · by_cases h2 : c.d ≠ dg ∨ (m ≠ [] ∧ c.n ≠ m.length)
    · rw [takeM_other hr h2] at ht; exact same (Prod.mk.inj ht).2
    · cases hv : valM m c.i with
      | some x => rw [takeM_there hr h2 hv] at ht; exact same (Prod.mk.inj ht).2
      | none =>
        rw [takeM_new hr h2 hv] at ht
        rw [← (Prod.mk.inj ht).2]
        have hbm : Small (baseM m c.n) := by
          unfold baseM
          split
          · exact ⟨by rw [List.length_replicate]; omega, fun b hb => by have := List.eq_of_mem_replicate hb; cases this⟩
          · exact h
        refine ⟨by rw [List.length_set]; exact hbm.1, fun b hb' => ?_⟩
        rcases List.mem_or_eq_of_mem_set hb' with q | q
        · exact hbm.2 b q
        · injection q with q; rw [q]; exact hb
  · rw [takeM_form (by simpa using hr)] at ht; exact same (Prod.mk.inj ht).2
theorem Small.whole {dg : Nat} {m m' : Js} {s : ByteArray} {q : Bool} (h : Small m) (ht : wholeM dg m = ((s, q), m')) : Small m' := by
  by_cases h1 : m = [] ∨ cntM m < m.length
  · rw [wholeM_no h1] at ht; rw [← (Prod.mk.inj ht).2]; exact h
  · by_cases hd : digest (join (bodies m)) = dg
    · rw [wholeM_yes h1 hd] at ht; rw [← (Prod.mk.inj ht).2]; exact h
    · rw [wholeM_bad h1 hd] at ht; rw [← (Prod.mk.inj ht).2]; exact ⟨by simp, by simp⟩
/-- both joiners, apart -/
structure QX (w W : World) (g bm g2 dg : Nat) (A : Option Addr) (n c : Nat) (m : Js) (L : List Ck) (i : Nat) : Prop where
  j : Jn W g bm dg m
  k : JD W g2 dg A n c L
  r : Rel m L
  b : Below w.heap.size w W
  hg : w.heap.size ≤ g
  hbm : w.heap.size ≤ bm
  hg2 : w.heap.size ≤ g2
  n1 : g ≠ g2
  n2 : bm ≠ g2
  hA : ∀ k, blk A = some k → k ≠ g ∧ k ≠ bm ∧ w.heap.size ≤ k
  hn : n ≤ i
  sm : Small m
theorem JD.alt {w : World} {g dg : Nat} {A : Option Addr} {n c : Nat} {l : List Ck} (h : JD w g dg A n c l) {k : Nat} (e : blk A = some k) : k < w.heap.size := by
  obtain ⟨base, ho⟩ := h.own
  exact (ho.lt k (by rw [ownBlock_blk]; exact e)).2
theorem JD.lets {w w' : World} {g dg : Nat} {A : Option Addr} {n c : Nat} {l : List Ck} {S : List Nat} (h : JD w g dg A n c l) (x : Lets S w w') (h1 : g ∉ S) (h2 : ∀ k, blk A = some k → k ∉ S) : JD w' g dg A n c l := by
  obtain ⟨base, ho⟩ := h.own
  refine ⟨(x.block _ h.lt h1).trans h.row, ⟨base, ho.1, ?_⟩, h.len, h.ne⟩
  rcases ho.2 with e | ⟨g', cc, cur, e, q1, hh, q2⟩
  · exact .inl e
  · have hb : blk A = some g' := by injection e with e _ _; rw [e]; rfl
    exact .inr ⟨g', cc, cur, e, q1, (x.block _ (h.alt hb) (h2 _ hb)).trans hh, q2⟩
section
variable {w W W1 W2 : World} {g bm g2 dg : Nat} {A : Option Addr} {n c : Nat} {m m' : Js} {L : List Ck} {i : Nat}
theorem QX.below (h : QX w W g bm g2 dg A n c m L i) (x : Below W.heap.size W W1) : QX w W1 g bm g2 dg A n c m L i :=
  ⟨h.j.below x, h.k.below x, h.r, h.b.trans (x.mono h.b.size), h.hg, h.hbm, h.hg2, h.n1, h.n2, h.hA, h.hn, h.sm⟩
theorem QX.took {E : Int} {e : Ending} (h : QX w W g bm g2 dg A n c m L i) (hj : Jn W1 g bm dg m') (hl : Lets [g, bm] W W1) (hs : Small m') (hr : RTakeP W1 g2 dg A n m' E e W2) : ∃ A' n' c' L', QX w W2 g bm g2 dg A' n' c' m' L' (i + 1) := by
  obtain ⟨_, ⟨A', n', c', L', hk, hrel, hn', hA'⟩, hb⟩ := hr
  have hA := h.hA
  have z := hl.size
  have z2 := h.b.size
  have lb := hl.below (B := w.heap.size) z2 (by simp [h.hg, h.hbm])
  have e1 : W2.heap[g]? = W1.heap[g]? := hb.block _ hj.lt h.n1 (fun e => (hA g e.symm).1 rfl)
  have e2 : W2.heap[bm]? = W1.heap[bm]? := hb.block _ hj.has.lt h.n2 (fun e => (hA bm e.symm).2.1 rfl)
  have hg1 := hj.lt
  have hb1 := hj.has.lt
  have zw := lb.size
  refine ⟨A', n', c', L', ⟨e1.trans hj.row, hj.has.at e2⟩, hk, hrel, ?_, h.hg, h.hbm, h.hg2, h.n1, h.n2, fun k e => ?_, by have := h.hn; omega, hs⟩
  · exact (h.b.trans lb).trans ⟨hb.os, hb.tape, hb.output, hb.size, fun k hk => hb.block k (by omega) (by have := h.hg2; omega) (fun e => by have := (hA k e.symm).2.2; omega)⟩
  · rcases hA' k e with q | q
    · exact hA k q
    · omega
end
section
variable {w W W1 W2 W3 : World} {g bm g' bm' g2 dg : Nat} {A : Option Addr} {n c : Nat} {m m' : Js} {L : List Ck} {i : Nat}
theorem QX.k1 (h : QX w W g bm g2 dg A n c m L i) (hl : Lets [g, bm] W W1) : JD W1 g2 dg A n c L := h.k.lets hl (by simp [h.n1.symm, h.n2.symm]) (fun k e => by have := h.hA k e; simp [this.1, this.2.1])
theorem QX.copied (h : QX w W g bm g2 dg A n c m L i) (hb : Below W.heap.size W W1) (hj : Jn W1 g' bm' dg m) (hg : W.heap.size ≤ g') (hm : W.heap.size ≤ bm') (h1 : Lets [g, bm] W1 W2) (h2 : Lets [g, bm] W2 W3) : QX w W3 g' bm' g2 dg A n c m L i := by
  have hl := h1.trans h2
  have lg := h.j.lt
  have lb := h.j.has.lt
  have l2 := h.k.lt
  have z := h.b.size
  have x1 := h.below hb
  have lw := hl.below (B := w.heap.size) x1.b.size (by simp [h.hg, h.hbm])
  exact ⟨hj.lets hl (by simp; omega) (by simp; omega), x1.k1 hl, h.r, x1.b.trans lw, by omega, by omega, h.hg2, by omega, by omega, fun k e => by have := h.k.alt e; have := (h.hA k e).2.2; omega, h.hn, h.sm⟩
theorem QX.wholed {s : ByteArray} {q : Bool} {e : Ending} (h : QX w W g bm g2 dg A n c m L i) (hj : Jn W1 g bm dg m') (hl : Lets [g, bm] W W1) (hs : Small m') (hr : RWholeP W1 g2 dg A n m' s q e W2) : ∃ A' n' c' L', QX w W2 g bm g2 dg A' n' c' m' L' i := by
  obtain ⟨_, ⟨A', n', c', L', hk, hrel, hn', hA'⟩, hb⟩ := hr
  have z2 := h.b.size
  have lb := hl.below (B := w.heap.size) z2 (by simp [h.hg, h.hbm])
  have zw := lb.size
  refine ⟨A', n', c', L', hj.lets hb (by simp [h.n1]) (by simp [h.n2]), hk, hrel, (h.b.trans lb).trans (hb.below (B := w.heap.size) (by omega) (by simp [h.hg2])), h.hg, h.hbm, h.hg2, h.n1, h.n2, fun k e => h.hA k (hA' k e), by have := h.hn; omega, hs⟩
end
def OwnQ (w : World) (A : Option Addr) (q c : Nat) (l : List Int) : Prop := ∃ base, w.ownsRow base 3 1 (.slice A q c) q (rowI l)
theorem ownq_below {w w' : World} {A : Option Addr} {q c : Nat} {l : List Int} (h : OwnQ w A q c l) (b : Below w.heap.size w w') : OwnQ w' A q c l := by
  obtain ⟨base, h⟩ := h
  exact ⟨base, own_below h b⟩
theorem miss_q {w W : World} {g bm g2 dg : Nat} {A : Option Addr} {n c : Nat} {m : Js} {L : List Ck} {i q : Nat} (X : Hid (QX w W g bm g2 dg A n c m L i)) (hq : Hid ((missing m).length = q)) :
    Calls Try.prog 55 #[.pointer (some ⟨g, 0, none⟩)] W fun e w' => ∃ A' c', e = .returned (.slice A' q c') ∧ OwnQ w' A' q c' (missing m) ∧ (∀ k, blk A' = some k → W.heap.size ≤ k) ∧ Below W.heap.size W w' := by
  have h := missing_any m.length (Lib.hid X.out.j) rfl (by have := X.out.sm.1; omega)
  rw [hq.out] at h
  refine h.mono ?_
  rintro e w' ⟨A', c', he, ho, hb⟩
  exact ⟨A', c', he, ⟨_, ho⟩, fun k e => (ho.lt k (by rw [ownBlock_blk]; exact e)).1, hb⟩
theorem rmiss_q {w W : World} {g bm g2 dg : Nat} {A : Option Addr} {n c : Nat} {m : Js} {L : List Ck} {i q : Nat} (X : Hid (QX w W g bm g2 dg A n c m L i)) (hq : Hid ((missing m).length = q)) (hi : i ≤ 100) :
    Calls Try.prog 57 #[.pointer (some ⟨g2, 0, none⟩)] W fun e w' => ∃ A' c', e = .returned (.slice A' q c') ∧ OwnQ w' A' q c' (missing m) ∧ Below W.heap.size W w' := by
  have h := rmissing_is W g2 dg A n c L m (Lib.hid X.out.k) (Lib.hid X.out.r) (by have := X.out.hn; omega) (by have := X.out.sm.1; omega)
  rw [hq.out] at h
  refine h.mono ?_
  rintro e w' ⟨A', c', he, ho, hb⟩
  exact ⟨A', c', he, ⟨_, ho⟩, hb⟩
theorem same_q {W : World} {A A' : Option Addr} {q c c' : Nat} {l : List Int} (h : Hid (OwnQ W A q c l)) (h' : Hid (OwnQ W A' q c' l)) (hq : l.length = q) (hz : q ≤ 5000) :
    Calls Try.prog 56 #[.slice A q c, .slice A' q c'] W fun e w' => e = .returned (.bool true) ∧ Below W.heap.size W w' := by
  subst hq
  obtain ⟨_, h1⟩ := h.out
  obtain ⟨_, h2⟩ := h'.out
  exact L5.nums_is A A' l l c c' W.heap.size true W (Lib.hid (ReadsI.own h1)) (Lib.hid (ReadsI.own h2)) (Nat.le_refl _) (by unfold maxLen; omega) (Lib.hid (by simp))
/-- a row of numbers that may be written -/
def RowQ (w : World) (A : Option Addr) (q B : Nat) : Prop := 0 < q → ∃ a row, A = some ⟨a, 0, none⟩ ∧ w.heap[a]? = some (.cells row 3 (0, 0)) ∧ q ≤ row.size ∧ B ≤ a
theorem OwnQ.row {w : World} {A : Option Addr} {q c B : Nat} {l : List Int} (h : OwnQ w A q c l) (hB : ∀ k, blk A = some k → B ≤ k) : RowQ w A q B := fun h0 => by
  obtain ⟨base, h⟩ := h
  rcases h.2 with ⟨_, e⟩ | ⟨g, cc, cur, e, q1, hh, q2, _, q3, _⟩
  · omega
  · injection e with e _ e3
    subst e
    exact ⟨g, cur, rfl, hh, by omega, hB g rfl⟩
theorem RowQ.below {w w' : World} {A : Option Addr} {q B : Nat} (h : RowQ w A q B) (b : Below w.heap.size w w') : RowQ w' A q B := fun h0 => by
  obtain ⟨a, row, e, hh, h1, h2⟩ := h h0
  exact ⟨a, row, e, (b.block _ (Array.getElem?_eq_some_iff.1 hh).1).trans hh, h1, h2⟩
/-- what a cut inside the law's round keeps -/
def CutP (w wc : World) (jv : Value) (g2 dg : Nat) (A : Option Addr) (n c : Nat) (m : Js) (L : List Ck) (i : Nat) : Prop := ∃ g bm, jv = .pointer (some ⟨g, 0, none⟩) ∧ QX w wc g bm g2 dg A n c m L i
end Go.Proofs.Ytlemcijgjebekaa.L7
