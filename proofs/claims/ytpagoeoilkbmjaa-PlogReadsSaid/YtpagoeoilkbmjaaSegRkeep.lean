/-
  Contracts: the document's segment: what is read, what is kept.
-/
import Derived.Test.YtpagoeoilkbmjaaSegRapp
namespace Go.Proofs.Ytpagoeoilkbmjaa.L5
open Go.RowKit
open L3 L4

theorem read_next {L : List L4.Fd} {k : Nat} {f : L4.Fd} {a c : Int} (h : L[k]? = some f) :
    (a ≤ f.o → ((readL (L.take k) a c).length : Int) < c → readL (L.take (k + 1)) a c = readL (L.take k) a c ++ [f]) ∧ ((f.o < a ∨ c ≤ ((readL (L.take k) a c).length : Int)) → readL (L.take (k + 1)) a c = readL (L.take k) a c) := by
  unfold readL
  rw [List.take_add_one, h, List.filter_append]
  constructor
  · intro h1 h2
    have e : List.filter (fun f : L4.Fd => decide (a ≤ f.o)) (some f).toList = [f] := by simp [h1]
    rw [e, List.take_append]
    rw [List.length_take] at h2
    have : c.toNat - (List.filter (fun f : L4.Fd => decide (a ≤ f.o)) (List.take k L)).length = (c.toNat - (List.filter (fun f : L4.Fd => decide (a ≤ f.o)) (List.take k L)).length - 1) + 1 := by omega
    rw [this, List.take_succ_cons, List.take_nil]
  · rintro (h1 | h1)
    · have e : List.filter (fun f : L4.Fd => decide (a ≤ f.o)) (some f).toList = [] := by simp; omega
      rw [e, List.append_nil]
    · rw [List.length_take] at h1
      rw [List.take_append_of_le_length (by omega)]

set_option maxRecDepth 100000 in
set_option maxHeartbeats 4000000 in
theorem rread_is {T : TypeId} {w : World} {g : Nat} {A : Option Addr} {cap : Nat} {base next : Int} {L : List L4.Fd} (a c : Int) (n : Nat) (h : Hid (Seg T w g A cap base next L)) (hn : L.length = n) (hl : n ≤ 64) :
    Calls Try.prog 18 #[.pointer (some ⟨g, 0, none⟩), .int .i64 a, .int .i64 c] w (CloneP w (readL L a c)) := by
  obtain ⟨i0, hi0, hz0, hz1, hz2⟩ := info_parts fdInfo
  have HN := Lib.hid hn
  clear hn
  go_enter Try.func18, Try.ntmps18
  go_wp2_with fail
  go_loopw [7, 8] (fun v i wr => ∃ (k m : Nat) (A1 : Option Addr) (c1 : Nat), k ≤ n ∧ m ≤ k ∧ i = .int .i64 k ∧ v = .slice A1 m c1 ∧ Hid ((readL (L.take k) a c).length = m) ∧ Hid (wr.ownsRow w.heap.size 43 5 (.slice A1 m c1) m (rowF (readL (L.take k) a c))) ∧ Below w.heap.size w wr) (fun _ i _ => n - (intOf i).toNat)
  case atStart => exact ⟨0, 0, some ⟨w.heap.size, 0, none⟩, 0, by omega, by omega, rfl, rfl, Lib.hid (by simp [readL]), Lib.hid (by simpa [readL, rowF] using World.ownsRow_made (size := 5) w #[] 0 (Nat.le_refl _) (by unfold maxLen; omega) rfl), one_box _⟩
  case round =>
    obtain ⟨k, m, A1, c1, hk, hmk, rfl, rfl, hm, hown, hbel⟩ := hrel
    have hseg := h.out.below hbel
    have c2 := hseg.c2
    rw [HN.out] at c2
    by_cases hlt : k < n
    · obtain ⟨b, rfl, hb, hcells⟩ := hseg.reads (by rw [HN.out]; omega)
      obtain ⟨⟨o, ⟨rk, key, tb, val⟩⟩, hf⟩ : ∃ s, L[k]? = some s := ⟨_, List.getElem?_eq_getElem (by rw [HN.out]; omega)⟩
      obtain ⟨d0, d1, d2, d3, d4⟩ := hcells k _ hf
      obtain ⟨x1, x2⟩ := read_next (a := a) (c := c) hf
      rw [hm.out] at x1 x2
      have X1 := Lib.hid x1
      have X2 := Lib.hid x2
      have k0 : (0 : Int) ≤ (k : Int) := by omega
      have k1 : (k : Int) < (n : Int) := by omega
      clear hcells hf hseg x1 x2
      dsimp only at d0 d1 d2 d3 d4
      by_cases h1 : a ≤ o
      · by_cases h2 : (m : Int) < c
        · have HNX : Hid (readL (L.take (k + 1)) a c = readL (L.take k) a c ++ [⟨o, ⟨rk, key, tb, val⟩⟩]) := Lib.hid (X1.out h1 h2)
          clear X1 X2
          go_wp2_with (at_builtin; refine wpList_append_own _ rfl _ _ 37 (by rfl) w.heap.size 43 i0 _ 5 56 Try.underlying37 hi0 hz0 hz1 hz2 rfl (by omega) _ m _ (by rfl) (hown.out.alloc _) ⟨wr.heap.size, 0, none⟩ 1 1 [.int .i64 o, .bool rk, .string key, .bool tb, .string val] (by rfl) (by rfl) (World.news_of_block (cs := #[.int .i64 o, .bool rk, .string key, .bool tb, .string val]) (t := 43) (fr := (0, 0)) (heap_alloc_new wr _)) (by simp [Value.oneCell']) (by unfold maxLen; omega) (by omega) (by simp; exact Nat.le_succ_of_le hbel.size) ?_; intro v1 w1 hown1 hgrow1 hnil1)
          obtain ⟨A2, c2', rfl⟩ := own_form hown1
          go_roundw
          case rel =>
            refine ⟨k + 1, m + 1, A2, c2', by omega, by omega, by go_num, rfl, Lib.hid ?_, Lib.hid ?_, (hbel.alloc hbel.size _).grown hgrow1 (by simp; exact Nat.le_succ_of_le hbel.size) (fun j e => (hown.out.lt j e).1)⟩
            · rw [HNX.out, List.length_append, hm.out]; rfl
            · rw [HNX.out, rowF_app]; exact hown1
          case measure => simp [intOf]; omega
        · have HNX : Hid (readL (L.take (k + 1)) a c = readL (L.take k) a c) := Lib.hid (X2.out (.inr (by omega)))
          clear X1 X2
          go_wp2_with fail
          go_roundw
          case rel => exact ⟨k + 1, m, A1, c1, by omega, by omega, by go_num, rfl, Lib.hid (by rw [HNX.out]; exact hm.out), Lib.hid (by rw [HNX.out]; exact hown.out), hbel⟩
          case measure => simp [intOf]; omega
      · have HNX : Hid (readL (L.take (k + 1)) a c = readL (L.take k) a c) := Lib.hid (X2.out (.inl (by show o < a; omega)))
        clear X1 X2
        go_wp2_with fail
        go_roundw
        case rel => exact ⟨k + 1, m, A1, c1, by omega, by omega, by go_num, rfl, Lib.hid (by rw [HNX.out]; exact hm.out), Lib.hid (by rw [HNX.out]; exact hown.out), hbel⟩
        case measure => simp [intOf]; omega
    · obtain rfl : k = n := by omega
      have e : L.take k = L := List.take_of_length_le (by rw [HN.out]; omega)
      have hm' := hm.out
      have ho := hown.out
      rw [e] at hm' ho
      have HM := Lib.hid hm'
      have HO := Lib.hid ho
      clear hm' ho e hseg
      go_wp2_with fail
      go_ret
      refine ⟨A1, c1, by rw [HM.out]; rfl, ?_, hbel⟩
      rw [HM.out]; exact HO.out

set_option maxRecDepth 100000 in
set_option maxHeartbeats 8000000 in
theorem rkeep_is {T : TypeId} {w : World} {g : Nat} {A : Option Addr} {cap : Nat} {base next : Int} {L : List L4.Fd} (X : Option Addr) (s : List Int) (xc B n : Nat) (h : Hid (Seg T w g A cap base next L)) (hn : L.length = n) (hl : n ≤ 64)
    (hR : Hid (ReadsI w B X s)) (hB : B ≤ w.heap.size) (hs : s.length ≤ 1000000) :
    Calls Try.prog 20 #[.pointer (some ⟨g, 0, none⟩), .slice X s.length xc] w (KeepP T w g A base next L s) := by
  obtain ⟨i0, hi0, hz0, hz1, hz2⟩ := info_parts fdInfo
  have HN := Lib.hid hn
  have hg := h.out.lt
  clear hn
  go_enter Try.func20, Try.ntmps20
  go_wp2_with fail
  go_loopw [5, 6] (fun v i wr => ∃ (k m : Nat) (A1 : Option Addr) (c1 : Nat), k ≤ n ∧ m ≤ k ∧ i = .int .i64 k ∧ v = .slice A1 m c1 ∧ Hid ((keepL (L.take k) s).length = m) ∧ Hid (wr.ownsRow w.heap.size 43 5 (.slice A1 m c1) m (rowF (keepL (L.take k) s))) ∧ Below w.heap.size w wr) (fun _ i _ => n - (intOf i).toNat)
  case atStart => exact ⟨0, 0, some ⟨w.heap.size, 0, none⟩, 0, by omega, by omega, rfl, rfl, Lib.hid (by simp [keepL]), Lib.hid (by simpa [keepL, rowF] using World.ownsRow_made (size := 5) w #[] 0 (Nat.le_refl _) (by unfold maxLen; omega) rfl), one_box _⟩
  case round =>
    obtain ⟨k, m, A1, c1, hk, hmk, rfl, rfl, hm, hown, hbel⟩ := hrel
    have hseg := h.out.below hbel
    have c2 := hseg.c2
    rw [HN.out] at c2
    by_cases hlt : k < n
    · obtain ⟨b, rfl, hb, hcells⟩ := hseg.reads (by rw [HN.out]; omega)
      obtain ⟨⟨o, ⟨rk, key, tb, val⟩⟩, hf⟩ : ∃ s, L[k]? = some s := ⟨_, List.getElem?_eq_getElem (by rw [HN.out]; omega)⟩
      obtain ⟨d0, d1, d2, d3, d4⟩ := hcells k _ hf
      have hnx := keep_next (s := s) hf
      have HNX := Lib.hid hnx
      have HC2 := Lib.hid c2
      have k0 : (0 : Int) ≤ (k : Int) := by omega
      have k1 : (k : Int) < (n : Int) := by omega
      have hgr := hseg.lt
      clear hcells hf hseg hnx
      dsimp only at d0 d1 d2 d3 d4
      have D := Lib.hid (And.intro d0 (And.intro d1 (And.intro d2 (And.intro d3 d4))))
      go_wp2_with fail
      go_loopw [7, 8] (fun v i wi => ∃ (j : Nat) (y : Bool), j ≤ s.length ∧ i = .int .i64 j ∧ v = .bool y ∧ Hid (decide (o ∈ s.take j) = y) ∧ Below wr.heap.size wr wi) (fun _ i _ => s.length - (intOf i).toNat)
      case atStart => exact ⟨0, false, by omega, rfl, rfl, Lib.hid (by simp), Below.refl _ _⟩
      case round =>
        obtain ⟨j, y, hj, rfl, rfl, hy, hbi⟩ := hrel
        have c2 := (hbi.cell (p := ⟨g, 2, none⟩) hgr).trans HC2.out
        have d0 := (hbi.cell (p := ⟨b, k * 5, none⟩) hb).trans D.out.1
        by_cases hjl : j < s.length
        · obtain ⟨xb, xo, rfl, hxb, hxc⟩ := hR.out (by omega)
          obtain ⟨x, hx⟩ : ∃ x, s[j]? = some x := ⟨_, List.getElem?_eq_getElem hjl⟩
          have hwi := hbel.trans (hbi.mono hbel.size)
          have e0 := (hwi.cell (p := ⟨xb, xo + j, none⟩) (by show xb < _; omega)).trans (hxc j x hx)
          have j0 : (0 : Int) ≤ (j : Int) := by omega
          have j1 : (j : Int) < (s.length : Int) := by omega
          have hmem : (o ∈ s.take (j + 1)) ↔ (o ∈ s.take j ∨ x = o) := by
            rw [List.take_add_one, hx]; simp [eq_comm]
          have HMEM := Lib.hid hmem
          clear hxc hx hmem hwi
          cases y
          · by_cases hxo : x = o
            · have q1 : (x == o) = true := by simpa using hxo
              have HY : Hid (decide (o ∈ s.take (j + 1)) = true) := Lib.hid (decide_eq_true (HMEM.out.2 (.inr hxo)))
              clear hxo
              go_wp2_with fail
              go_quiet (fail)
              go_wp2_with fail
              go_roundw
              case rel => exact ⟨j + 1, true, by omega, by go_num, rfl, HY, drewN_below hbi _⟩
              case measure => simp [intOf]; omega
            · have q1 : (x == o) = false := by simpa using hxo
              have HY : Hid (decide (o ∈ s.take (j + 1)) = false) := Lib.hid (decide_eq_false (fun h => by
                rcases HMEM.out.1 h with h | h
                · exact absurd h (of_decide_eq_false hy.out)
                · exact hxo h))
              clear hxo
              go_wp2_with fail
              go_quiet (fail)
              go_wp2_with fail
              go_roundw
              case rel => exact ⟨j + 1, false, by omega, by go_num, rfl, HY, drewN_below hbi _⟩
              case measure => simp [intOf]; omega
          · have HY : Hid (decide (o ∈ s.take (j + 1)) = true) := Lib.hid (decide_eq_true (HMEM.out.2 (.inl (of_decide_eq_true hy.out))))
            go_wp2_with fail
            go_quiet (fail)
            go_wp2_with fail
            go_roundw
            case rel => exact ⟨j + 1, true, by omega, by go_num, rfl, HY, drewN_below hbi _⟩
            case measure => simp [intOf]; omega
        · obtain rfl : j = s.length := by omega
          have hy' := hy.out
          rw [List.take_length] at hy'
          have HY := Lib.hid hy'
          have hbw := hbel.trans (hbi.mono hbel.size)
          have hown2 := own_below hown.out hbi
          have HO := Lib.hid hown2
          have d1 := (hbi.cell (p := ⟨b, k * 5 + 1, none⟩) hb).trans D.out.2.1
          have d2 := (hbi.cell (p := ⟨b, k * 5 + 2, none⟩) hb).trans D.out.2.2.1
          have d3 := (hbi.cell (p := ⟨b, k * 5 + 3, none⟩) hb).trans D.out.2.2.2.1
          have d4 := (hbi.cell (p := ⟨b, k * 5 + 4, none⟩) hb).trans D.out.2.2.2.2
          obtain ⟨W, hW⟩ : ∃ W, W = wr := ⟨_, rfl⟩
          clear hy' hown2
          cases y
          · have HNX2 : Hid (keepL (L.take (k + 1)) s = keepL (L.take k) s) := Lib.hid (by rw [HNX.out, if_neg (of_decide_eq_false HY.out), List.append_nil])
            go_wp2_with fail
            go_roundw
            case rel => exact ⟨k + 1, m, A1, c1, by omega, by omega, by go_num, rfl, Lib.hid (by rw [HNX2.out]; exact hm.out), Lib.hid (by rw [HNX2.out]; exact HO.out), hbw⟩
            case measure => simp [intOf]; omega
          · have HNX2 : Hid (keepL (L.take (k + 1)) s = keepL (L.take k) s ++ [⟨o, ⟨rk, key, tb, val⟩⟩]) := Lib.hid (by rw [HNX.out, if_pos (of_decide_eq_true HY.out)])
            have hz := hbw.size
            go_wp2_with (at_builtin; refine wpList_append_own _ rfl _ _ 37 (by rfl) w.heap.size 43 i0 _ 5 56 Try.underlying37 hi0 hz0 hz1 hz2 rfl (by omega) _ m _ (by rfl) (HO.out.alloc _) ⟨_, 0, none⟩ 1 1 [.int .i64 o, .bool rk, .string key, .bool tb, .string val] (by rfl) (by rfl) (World.news_of_block (cs := #[.int .i64 o, .bool rk, .string key, .bool tb, .string val]) (t := 43) (fr := (0, 0)) (heap_alloc_new _ _)) (by simp [Value.oneCell']) (by unfold maxLen; omega) (by omega) (by simp; omega) ?_; intro v1 w1 hown1 hgrow1 hnil1)
            obtain ⟨A2, c2', rfl⟩ := own_form hown1
            go_roundw
            case rel =>
              refine ⟨k + 1, m + 1, A2, c2', by omega, by omega, by go_num, rfl, Lib.hid ?_, Lib.hid ?_, (hbw.alloc hz _).grown hgrow1 (by simp; omega) (fun j e => (HO.out.lt j e).1)⟩
              · rw [HNX2.out, List.length_append, hm.out]; rfl
              · rw [HNX2.out, rowF_app]; exact hown1
            case measure => simp [intOf]; omega
    · obtain rfl : k = n := by omega
      have e : L.take k = L := List.take_of_length_le (by rw [HN.out]; omega)
      have hm' := hm.out
      have ho := hown.out
      rw [e] at hm' ho
      have HM := Lib.hid hm'
      have HO := Lib.hid ho
      have HS := Lib.hid hseg
      have f2 := hseg.froz 2
      clear hm' ho e hseg
      have e1 : wrap64 ((k : Int) - (m : Int)) = ((k - m : Nat) : Int) := by simp only [wrap64]; omega
      go_wp2_with fail
      go_ret
      have hlo := HO.out.lt
      rw [ownBlock_blk] at hlo
      have hst := HS.out.setL (A' := A1) (cap' := c1) (L' := keepL L s) (w1 := wr) rfl (by rw [HM.out]; exact own_low HO.out (Nat.zero_le _)) (fun e => by have := (hlo _ e).1; omega)
      rw [HM.out] at hst
      refine ⟨?_, A1, c1, hst, But.setCell (p := ⟨g, 2, none⟩) (.ofBelow hbel) (.inl rfl) _, fun j e => .inr (hlo j e).1⟩
      rw [HN.out, HM.out]; exact congrArg (fun m => Ending.returned (.int .i64 m)) (by omega)
end Go.Proofs.Ytpagoeoilkbmjaa.L5
