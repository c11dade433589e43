/-
  Contracts over the document's own functions: Parts.
-/
import Derived.Test.YtohfbmgonjkhhaaTpRload
import Derived.Test.YtohfbmgonjkhhaaTpParts
namespace Go.Proofs.Ytohfbmgonjkhhaa.L9
open Go.RowKit
open Go.Maps
open L3 L4

theorem inB_next {names : List ByteArray} {t : Nat} {u s : ByteArray} (h : names[t]? = some u) : inB (names.take (t + 1)) s = (inB (names.take t) s || decide (u = s)) := by
  unfold inB
  rw [List.take_add_one, h, List.any_append]
  simp
/-- what lies between two rounds -/
structure RP (w wr : World) (names : List ByteArray) (l : List Pt) (A' : Option Addr) (L c : Nat) : Prop where
  row : wr.ownsRow w.heap.size 37 2 (.slice A' L c) L (rowP l)
  len : l.length = L
  bel : Below w.heap.size w wr
theorem RP.below {w wr w2 : World} {names : List ByteArray} {l : List Pt} {A' : Option Addr} {L c : Nat} (h : RP w wr names l A' L c) (hb : Below wr.heap.size wr w2) : RP w w2 names l A' L c := ⟨own_below h.row hb, h.len, h.bel.trans (hb.mono h.bel.size)⟩

set_option maxRecDepth 100000 in
set_option maxHeartbeats 4000000 in
theorem rparts_is {w : World} {B k cap m ln cn : Nat} {A An : Option Addr} {Q : List Pt} (names : List ByteArray) (h : Hid (Doc w B k A cap Q)) (G : Hid (Good Q)) (hm : Q.length = m) (hN : Hid (ReadsT w w.heap.size An names)) (hln : Hid (names.length = ln)) (hlm : ln ≤ 1000000) :
    Calls Try.prog 25 #[.pointer (some ⟨k, 0, none⟩), .slice An ln cn] w fun e W' => ∃ A' c, e = .returned (.slice A' (partsQ Q names).length c) ∧ W'.ownsRow w.heap.size 37 2 (.slice A' (partsQ Q names).length c) (partsQ Q names).length (rowP (partsQ Q names)) ∧ Below w.heap.size w W' := by
  have c0 := h.out.c0
  rw [hm] at c0
  have hl8 : m ≤ 8 := by rw [← hm]; exact G.out.len
  have HRD := Lib.hid h.out.reads
  have HM := Lib.hid hm
  have lk : k < w.heap.size := h.out.lt
  obtain ⟨i0, hi0, hz0, hz1, hz2⟩ := info_parts partInfo
  clear hm
  go_enter Try.func25, Try.ntmps25
  go_wp2_with fail
  go_loopw [5, 6] (fun s p wr => ∃ (j L c : Nat) (A' : Option Addr), j ≤ m ∧ p = .int .i64 j ∧ s = .slice A' L c ∧ Hid (RP w wr names (partsQ (Q.take j) names) A' L c)) (fun _ p _ => m - (intOf p).toNat)
  case atStart => exact ⟨0, 0, 0, _, Nat.zero_le _, rfl, rfl, Lib.hid ⟨World.ownsRow_made w #[] 0 (Nat.le_refl _) (by unfold maxLen; omega) rfl, rfl, one_box' _⟩⟩
  case round =>
    obtain ⟨j, L, c, A', hj, rfl, rfl, HP⟩ := hrel
    have c0r := (HP.out.bel.cell (p := ⟨k, 0, none⟩) lk).trans c0
    by_cases hlt : j < m
    · obtain ⟨ga, rfl, hga, hcells⟩ := HRD.out (by rw [HM.out]; omega)
      obtain ⟨⟨st, sn⟩, hst⟩ : ∃ st, Q[j]? = some st := ⟨Q[j]'(by rw [HM.out]; exact hlt), List.getElem?_eq_getElem _⟩
      obtain ⟨e0, e1⟩ := hcells j _ hst
      have hfit := G.out.fit _ (List.mem_of_getElem? hst)
      dsimp only at e0 e1 hfit
      have k0 : (0 : Int) ≤ (j : Int) := by omega
      have k1 : (j : Int) < (m : Int) := by omega
      have HST := Lib.hid hst
      have HLL : Hid (L ≤ 8 * j) := Lib.hid (by
        rw [← HP.out.len]
        have := parts_len (Q := Q.take j) (fun y hy => (G.out.fit y (List.mem_of_mem_take hy)).2.2) names
        rw [List.length_take, HM.out, Nat.min_eq_left hj] at this
        exact this)
      obtain ⟨wo, hwo⟩ : ∃ wo, wo = wr := ⟨_, rfl⟩
      rw [← hwo] at HP c0r ⊢
      clear hwo hst hcells
      go_wp2_with fail
      go_loopw [7, 8] (fun b p wr => ∃ (t : Nat), t ≤ ln ∧ p = .int .i64 t ∧ b = .bool (inB (names.take t) st) ∧ Below wo.heap.size wo wr) (fun _ p _ => ln - (intOf p).toNat)
      case atStart => exact ⟨0, Nat.zero_le _, rfl, rfl, Below.refl _ _⟩
      case round =>
        obtain ⟨t, ht, rfl, rfl, hbel⟩ := hrel
        have hB0 : Below w.heap.size w wr := HP.out.bel.trans (hbel.mono HP.out.bel.size)
        have c0t := (hB0.cell (p := ⟨k, 0, none⟩) lk).trans c0
        have d0 := (hB0.cell (p := ⟨ga, j * 2, none⟩) hga).trans e0
        by_cases hlt2 : t < ln
        · obtain ⟨gn, rfl, hgn, hcn⟩ := hN.out (by rw [hln.out]; omega)
          obtain ⟨u, hu⟩ : ∃ u, names[t]? = some u := ⟨names[t]'(by rw [hln.out]; exact hlt2), List.getElem?_eq_getElem _⟩
          have d2 := (hB0.cell (p := ⟨gn, t, none⟩) hgn).trans (hcn t u hu)
          have t0 : (0 : Int) ≤ (t : Int) := by omega
          have t1 : (t : Int) < (ln : Int) := by omega
          have hnx := inB_next (s := st) hu
          cases hb : inB (names.take t) st with
          | true =>
            have HNX : Hid (inB (names.take (t + 1)) st = true) := Lib.hid (by rw [hnx, hb]; rfl)
            clear hb hnx hu hcn
            go_wp2_with fail
            go_quiet (fail)
            go_wp2_with fail
            go_roundw
            case rel => exact ⟨t + 1, by omega, by go_num, by rw [HNX.out], drewN_below hbel _⟩
            case measure => simp [intOf]; omega
          | false =>
            rw [hb, Bool.false_or] at hnx
            by_cases hus : u = st
            · subst hus
              have HNX : Hid (inB (names.take (t + 1)) u = true) := Lib.hid (by rw [hnx]; exact decide_eq_true rfl)
              clear hb hnx hu hcn
              go_wp2_with fail
              go_quiet (fail)
              go_wp2_with fail
              go_roundw
              case rel => exact ⟨t + 1, by omega, by go_num, by rw [HNX.out], drewN_below hbel _⟩
              case measure => simp [intOf]; omega
            · have hne : (u.toList == st.toList) = false := bytes_off hus
              have HNX : Hid (inB (names.take (t + 1)) st = false) := Lib.hid (by rw [hnx]; exact decide_eq_false hus)
              clear hb hnx hu hcn hus
              go_wp2_with fail
              go_quiet (fail)
              go_wp2_with fail
              go_roundw
              case rel => exact ⟨t + 1, by omega, by go_num, by rw [HNX.out], drewN_below hbel _⟩
              case measure => simp [intOf]; omega
        · have htl : t = ln := by omega
          have HIN : Hid (inB (names.take t) st = inB names st) := Lib.hid (by rw [List.take_of_length_le (by rw [hln.out]; omega)])
          have t1 : ¬ (t : Int) < (ln : Int) := by omega
          have HP2 := Lib.hid (HP.out.below hbel)
          rw [HIN.out]
          obtain ⟨q, rfl⟩ : ∃ q : Nat, sn = (q : Int) := ⟨sn.toNat, by omega⟩
          have hq8 : q ≤ 8 := by omega
          have hq1 : 1 ≤ q := by omega
          have hSn : Hid (partsQ (Q.take (j + 1)) names = partsQ (Q.take j) names ++ (if inB names st = true then someP ⟨st, (q : Int)⟩ else [])) := Lib.hid (by rw [List.take_add_one, HST.out]; exact parts_snoc _ _ _)
          have HSL : Hid ((someP ⟨st, (q : Int)⟩).length = q) := Lib.hid (by rw [someP_len]; exact Int.toNat_natCast q)
          clear htl hlt2 HIN HP c0r hbel
          cases hb : inB names st with
          | false =>
            rw [hb, if_neg (by simp), List.append_nil] at hSn
            have d1 := (hB0.cell (p := ⟨ga, j * 2 + 1, none⟩) hga).trans e1
            clear hb hfit
            go_wp2_with fail
            go_loopw [5, 9] (fun s p wr' => s = .slice A' L c ∧ p = .int .i64 0 ∧ wr' = wr) (fun _ p _ => 0)
            case atStart => exact ⟨rfl, rfl, rfl⟩
            case round =>
              obtain ⟨rfl, rfl, rfl⟩ := hrel
              have p1 : (0 : Int) < (q : Int) := by omega
              clear hq1
              go_wp2_with fail
              go_roundw
              case rel => exact ⟨j + 1, L, c, A', by omega, by go_num, rfl, Lib.hid (by rw [hSn.out]; exact HP2.out)⟩
              case measure => simp [intOf]; omega
          | true =>
            rw [hb, if_pos rfl] at hSn
            clear hb hfit hB0 c0t d0
            go_wp2_with fail
            go_loopw [5, 9] (fun s p wr' => ∃ (t2 L2 c2 : Nat) (A2 : Option Addr), t2 ≤ q ∧ L2 = L + t2 ∧ p = .int .i64 t2 ∧ s = .slice A2 L2 c2 ∧ Hid (RP w wr' names (partsQ (Q.take j) names ++ (someP ⟨st, (q : Int)⟩).take t2) A2 L2 c2)) (fun _ p _ => q - (intOf p).toNat)
            case atStart => exact ⟨0, L, c, A', Nat.zero_le _, rfl, rfl, rfl, Lib.hid (by rw [List.take_zero, List.append_nil]; exact HP2.out)⟩
            case round =>
              obtain ⟨t2, L2, c2, A2, ht2, hL2, rfl, rfl, HP3⟩ := hrel
              have c03 := (HP3.out.bel.cell (p := ⟨k, 0, none⟩) lk).trans c0
              have d03 := (HP3.out.bel.cell (p := ⟨ga, j * 2, none⟩) hga).trans e0
              have d13 := (HP3.out.bel.cell (p := ⟨ga, j * 2 + 1, none⟩) hga).trans e1
              by_cases hlt3 : t2 < q
              · have p0 : (0 : Int) ≤ (t2 : Int) := by omega
                have p1 : (t2 : Int) < (q : Int) := by omega
                have HLB : Hid (L2 ≤ 1000) := Lib.hid (by have := HLL.out; omega)
                have HROW := Lib.hid HP3.out.row
                have HSZ := Lib.hid HP3.out.bel.size
                have HL2 := Lib.hid hL2
                have HNX : Hid ((someP ⟨st, (q : Int)⟩).take (t2 + 1) = (someP ⟨st, (q : Int)⟩).take t2 ++ [⟨st, (t2 : Int)⟩]) := Lib.hid (some_next (by show t2 < (q : Int).toNat; omega))
                clear hL2
                go_wp2_with (at_builtin; refine wpList_append_own _ rfl _ _ 43 rfl w.heap.size 37 i0 _ 2 24 Try.underlying43 hi0 hz0 hz1 hz2 rfl (by decide) (.slice A2 L2 c2) L2 _ (by rfl) (HROW.out.alloc _) ⟨_, 0, none⟩ 1 1 [.string st, .int .i64 (t2 : Int)] (by rfl) (by rfl) (World.news_of_block (cs := #[.string st, .int .i64 (t2 : Int)]) (t := 37) (fr := (0, 0)) (heap_alloc_new _ _)) (by simp [Value.oneCell']) (by have := HLB.out; unfold maxLen; omega) (by have := HLB.out; omega) (by have := HSZ.out; simp; omega) ?_; intro v4 w4 hown4 hgrow4 _; have HB4 : Hid (Below w.heap.size w w4) := Lib.hid ((HP3.out.bel.alloc HSZ.out _).grown hgrow4 (by have := HSZ.out; simp; omega) (fun z e => (HROW.out.lt z e).1)); obtain ⟨A4, c4, rfl⟩ := own_len hown4; have HO4 := Lib.hid hown4; clear hown4 hgrow4)
                go_roundw
                case rel => exact ⟨t2 + 1, L2 + 1, c4, A4, by omega, by have := HL2.out; omega, by go_num, rfl, Lib.hid ⟨by rw [HNX.out, ← List.append_assoc, rowP_app]; exact HO4.out, by rw [HNX.out, ← List.append_assoc, List.length_append, HP3.out.len]; rfl, HB4.out⟩⟩
                case measure => simp [intOf]; omega
              · have htq : t2 = q := by omega
                have HTQ := Lib.hid htq
                have p1 : ¬ (t2 : Int) < (q : Int) := by omega
                clear htq hlt3 hL2
                go_wp2_with fail
                go_roundw
                case rel => exact ⟨j + 1, L2, c2, A2, by omega, by go_num, rfl, Lib.hid (by
                  have hfin := HP3.out
                  have e : (someP ⟨st, (q : Int)⟩).take t2 = someP ⟨st, (q : Int)⟩ := List.take_of_length_le (by rw [HSL.out]; exact Nat.le_of_eq HTQ.out.symm)
                  rw [e] at hfin
                  rw [hSn.out]
                  exact hfin)⟩
                case measure => simp [intOf]; omega
    · have hjm : j = m := by omega
      have HJM : Hid (Q.take j = Q) := Lib.hid (List.take_of_length_le (by rw [HM.out]; omega))
      have k1 : ¬ (j : Int) < (m : Int) := by omega
      have HP' := HP.out
      rw [HJM.out] at HP'
      have HL := HP'.len
      subst HL
      have HPP := Lib.hid HP'
      clear hjm hlt HP' HP
      go_wp2_with fail
      go_ret
      exact ⟨_, _, rfl, HPP.out.row, HPP.out.bel⟩
end Go.Proofs.Ytohfbmgonjkhhaa.L9
