/-
  Contracts: whether topics and members may be: the program's and the document's.
-/
import Derived.Test.YthongbobopampaaAsSmall
import Derived.Deep.RegionHeld3
namespace Go.Proofs.Ythongbobopampaa.L10
open Go.RowKit
open L3 L4 L9

theorem load_no (w : World) (A : Option Addr) (n c : Nat) (l : List Pt) (x : Int) (hx : x ≠ 0) (hL : Hid (IsL w w.heap.size A n c l)) (HX : Hid (loadE l x)) :
    Calls Try.prog 24 #[.slice A n c] w fun e w' => e = .returned (.tuple #[.pointer none, .int .i64 x]) ∧ Below w.heap.size w w' :=
  (load_is w A n c l x (Lib.hid hL.out.len) hL.out.n1 (Lib.hid hL.out.rd) (Lib.hid hL.out.sz) HX).mono fun e w' ⟨h1, h2⟩ => by
    rcases h2 with ⟨_, h⟩ | ⟨h, _⟩
    · exact ⟨h, h1⟩
    · exact absurd h hx
theorem load_yes (w : World) (A : Option Addr) (n c : Nat) (l : List Pt) (hL : Hid (IsL w w.heap.size A n c l)) (HX : Hid (loadE l 0)) :
    Calls Try.prog 24 #[.slice A n c] w fun e w' => ∃ g, e = .returned (.tuple #[.pointer (some ⟨g, 0, none⟩), .int .i64 0]) ∧ Below w.heap.size w w' :=
  (load_is w A n c l 0 (Lib.hid hL.out.len) hL.out.n1 (Lib.hid hL.out.rd) (Lib.hid hL.out.sz) HX).mono fun e w' ⟨h1, h2⟩ => by
    rcases h2 with ⟨h, _⟩ | ⟨_, _, g, b, he, _⟩
    · exact absurd rfl h
    · exact ⟨g, he, h1⟩
theorem rload_no (w : World) (A : Option Addr) (n c : Nat) (l : List Pt) (x : Int) (hx : x ≠ 0) (hL : Hid (IsL w w.heap.size A n c l)) (HX : Hid (loadE l x)) :
    Calls Try.prog 22 #[.slice A n c] w fun e w' => e = .returned (.tuple #[.pointer none, .int .i64 x]) ∧ Below w.heap.size w w' :=
  (rload_is w A n c l x (Lib.hid hL.out.len) hL.out.n1 (Lib.hid hL.out.rd) (Lib.hid hL.out.nil) (Lib.hid (fun y hy => by have := hL.out.sz y hy; unfold maxLen; omega)) HX).mono fun e w' ⟨h1, h2⟩ => by
    rcases h2 with ⟨_, h⟩ | ⟨h, _⟩
    · exact ⟨h, h1⟩
    · exact absurd h hx
theorem rload_yes (w : World) (A : Option Addr) (n c : Nat) (l : List Pt) (hL : Hid (IsL w w.heap.size A n c l)) (HX : Hid (loadE l 0)) :
    Calls Try.prog 22 #[.slice A n c] w fun e w' => ∃ g, e = .returned (.tuple #[.pointer (some ⟨g, 0, none⟩), .int .i64 0]) ∧ Below w.heap.size w w' :=
  (rload_is w A n c l 0 (Lib.hid hL.out.len) hL.out.n1 (Lib.hid hL.out.rd) (Lib.hid hL.out.nil) (Lib.hid (fun y hy => by have := hL.out.sz y hy; unfold maxLen; omega)) HX).mono fun e w' ⟨h1, h2⟩ => by
    rcases h2 with ⟨h, _⟩ | ⟨_, _, g, b, c', he, _⟩
    · exact absurd rfl h
    · exact ⟨g, he, h1⟩
theorem ne_zero {y : Int} (h : y ≠ 0) : (y != 0) = true := by simpa using h
theorem rise_next {ms : List Mb} {k : Nat} (h : RiseTo ms k) (h' : 0 < k → riseAt ms k) : RiseTo ms (k + 1) := fun i h0 hi => by
  by_cases e : i = k
  · subst e; exact h' h0
  · exact h i h0 (by omega)
theorem rise_more {ms : List Mb} {k : Nat} (h : RiseTo ms k) (hk : ms.length ≤ k) : RiseTo ms ms.length := fun i h0 hi => h i h0 (by omega)
theorem keep2 {W w1 w2 : World} {a1 a2 : Addr} {v1 v2 : Value} (h : (w1.cell? a1 = some v1 ∧ w1.cell? a2 = some v2) ∧ Below W.heap.size W w1) (hb : Below w1.heap.size w1 w2) : (w2.cell? a1 = some v1 ∧ w2.cell? a2 = some v2) ∧ Below W.heap.size W w2 :=
  ⟨⟨(hb.cell (World.block_lt_of_cell? _ _ h.1.1)).trans h.1.1, (hb.cell (World.block_lt_of_cell? _ _ h.1.2)).trans h.1.2⟩, h.2.trans (hb.mono h.2.size)⟩
set_option maxRecDepth 100000 in
set_option maxHeartbeats 4000000 in
theorem check_is (w : World) (A Am : Option Addr) (n c nm cm : Nat) (l : List Pt) (ms : List Mb) (x : Int) (hL : Hid (IsL w w.heap.size A n c l)) (hM : Hid (IsM w w.heap.size Am nm cm ms)) (HX : Hid (chkE l ms x)) :
    Calls Try.prog 10 #[.slice A n c, .slice Am nm cm] w fun e w' => e = .returned (.int .i64 x) ∧ Below w.heap.size w w' := by
  obtain ⟨y, hy, hxy⟩ := HX.out
  have HY := Lib.hid hy
  have hm1 := hM.out.n1
  have hml := hM.out.len
  clear hy
  rcases hxy with ⟨y0, rfl⟩ | ⟨rfl, hxy⟩
  · have q := ne_zero y0
    go_enter Try.func10, Try.ntmps10
    go_wp2_with (go_at_call 24; refine (load_no w A n c l x y0 hL HY).mono ?_; rintro e w1 ⟨rfl, hb1⟩; have HB1 := Lib.hid hb1; clear hb1)
    go_ret
    exact ⟨rfl, HB1.out⟩
  · by_cases h8 : 8 < nm
    · obtain rfl : x = 2 := by omega
      have q : (8 : Int) < (nm : Int) := by omega
      clear hxy
      go_enter Try.func10, Try.ntmps10
      go_wp2_with (go_at_call 24; refine (load_yes w A n c l hL HY).mono ?_; rintro e w1 ⟨g1, rfl, hb1⟩; have HB1 := Lib.hid hb1; clear hb1)
      go_ret
      exact ⟨rfl, HB1.out⟩
    · have q : ¬ (8 : Int) < (nm : Int) := by omega
      have HRY : Hid (RiseTo ms ms.length → x = 0) := Lib.hid (fun h => by
        rcases hxy with ⟨a, _⟩ | ⟨_, _, e⟩ | ⟨_, b, _⟩
        · omega
        · exact e
        · exact absurd h b)
      have HRN : Hid (¬ RiseTo ms ms.length → x = 100) := Lib.hid (fun h => by
        rcases hxy with ⟨a, _⟩ | ⟨_, b, e⟩ | ⟨_, b, e⟩
        · omega
        · exact absurd b h
        · exact e)
      have HML := Lib.hid hml
      clear hxy hml
      go_enter Try.func10, Try.ntmps10
      go_wp2_with (go_at_call 24; refine (load_yes w A n c l hL HY).mono ?_; rintro e w1 ⟨g1, rfl, hb1⟩; have HB1 := Lib.hid hb1; clear hb1)
      go_loopw [7] (fun i wr => ∃ k : Nat, 1 ≤ k ∧ i = .int .i64 k ∧ k ≤ nm + 1 ∧ Hid (RiseTo ms k) ∧ Hid (Below w.heap.size w wr)) (fun i _ => nm + 1 - (intOf i).toNat)
      case atStart => exact ⟨1, by omega, rfl, by omega, Lib.hid (fun i h0 hi => by omega), HB1⟩
      case round =>
        obtain ⟨k, hk1, rfl, hkn, HRT, HB⟩ := hrel
        by_cases hlt : k < nm
        · obtain ⟨g, rfl, hg, hc⟩ := hM.out.rd (by rw [HML.out]; omega)
          obtain ⟨⟨nk, tk⟩, hs⟩ : ∃ s, ms[k]? = some s := ⟨_, List.getElem?_eq_getElem (by rw [HML.out]; omega)⟩
          obtain ⟨⟨np, tp⟩, hp⟩ : ∃ s, ms[k - 1]? = some s := ⟨_, List.getElem?_eq_getElem (by rw [HML.out]; omega)⟩
          have d0 := (HB.out.cell (p := ⟨g, k * 2, none⟩) hg).trans (hc k _ hs).1
          have g0 := (HB.out.cell (p := ⟨g, (k - 1) * 2, none⟩) hg).trans (hc _ _ hp).1
          dsimp only at d0 g0
          have ZN : Hid (np.size ≤ maxLen ∧ nk.size ≤ maxLen) := Lib.hid (by
            have h1 := (hM.out.sz _ (List.mem_of_getElem? hs)).1
            have h2 := (hM.out.sz _ (List.mem_of_getElem? hp)).1
            dsimp only at h1 h2
            unfold maxLen; omega)
          obtain ⟨j, hj⟩ : ∃ j, k - 1 = j := ⟨_, rfl⟩
          rw [hj] at g0 hp
          have i1 : IntKind.i64.wrap ((k : Int) - 1) = (k : Int) - 1 := by rw [IntKind.wrap_i64]; omega
          have j0 : (0 : Int) ≤ (k : Int) - 1 := by omega
          have j1 : (k : Int) - 1 < (nm : Int) := by omega
          have j2 : (0 : Int) ≤ (k : Int) := by omega
          have j5 : (1 : Int) ≤ (k : Int) := by omega
          have j7 : (k : Int) < (nm : Int) := by omega
          have j8 : (k : Int) ≤ (nm : Int) := by omega
          have j3 : ((k : Int) - 1).toNat = j := by omega
          obtain ⟨b, hb⟩ : ∃ b, lessB np nk = b := ⟨_, rfl⟩
          have HAT : Hid (riseAt ms k ↔ b = true) := Lib.hid (by
            unfold riseAt
            rw [hj, hs, hp, ← hb]
            exact ⟨fun h => h _ _ rfl rfl, fun h x y hx hy => by injection hx with hx; injection hy with hy; subst hx; subst hy; exact h⟩)
          have HNX : Hid (b = true → RiseTo ms (k + 1)) := Lib.hid (fun e => rise_next HRT.out (fun _ => HAT.out.2 e))
          have HBD : Hid (b = false → x = 100) := Lib.hid (fun e => HRN.out (fun h => by have := HAT.out.1 (h k (by omega) (by rw [HML.out]; exact hlt)); rw [e] at this; cases this))
          have hleq := leq_less nk np
          rw [hb] at hleq
          clear hc hs hp hb hj
          cases b with
          | true =>
            have q3 : Op.bytesLess nk.toList np.toList = false := (Bool.or_eq_false_iff.1 hleq).1
            have q4 : (nk.toList == np.toList) = false := (Bool.or_eq_false_iff.1 hleq).2
            clear hleq
            go_wp2_with fail
            go_quiet (fail)
            go_wp2_with fail
            go_roundw
            case rel => exact ⟨k + 1, by omega, by go_num, by omega, Lib.hid (HNX.out (by simp)), Lib.hid (drewN_below HB.out _)⟩
            case measure => simp [intOf]; omega
          | false =>
            have hleq' : (Op.bytesLess nk.toList np.toList || nk.toList == np.toList) = true := hleq
            clear hleq
            go_wp2_with fail
            go_quiet (fail)
            go_wp2_with fail
            go_ret
            exact ⟨congrArg Ending.returned (congrArg (Value.int .i64) (HBD.out (by simp)).symm), drewN_below HB.out _⟩
        · have HD : Hid (x = 0) := Lib.hid (HRY.out (rise_more HRT.out (by rw [HML.out]; omega)))
          have q7 : ¬ (k : Int) < (nm : Int) := by omega
          go_wp2_with fail
          go_ret
          exact ⟨congrArg Ending.returned (congrArg (Value.int .i64) HD.out.symm), HB.out⟩
set_option maxRecDepth 100000 in
set_option maxHeartbeats 4000000 in
theorem rcheck_is (w : World) (A Am : Option Addr) (n c nm cm : Nat) (l : List Pt) (ms : List Mb) (x : Int) (hL : Hid (IsL w w.heap.size A n c l)) (hM : Hid (IsM w w.heap.size Am nm cm ms)) (HX : Hid (chkE l ms x)) :
    Calls Try.prog 9 #[.slice A n c, .slice Am nm cm] w fun e w' => e = .returned (.int .i64 x) ∧ Below w.heap.size w w' := by
  obtain ⟨y, hy, hxy⟩ := HX.out
  have HY := Lib.hid hy
  have hm1 := hM.out.n1
  have hml := hM.out.len
  clear hy
  rcases hxy with ⟨y0, rfl⟩ | ⟨rfl, hxy⟩
  · have q := ne_zero y0
    go_enter Try.func9, Try.ntmps9
    go_wp2_with (go_at_call 22; refine (rload_no w A n c l x y0 hL HY).mono ?_; rintro e w1 ⟨rfl, hb1⟩; have HB1 := Lib.hid hb1; clear hb1)
    go_ret
    exact ⟨rfl, HB1.out⟩
  · by_cases h8 : 8 < nm
    · obtain rfl : x = 2 := by omega
      have q : (8 : Int) < (nm : Int) := by omega
      clear hxy
      go_enter Try.func9, Try.ntmps9
      go_wp2_with (go_at_call 22; refine (rload_yes w A n c l hL HY).mono ?_; rintro e w1 ⟨g1, rfl, hb1⟩; have HB1 := Lib.hid hb1; clear hb1)
      go_ret
      exact ⟨rfl, HB1.out⟩
    · have q : ¬ (8 : Int) < (nm : Int) := by omega
      have HRY : Hid (RiseTo ms ms.length → x = 0) := Lib.hid (fun h => by
        rcases hxy with ⟨a, _⟩ | ⟨_, _, e⟩ | ⟨_, b, _⟩
        · omega
        · exact e
        · exact absurd h b)
      have HRN : Hid (¬ RiseTo ms ms.length → x = 100) := Lib.hid (fun h => by
        rcases hxy with ⟨a, _⟩ | ⟨_, b, e⟩ | ⟨_, b, e⟩
        · omega
        · exact absurd b h
        · exact e)
      have HML := Lib.hid hml
      clear hxy hml
      go_enter Try.func9, Try.ntmps9
      go_wp2_with (go_at_call 22; refine (rload_yes w A n c l hL HY).mono ?_; rintro e w1 ⟨g1, rfl, hb1⟩; have HB1 := Lib.hid hb1; clear hb1)
      go_loopw [7] (fun i wr => ∃ k : Nat, 1 ≤ k ∧ i = .int .i64 k ∧ k ≤ nm + 1 ∧ Hid (RiseTo ms k) ∧ Hid (Below w.heap.size w wr)) (fun i _ => nm + 1 - (intOf i).toNat)
      case atStart => exact ⟨1, by omega, rfl, by omega, Lib.hid (fun i h0 hi => by omega), HB1⟩
      case round =>
        obtain ⟨k, hk1, rfl, hkn, HRT, HB⟩ := hrel
        by_cases hlt : k < nm
        · obtain ⟨g, rfl, hg, hc⟩ := hM.out.rd (by rw [HML.out]; omega)
          obtain ⟨⟨nk, tk⟩, hs⟩ : ∃ s, ms[k]? = some s := ⟨_, List.getElem?_eq_getElem (by rw [HML.out]; omega)⟩
          obtain ⟨⟨np, tp⟩, hp⟩ : ∃ s, ms[k - 1]? = some s := ⟨_, List.getElem?_eq_getElem (by rw [HML.out]; omega)⟩
          have d0 := (HB.out.cell (p := ⟨g, k * 2, none⟩) hg).trans (hc k _ hs).1
          have g0 := (HB.out.cell (p := ⟨g, (k - 1) * 2, none⟩) hg).trans (hc _ _ hp).1
          dsimp only at d0 g0
          have ZN : Hid (np.size ≤ maxLen ∧ nk.size ≤ maxLen) := Lib.hid (by
            have h1 := (hM.out.sz _ (List.mem_of_getElem? hs)).1
            have h2 := (hM.out.sz _ (List.mem_of_getElem? hp)).1
            dsimp only at h1 h2
            unfold maxLen; omega)
          obtain ⟨j, hj⟩ : ∃ j, k - 1 = j := ⟨_, rfl⟩
          rw [hj] at g0 hp
          have i1 : IntKind.i64.wrap ((k : Int) - 1) = (k : Int) - 1 := by rw [IntKind.wrap_i64]; omega
          have j0 : (0 : Int) ≤ (k : Int) - 1 := by omega
          have j1 : (k : Int) - 1 < (nm : Int) := by omega
          have j2 : (0 : Int) ≤ (k : Int) := by omega
          have j5 : (1 : Int) ≤ (k : Int) := by omega
          have j7 : (k : Int) < (nm : Int) := by omega
          have j8 : (k : Int) ≤ (nm : Int) := by omega
          have j3 : ((k : Int) - 1).toNat = j := by omega
          obtain ⟨b, hb⟩ : ∃ b, lessB np nk = b := ⟨_, rfl⟩
          have HAT : Hid (riseAt ms k ↔ b = true) := Lib.hid (by
            unfold riseAt
            rw [hj, hs, hp, ← hb]
            exact ⟨fun h => h _ _ rfl rfl, fun h x y hx hy => by injection hx with hx; injection hy with hy; subst hx; subst hy; exact h⟩)
          have HNX : Hid (b = true → RiseTo ms (k + 1)) := Lib.hid (fun e => rise_next HRT.out (fun _ => HAT.out.2 e))
          have HBD : Hid (b = false → x = 100) := Lib.hid (fun e => HRN.out (fun h => by have := HAT.out.1 (h k (by omega) (by rw [HML.out]; exact hlt)); rw [e] at this; cases this))
          have HB' := Lib.hid hb
          have hbel := HB.out
          clear hc hs hp hb hj
          go_wp2_with fail
          go_region_held3 (fun w' => (w'.cell? ⟨g, k * 2, none⟩ = some (.string nk) ∧ w'.cell? ⟨g, j * 2, none⟩ = some (.string np)) ∧ Below w.heap.size w w')
            (first | with_reducible assumption | exact ⟨⟨d0, g0⟩, hbel.drew⟩ | exact keep2 (by with_reducible assumption) (by with_reducible assumption))
            (first
              | (go_at_call 23; refine (rless_is np nk b _ ZN.out.1 ZN.out.2 HB').mono ?_; rintro e w2 ⟨rfl, hb2⟩))
          rename_i hHeld
          have HH := Lib.hid hHeld.2
          clear hHeld
          cases b with
          | true =>
            go_wp2_with fail
            go_roundw
            case rel => exact ⟨k + 1, by omega, by go_num, by omega, Lib.hid (HNX.out (by simp)), HH⟩
            case measure => simp [intOf]; omega
          | false =>
            go_wp2_with fail
            go_ret
            exact ⟨congrArg Ending.returned (congrArg (Value.int .i64) (HBD.out (by simp)).symm), HH.out⟩
        · have HD : Hid (x = 0) := Lib.hid (HRY.out (rise_more HRT.out (by rw [HML.out]; omega)))
          have q7 : ¬ (k : Int) < (nm : Int) := by omega
          go_wp2_with fail
          go_ret
          exact ⟨congrArg Ending.returned (congrArg (Value.int .i64) HD.out.symm), HB.out⟩
end Go.Proofs.Ythongbobopampaa.L10
