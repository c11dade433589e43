/-
  The document's comparison of what is told.
-/
import Derived.Test.YtcmlopflandlgaaDdBefore
import Derived.Laws.StructEq
import Derived.BigQuiet
namespace Go.Proofs.Ytcmlopflandlgaa.L8
open Go.RowKit
open L3 L4

set_option maxRecDepth 100000 in
theorem eq_did (w : World) (s n o : Int) : (Op.equal 50 (.agg #[.int .i64 s, .int .i64 n, .int .i64 o]) (.agg #[.int .i64 s, .int .i64 n, .int .i64 o])).run Try.prog w = .ok true w := by
  unfold Op.equal
  rw [show Op.maxDepth = 9999 + 1 from rfl, run_equalIn_struct w 9999 50 _ _ (by simp [Program.fieldsOf, Try.underlying50]) (by kernel_rfl)]
  simp [Program.fieldsOf, Try.underlying50, go_sem]
theorem row_did {w : World} {A : Option Addr} {l : List Did} (h : RowD w A l) {i : Nat} (hi : i < l.length) : ∃ g o s n f, A = some ⟨g, o, none⟩ ∧ l[i]? = some ⟨s, n, f⟩ ∧ w.cell? ⟨g, o + i * 3, none⟩ = some (.int .i64 s) ∧ w.cell? ⟨g, o + i * 3 + 1, none⟩ = some (.int .i64 n) ∧ w.cell? ⟨g, o + i * 3 + 2, none⟩ = some (.int .i64 f) := by
  obtain ⟨g, o, cs, fr, e, _, hc⟩ := h (by omega)
  obtain ⟨⟨s, n, f⟩, hd⟩ : ∃ d, l[i]? = some d := ⟨_, List.getElem?_eq_getElem hi⟩
  obtain ⟨c0, c1, c2⟩ := hc i _ hd
  exact ⟨g, o, s, n, f, e, hd, c0, c1, c2⟩
set_option maxRecDepth 100000 in
set_option maxHeartbeats 8000000 in
theorem rsame_is (A A' : Option Addr) (vs vs' : List MV) (m c c' : Nat) (w : World) (hm : Hid (vs.length = m)) (HE : Hid (vs.map (·.m) = vs'.map (·.m))) (HX : Hid (ReadsM w A vs)) (HX' : Hid (ReadsM w A' vs')) (HR : Hid (RowsIn w vs)) (HR' : Hid (RowsIn w vs')) (HT : Hid (Texts (vs.map (·.m)))) (h1 : m ≤ 100000) (HL : Hid (∀ v ∈ vs, v.m.l.length ≤ 100000)) :
    Calls Try.prog 24 #[.slice A m c, .slice A' m c'] w fun e w' => e = .returned (.bool true) ∧ Below w.heap.size w w' := by
  have hm' : Hid (vs'.length = m) := Lib.hid (by have := congrArg List.length HE.out; simpa [hm.out] using this.symm)
  go_enter Try.func24, Try.ntmps24
  go_wp2_with fail
  go_loopw [5] (fun i wr => ∃ k : Nat, k ≤ m ∧ i = .int .i64 k ∧ Below w.heap.size w wr) (fun i _ => m - (intOf i).toNat)
  case atStart => exact ⟨0, by omega, rfl, Below.refl _ _⟩
  case round =>
    obtain ⟨k, hk, rfl, hbel⟩ := hrel
    by_cases hlt : k < m
    · obtain ⟨g, o, rfl, hg, hc⟩ := HX.out (by rw [hm.out]; omega)
      obtain ⟨g', o', rfl, hg', hc'⟩ := HX'.out (by rw [hm'.out]; omega)
      obtain ⟨⟨⟨xi, xe, xt, xp, xl⟩, vA, vc⟩, hv⟩ : ∃ v, vs[k]? = some v := ⟨_, List.getElem?_eq_getElem (by rw [hm.out]; omega)⟩
      obtain ⟨⟨xm, uA, uc⟩, hu⟩ : ∃ v, vs'[k]? = some v := ⟨_, List.getElem?_eq_getElem (by rw [hm'.out]; omega)⟩
      obtain rfl : xm = ⟨xi, xe, xt, xp, xl⟩ := by
        have e := congrArg (fun l : List Mk => l[k]?) HE.out
        simp only [List.getElem?_map, hv, hu, Option.map_some] at e
        injection e with e; exact e.symm
      obtain ⟨c0, c1, c2, c3, c4⟩ := hc k _ hv
      obtain ⟨b0, b1, b2, b3, b4⟩ := hc' k _ hu
      dsimp only at c0 c1 c2 c3 c4 b0 b1 b2 b3 b4
      obtain ⟨nl, hnl⟩ : ∃ n, xl.length = n := ⟨_, rfl⟩
      rw [hnl] at c4 b4
      have HNL := Lib.hid hnl
      have nl1 : nl ≤ 100000 := by rw [← hnl]; exact HL.out _ (List.mem_of_getElem? hv)
      have HD := Lib.hid (HR.out _ (List.mem_of_getElem? hv)).1
      have HD' := Lib.hid (HR'.out _ (List.mem_of_getElem? hu)).1
      obtain ⟨z1, z2⟩ := HT.out _ (List.mem_map_of_mem (List.mem_of_getElem? hv))
      have hq := fun W => eq_parts W xt xt xp xp (by unfold maxLen; dsimp only at z1; omega) z2 (by unfold maxLen; dsimp only at z1; omega) z2
      rw [decide_eq_true (And.intro rfl rfl)] at hq
      have k0 : (0 : Int) ≤ (k : Int) := by omega
      have k1 : (k : Int) < (m : Int) := by omega
      have C4 := Lib.hid c4
      have B4 := Lib.hid b4
      replace c0 := cell_at hbel c0; replace c1 := cell_at hbel c1; replace c2 := cell_at hbel c2; replace c3 := cell_at hbel c3; replace c4 := cell_at hbel c4
      replace b0 := cell_at hbel b0; replace b1 := cell_at hbel b1; replace b2 := cell_at hbel b2; replace b3 := cell_at hbel b3; replace b4 := cell_at hbel b4
      clear hc hc' hv hu hnl z1 z2 hlt hg hg'
      go_wp2_with fail
      go_quiet (fail)
      go_wp2_with fail
      go_loopw [6] (fun jv w2 => ∃ i : Nat, i ≤ nl ∧ jv = .int .i64 i ∧ Below w.heap.size w w2) (fun jv _ => nl - (intOf jv).toNat)
      case atStart => exact ⟨0, by omega, rfl, drewN_below hbel nq⟩
      case round =>
        obtain ⟨i, hi, rfl, hb2⟩ := hrel
        have f4 := cell_at hb2 C4.out
        have g4 := cell_at hb2 B4.out
        by_cases hl2 : i < nl
        · obtain ⟨y, yo, s1, s2, s3, rfl, hd, p0, p1, p2⟩ := row_did HD.out.1 (i := i) (by rw [HNL.out]; exact hl2)
          obtain ⟨z, zo, r1, r2, r3, rfl, hd', q0, q1, q2⟩ := row_did HD'.out.1 (i := i) (by rw [HNL.out]; exact hl2)
          obtain ⟨rfl, rfl, rfl⟩ : s1 = r1 ∧ s2 = r2 ∧ s3 = r3 := by
            have e := hd.symm.trans hd'
            injection e with e; injection e with e1 e2 e3; exact ⟨e1, e2, e3⟩
          have j0 : (0 : Int) ≤ (i : Int) := by omega
          have j1 : (i : Int) < (nl : Int) := by omega
          have hd3 := fun W => eq_did W s1 s2 s3
          replace p0 := cell_at hb2 p0; replace p1 := cell_at hb2 p1; replace p2 := cell_at hb2 p2
          replace q0 := cell_at hb2 q0; replace q1 := cell_at hb2 q1; replace q2 := cell_at hb2 q2
          clear hd hd' hl2 c0 c1 c2 c3 c4 b0 b1 b2 b3 b4 hq
          go_wp2_with fail
          go_quiet (fail)
          go_wp2_with fail
          go_roundw
          case rel => exact ⟨i + 1, by omega, by go_num, drewN_below hb2 _⟩
          case measure => simp [intOf]; omega
        · obtain rfl : i = nl := by omega
          have j1 : ¬ (i : Int) < (i : Int) := by omega
          go_wp2_with fail
          go_roundw
          case rel => exact ⟨k + 1, by omega, by go_num, hb2⟩
          case measure => simp [intOf]; omega
    · obtain rfl : k = m := by omega
      go_wp2_with fail
      go_ret
      exact ⟨rfl, hbel⟩
end Go.Proofs.Ytcmlopflandlgaa.L8
