/-
  Proved: a producer that sends its batches one behind the other, each as often as it likes as long as it is one of the last five, has each appended once, and told where (of at most 40 batches). No condition.
-/
import Derived.Test.YtcmlopflandlgaaRows
import Derived.WalkKit
import Derived.ProofKit
import Derived.OpenShut
import Derived.ShutString
import Derived.ChangeOld
import Derived.Below
import Derived.Test.YtcmlopflandlgaaDdFixed
import Derived.Test.YtcmlopflandlgaaDdFresh
import Derived.Test.YtcmlopflandlgaaDdOnce
import Derived.Test.YtcmlopflandlgaaDdArgs
import Derived.Deep.RegionWith
import Derived.Deep.RegionHeld3
import Derived.Deep.RegionLaw
import Derived.Deep.DeepCutAuto
import Derived.Deep.AppendLies
import Derived.LoopTactic
namespace Go.Proofs.Ytcmlopflandlgaa.dedupOnce
open Go.ChangeShapes Go.WideShapes Go.ChangeAt Go.RowKit Go.Deep
open Go.ChangeMaps (open_string shut_string)
open L3 L4 L8

theorem own : ownKnob Try.prog.godebug = none := by kernel_rfl
theorem laidOut : laidOutB Try.prog = true := by kernel_rfl

theorem mask_n (m : Nat) (hm : m < 9223372036854775808) (x : Int) : 0 ≤ bits .and .i64 x (m : Int) ∧ bits .and .i64 x (m : Int) ≤ m := by
  have e : (BitVec.ofInt 64 x &&& BitVec.ofInt 64 (m : Int)).toNat ≤ m := by
    rw [BitVec.toNat_and]
    refine Nat.le_trans Nat.and_le_right ?_
    rw [BitVec.ofInt_natCast, BitVec.toNat_ofNat, Nat.mod_eq_of_lt (by omega)]
    exact Nat.le_refl _
  show 0 ≤ IntKind.i64.wrap ((BitVec.ofInt 64 x &&& BitVec.ofInt 64 (m : Int)).toNat : Int) ∧ IntKind.i64.wrap ((BitVec.ofInt 64 x &&& BitVec.ofInt 64 (m : Int)).toNat : Int) ≤ m
  rw [IntWalk.i64_in _ (by omega)]
  omega

/-- the law's own things -/
structure OnceW (B : World) (bp a c g : Nat) (L : List Did) (ms : List Mk) (w : World) : Prop where
  tab : MTX B (fun k => k = a) w g L.length [0] ms
  part : w.heap[bp]? = some (.cells #[.string ⟨#[116]⟩, .int .i64 1] 31 (0, 0))
  own : w.ownsRow B.heap.size 50 3 (.slice (some ⟨a, 0, none⟩) L.length c) L.length (rowD L)
theorem own_slot {w : World} {base n c a s : Nat} {T : TypeId} {xs : List Value} (h : w.ownsRow base T s (.slice (some ⟨a, 0, none⟩) n c) n xs) : ∃ cs, base ≤ a ∧ w.heap[a]? = some (.cells cs T (0, 0)) := by
  obtain ⟨cs, h1, h2⟩ := own_bk h a (by simp [bk])
  exact ⟨cs, h1, h2⟩
theorem OnceW.below {B w w' : World} {bp a c g : Nat} {L : List Did} {ms : List Mk} (h : OnceW B bp a c g L ms w) (b : Below w.heap.size w w') : OnceW B bp a c g L ms w' :=
  ⟨h.tab.below b, (b.block bp (Array.getElem?_eq_some_iff.1 h.part).1).trans h.part, L8.own_below h.own b⟩
theorem OnceW.lt {B w : World} {bp a c g : Nat} {L : List Did} {ms : List Mk} (h : OnceW B bp a c g L ms w) : a < w.heap.size := by
  obtain ⟨cs, _, h2⟩ := own_slot h.own
  exact (Array.getElem?_eq_some_iff.1 h2).1
/-- behind Done: what is in memory beside the table -/
theorem once_fr {B w w' : World} {bp a c g : Nat} {L : List Did} {ms : List Mk} (h : OnceW B bp a c g L ms w) (f : Fr w w') : w'.heap[bp]? = some (.cells #[.string ⟨#[116]⟩, .int .i64 1] 31 (0, 0)) ∧ w'.ownsRow B.heap.size 50 3 (.slice (some ⟨a, 0, none⟩) L.length c) L.length (rowD L) := by
  refine ⟨f.box h.part (by decide) (by decide), own_at h.own (fun k e => ?_)⟩
  obtain ⟨cs, _, h2⟩ := own_slot h.own
  rw [blk_own] at e
  injection e with e
  subst e
  exact f.keep _ cs _ _ h2 (by decide) (by decide)
section
variable {W w1 w2 : World} {a1 a2 a3 a4 : Addr} {v1 v2 v3 v4 : Value}
theorem keep4d (h : (w1.cell? a1 = some v1 ∧ w1.cell? a2 = some v2 ∧ w1.cell? a3 = some v3 ∧ w1.cell? a4 = some v4) ∧ Below W.heap.size W w1) (hb : Below w1.heap.size w1 w2) :
    (w2.cell? a1 = some v1 ∧ w2.cell? a2 = some v2 ∧ w2.cell? a3 = some v3 ∧ w2.cell? a4 = some v4) ∧ Below W.heap.size W w2 := by
  obtain ⟨⟨h1, h2, h3, h4⟩, ho⟩ := h
  exact ⟨⟨cell_at hb h1, cell_at hb h2, cell_at hb h3, cell_at hb h4⟩, ho.trans (hb.mono ho.size)⟩
end
/-- behind the append -/
theorem once_app {B w w6 : World} {bp a a' c c' g N : Nat} {es : List Int} {L L' : List Did} {ms : List Mk} {o : Obj} (ht : MTX B (fun k => k = a) w g N es ms) (hp : w.heap[bp]? = some (.cells #[.string ⟨#[116]⟩, .int .i64 1] 31 (0, 0)))
    (ho : w.ownsRow B.heap.size 50 3 (.slice (some ⟨a, 0, none⟩) L.length c) L.length (rowD L)) (hg : (w.alloc o).grownBy w6 (some a)) (hor : a = a' ∨ a' = w.heap.size + 1)
    (hown : w6.ownsRow B.heap.size 50 3 (.slice (some ⟨a', 0, none⟩) L'.length c') L'.length (rowD L')) (hN : N = L'.length) (he : es = [0]) : OnceW B bp a' c' g L' ms w6 := by
  subst hN
  subst he
  obtain ⟨cs, hb, h2⟩ := own_slot ho
  have hal : a < w.heap.size := (Array.getElem?_eq_some_iff.1 h2).1
  have o1 : Only [a] w w6 := (Only.ofBelow (one_box' o)).trans (S' := [a]) ((Only.refl [a] (w.alloc o)).grown hg (fun k e => .inl (by injection e with e; simp [e]))) (fun k hk => .inl hk) |>.mono (fun k hk => .inl hk)
  have ht1 := ht.more.other (Or.inl rfl) h2 hb o1
  refine ⟨ht1.less (fun k hk => ?_), ?_, hown⟩
  · subst hk
    rcases hor with rfl | hor
    · exact .inl rfl
    · exact .inr (by omega)
  · have hpa : bp ≠ a := fun e => by rw [e, h2] at hp; injection hp with e; injection e with _ e; exact absurd e (by decide)
    exact (o1.block bp (Array.getElem?_eq_some_iff.1 hp).1 (by simp [hpa])).trans hp
set_option maxRecDepth 100000 in
set_option maxHeartbeats 16000000 in
theorem walk (w : World) (A0 : Option Addr) (l0 : List Int) (c0 : Nat) (R0 : IsNums w A0 l0 ∧ l0.length ≤ c0) (A1 : Option Addr) (l1 : List Int) (c1 : Nat) (R1 : IsNums w A1 l1 ∧ l1.length ≤ c1) :
    Calls Try.prog 5 #[.slice A0 l0.length c0, .slice A1 l1.length c1] w fun e w' => e = .returned (.bool true) ∧ Below w.heap.size w w' := by
  obtain ⟨i0, hi0, hz0, hz1, hz2⟩ := info_parts didInfo
  obtain ⟨m, hm⟩ : ∃ m, l0.length = m := ⟨_, rfl⟩
  obtain ⟨⟨HNUM, _, hnm⟩, hnc⟩ := R0
  rw [hm] at hnm hnc ⊢
  unfold maxLen at hnm
  have HL0 := Lib.hid hm
  obtain ⟨m1, hm1⟩ : ∃ m, l1.length = m := ⟨_, rfl⟩
  obtain ⟨⟨HNUM1, _, hnm1⟩, hnc1⟩ := R1
  rw [hm1] at hnm1 hnc1 ⊢
  unfold maxLen at hnm1
  have HL1 := Lib.hid hm1
  have E0 : Hid (openR [] 0 = (1, 0, 0)) := Lib.hid (by decide)
  have PW : Hid ((Lit.int .i64 1).wf = true) := Lib.hid (by decide)
  have HT1 : Hid ((⟨#[116]⟩ : ByteArray).size ≤ maxLen) := Lib.hid (by decide)
  clear hm hm1
  go_enter Try.func5, Try.ntmps5
  go_upto_region 4 with (go_at_call 7; refine (m8_new w w (Lib.hid (Below.refl _ _))).mono ?_; rintro e w1 ⟨g, rfl, hM1, hb1⟩; have M1 := Lib.hid hM1; clear hM1)
  obtain ⟨W1, hW1⟩ : ∃ W1, w1.alloc (.cells #[.string ⟨#[116]⟩, .int .i64 1] 31) = W1 := ⟨_, rfl⟩
  obtain ⟨bp, hbp⟩ : ∃ bp, w1.heap.size = bp := ⟨_, rfl⟩
  have M2 : Hid (MT w W1 g 0 [] []) := Lib.hid (M1.out.below (by rw [← hW1]; exact one_box' _))
  have HP2 : Hid (W1.heap[bp]? = some (.cells #[.string ⟨#[116]⟩, .int .i64 1] 31 (0, 0))) := Lib.hid (by rw [← hW1, ← hbp]; exact heap_alloc_new _ _)
  rw [hW1, hbp]
  clear hW1 hbp hb1 M1
  go_upto_region 5 with (go_at_call 9; refine (m8_open 0 1 0 0 M2 E0).mono ?_; rintro e w3 ⟨rfl, hM3, hF3⟩; have M3 : Hid (MT w w3 g 0 [0] []) := Lib.hid hM3; have HP3 := Lib.hid (hF3.box HP2.out (by decide) (by decide)); clear hM3 hF3)
  go_wp2_with fail
  go_loopw [10, 11, 12] (fun z s i wr => ∃ (j a c : Nat) (zz : Int) (L : List Did) (ms : List Mk), j ≤ 40 ∧ z = .int .i64 zz ∧ s = .slice (some ⟨a, 0, none⟩) j c ∧ i = .int .i64 j ∧ Hid (L.length = j) ∧ 0 ≤ zz ∧ zz ≤ 8 * j ∧ Hid (OnceL L zz) ∧ Hid (OnceM ⟨#[116]⟩ L ms) ∧ Hid (OnceW w bp a c g L ms wr)) (fun _ _ i _ => 40 - (intOf i).toNat)
  case atStart =>
    exact ⟨0, w3.heap.size, 0, 0, [], [], by omega, rfl, rfl, rfl, Lib.hid rfl, by omega, by omega, Lib.hid once_nil, Lib.hid (.inl ⟨rfl, rfl⟩), Lib.hid ⟨(MTX.ofNil M3.out).below (one_box' _), (Below.heap_alloc _ _ _ (Array.getElem?_eq_some_iff.1 HP3.out).1).trans HP3.out, by simpa [rowD] using World.ownsRow_made (size := 3) w3 #[] 0 M3.out.2.1.size (by unfold maxLen; omega) rfl⟩⟩
  case round =>
    obtain ⟨j, a, c, zz, L, ms, hj, rfl, rfl, rfl, HLL, z0, z1, HOL, HOM, HW⟩ := hrel
    by_cases hlt : j < m ∧ j < 40
    · obtain ⟨h1, h2⟩ := hlt
      obtain ⟨og, oo, x, rfl, hog, _, hc⟩ := HNUM.out.at (i := j) (by rw [HL0.out]; exact h1)
      have d0 := (HW.out.tab.2.1.cell (p := ⟨og, oo + j, none⟩) hog).trans hc
      obtain ⟨b, hbm⟩ : ∃ b, bits .and .i64 x 7 = b := ⟨_, rfl⟩
      have hb := mask_n 7 (by decide) x
      rw [show ((7 : Nat) : Int) = 7 from rfl, hbm] at hb
      obtain ⟨n, hn⟩ : ∃ n : Nat, 1 + b = (n : Int) := ⟨(1 + b).toNat, by omega⟩
      have n1 : 1 ≤ n := by omega
      have n8 : n ≤ 8 := by omega
      have j0 : (0 : Int) ≤ (j : Int) := by omega
      have j1 : (j : Int) < (m : Int) := by omega
      have j2 : (j : Int) < 40 := by omega
      have HOFF : Hid (numB8 (100 + 3 * (j : Int)) = true) := Lib.hid (by simp [numB8]; omega)
      have HA := Lib.hid (once_ask HOM.out HOL.out n)
      have HD := Lib.hid (once_doneM HOM.out HOL.out n1 HOFF.out)
      have HLA := Lib.hid (once_last HOM.out)
      have HON := Lib.hid (once_next HOM.out HOL.out n1 HOFF.out)
      have HOA := Lib.hid (once_add HOL.out n1 n8 (by rw [HLL.out]; omega) (100 + 3 * (j : Int)))
      clear hc
      go_upto_region 10 with fail
      go_upto_region 11 with (go_at_call 21; refine (of_is 1 0 zz n wr (by omega)).mono ?_; rintro e w2 ⟨R2, rc2, rfl, hb2⟩; have HW2 := Lib.hid (HW.out.below hb2); have HB2 := Lib.hid hb2; clear hb2)
      obtain ⟨W3, hW3⟩ : ∃ W3, w2.alloc (.cells #[.int .i64 1, .int .i64 0, .int .i64 zz, .slice R2 n rc2] 34) = W3 := ⟨_, rfl⟩
      obtain ⟨bb, hbb⟩ : ∃ bb, w2.heap.size = bb := ⟨_, rfl⟩
      have HW3 : Hid (OnceW w bp a c g L ms W3) := Lib.hid (HW2.out.below (by rw [← hW3]; exact one_box' _))
      have hr3 : W3.heap[bb]? = some (.cells #[.int .i64 1, .int .i64 0, .int .i64 zz, .slice R2 n rc2] 34 (0, 0)) := by rw [← hW3, ← hbb]; exact heap_alloc_new _ _
      have hB3 : Below wr.heap.size wr W3 := HB2.out.trans (by rw [← hW3]; exact (one_box' _).mono HB2.out.size)
      rw [hW3, hbb]
      have q0 : W3.cell? ⟨bb, 0, none⟩ = some (.int .i64 1) := (cell_of_row _ _ 0 _ _ _ hr3).trans rfl
      have q1 : W3.cell? ⟨bb, 1, none⟩ = some (.int .i64 0) := (cell_of_row _ _ 1 _ _ _ hr3).trans rfl
      have q2 : W3.cell? ⟨bb, 2, none⟩ = some (.int .i64 zz) := (cell_of_row _ _ 2 _ _ _ hr3).trans rfl
      have q3 : W3.cell? ⟨bb, 3, none⟩ = some (.slice R2 n rc2) := (cell_of_row _ _ 3 _ _ _ hr3).trans rfl
      have p0 : W3.cell? ⟨bp, 0, none⟩ = some (.string ⟨#[116]⟩) := (cell_of_row _ _ 0 _ _ _ HW3.out.part).trans rfl
      have p1 : W3.cell? ⟨bp, 1, none⟩ = some (.int .i64 1) := (cell_of_row _ _ 1 _ _ _ HW3.out.part).trans rfl
      have HR3 := Lib.hid hr3
      have HBW3 := Lib.hid hB3
      clear hW3 hbb HW2 hB3 hr3 d0 HB2
      go_upto_region 12 with (go_at_call 11; refine (m8_ask ⟨#[116]⟩ 1 1 0 zz 0 0 false R2 n rc2 (Lib.hid HW3.out.tab.t) HT1.out PW HA).mono ?_; rintro e w4 ⟨rfl, hb4⟩; have HB4 := Lib.hid hb4; clear hb4)
      have r0 := cell_at HB4.out q0; have r1 := cell_at HB4.out q1; have r2 := cell_at HB4.out q2; have r3 := cell_at HB4.out q3
      have s0 := cell_at HB4.out p0; have s1 := cell_at HB4.out p1
      have HW4 := Lib.hid (HW3.out.below HB4.out)
      clear q0 q1 q2 q3 p0 p1 HW3 HA
      go_upto_region 14 with (go_at_call 13; refine (m8_donex ⟨#[116]⟩ 1 1 0 zz (100 + 3 * (j : Int)) R2 n rc2 _ _ (Lib.hid HW4.out.tab) (by decide) PW (Lib.hid (by decide)) (Lib.hid (once_ask HOM.out HOL.out n)) (by omega) HOFF HLA (Lib.hid rfl) (by rw [HLL.out]; omega) (Lib.hid (fun k hk => by subst hk; exact HW4.out.lt)) (Lib.hid (by rw [HD.out]))).mono ?_; rintro e w5 ⟨rfl, hM5, hF5⟩; have HM5 := Lib.hid hM5; have HF5 := Lib.hid hF5; clear hM5 hF5)
      clear r0 r1 r2 r3 s0 s1
      obtain ⟨hp5, ho5⟩ := once_fr HW4.out HF5.out
      rw [HLL.out] at ho5
      have HP5 := Lib.hid hp5
      have HO5 := Lib.hid ho5
      have HS5 : Hid (w.heap.size ≤ w5.heap.size) := Lib.hid (HM5.out.2.1.size)
      clear hp5 ho5
      go_upto_region 15 with (at_builtin; refine wpList_append_lies _ rfl _ _ 46 (by rfl) w.heap.size 50 i0 _ 3 24 Try.underlying46 hi0 hz0 hz1 hz2 rfl (by omega) (.slice (some ⟨a, 0, none⟩) j c) j (rowD L) (by rfl) (HO5.out.alloc _) ⟨w5.heap.size, 0, none⟩ 1 1 [.int .i64 zz, .int .i64 n, .int .i64 (100 + 3 * (j : Int))] (by rfl) (by rfl) (World.news_of_block (cs := #[.int .i64 zz, .int .i64 n, .int .i64 (100 + 3 * (j : Int))]) (t := 50) (fr := (0, 0)) (heap_alloc_new w5 _)) (by simp [Value.oneCell']) (by omega) (by unfold maxLen; omega) (by omega) (by have := HS5.out; simp; omega) (w5.heap.size + 1) (by simp) ?_; intro a' c' w6 ho6 hg6 hor6 hlt6)
      have HL1' : Hid ((L ++ [(⟨zz, n, 100 + 3 * (j : Int)⟩ : Did)]).length = j + 1) := Lib.hid (by simp [HLL.out])
      have HW6 : Hid (OnceW w bp a' c' g (L ++ [(⟨zz, n, 100 + 3 * (j : Int)⟩ : Did)]) (doneM [0] ms ⟨#[116]⟩ 1 1 0 zz n (100 + 3 * (j : Int))) w6) := Lib.hid (once_app HM5.out HP5.out (by rw [HLL.out]; exact HO5.out) hg6 (hor6.imp (fun e => by injection e) id) (by rw [HL1'.out]; simpa [rowD, didC] using ho6) (by simp) rfl)
      obtain ⟨L', hL'⟩ : ∃ L', L ++ [(⟨zz, n, 100 + 3 * (j : Int)⟩ : Did)] = L' := ⟨_, rfl⟩
      obtain ⟨ms', hms'⟩ : ∃ ms', doneM [0] ms ⟨#[116]⟩ 1 1 0 zz n (100 + 3 * (j : Int)) = ms' := ⟨_, rfl⟩
      have HON' : Hid (OnceM ⟨#[116]⟩ L' ms') := Lib.hid (by rw [← hL', ← hms']; exact HON.out)
      have HOA' : Hid (OnceL L' (zz + n)) := Lib.hid (by rw [← hL']; exact HOA.out)
      have HLN : Hid (L'.length = j + 1) := Lib.hid (by rw [← hL']; exact HL1'.out)
      have HWN : Hid (OnceW w bp a' c' g L' ms' w6) := Lib.hid (by rw [← hL', ← hms']; exact HW6.out)
      clear hL' hms' HW6 HL1' HON HOA HW4 HM5 HF5 HO5 HP5 ho6 hg6 hor6 hlt6 HLA HD HB4 HR3 HBW3 HW HOL HOM HLL HOFF HS5
      have z2 : zz + (n : Int) ≤ 8 * ((j : Int) + 1) := by omega
      by_cases hag : j < m1
      · obtain ⟨og1, oo1, y, rfl, hog1, _, hc1⟩ := HNUM1.out.at (i := j) (by rw [HL1.out]; exact hag)
        have d1 := (HWN.out.tab.2.1.cell (p := ⟨og1, oo1 + j, none⟩) hog1).trans hc1
        have j3 : (j : Int) < (m1 : Int) := by omega
        obtain ⟨v, hv⟩ : ∃ v, bits .and .i64 y 65535 = v := ⟨_, rfl⟩
        have hvb := mask_n 65535 (by decide) y
        rw [show ((65535 : Nat) : Int) = 65535 from rfl, hv] at hvb
        obtain ⟨vn, hvn⟩ : ∃ vn : Nat, v = (vn : Int) := ⟨v.toNat, by omega⟩
        obtain ⟨k, hk⟩ : ∃ k, vn % (j + 1) = k := ⟨_, rfl⟩
        have hkj : k < j + 1 := by rw [← hk]; exact Nat.mod_lt _ (by omega)
        have hrem : (vn : Int) % ((j : Int) + 1) = (k : Int) := by rw [← hk]; rfl
        obtain ⟨⟨ds, dn, df⟩, hd⟩ : ∃ d, L'[k]? = some d := ⟨_, List.getElem?_eq_getElem (by rw [HLN.out]; omega)⟩
        have hone := HOA'.out.one _ (List.mem_of_getElem? hd)
        dsimp only at hone
        obtain ⟨dm, rfl⟩ : ∃ dm : Nat, dn = (dm : Int) := ⟨dn.toNat, by omega⟩
        have HAG := Lib.hid (once_again (m := dm) HON'.out HOA'.out hd rfl)
        rw [HLN.out] at HAG
        have e0 := HWN.out.own.cells (g := a') rfl (k * 3 + 0) _ (rowD_at hd 0 _ rfl)
        have e1 := HWN.out.own.cells (g := a') rfl (k * 3 + 1) _ (rowD_at hd 1 _ rfl)
        have e2 := HWN.out.own.cells (g := a') rfl (k * 3 + 2) _ (rowD_at hd 2 _ rfl)
        rw [Addr.add_lit, Nat.zero_add] at e0 e1 e2
        rw [Nat.add_zero] at e0
        dsimp only at e0 e1 e2
        have p0 : w6.cell? ⟨bp, 0, none⟩ = some (.string ⟨#[116]⟩) := (cell_of_row _ _ 0 _ _ _ HWN.out.part).trans rfl
        have p1 : w6.cell? ⟨bp, 1, none⟩ = some (.int .i64 1) := (cell_of_row _ _ 1 _ _ _ HWN.out.part).trans rfl
        have hS := And.intro (And.intro p0 (And.intro p1 (And.intro e0 e1))) (Below.refl w6.heap.size w6)
        have E2 := Lib.hid e2
        have x0 : (0 : Int) ≤ (k : Int) := by omega
        have x1 : (k : Int) < (j : Int) + 1 := by omega
        have dm8 : dm ≤ 8 := by omega
        clear hc1 hd hone e2 hk
        go_upto_region 18 with fail
        by_cases hla : j + 1 - k > 5
        · have HAX : Hid (askP [0] ms' ⟨#[116]⟩ 1 1 0 ds dm = (0, false, 82)) := Lib.hid (by rw [HAG.out, if_pos hla])
          have l1 : (5 : Int) < (j : Int) + 1 - (k : Int) := by omega
          clear hla
          go_region_held3 (fun w' => (w'.cell? ⟨bp, 0, none⟩ = some (.string ⟨#[116]⟩) ∧ w'.cell? ⟨bp, 1, none⟩ = some (.int .i64 1) ∧ w'.cell? ⟨a', k * 3, none⟩ = some (.int .i64 ds) ∧ w'.cell? ⟨a', k * 3 + 1, none⟩ = some (.int .i64 dm)) ∧ Below w6.heap.size w6 w')
            (first | assumption | exact keep4d hS (drewB _) | exact keep4d (by assumption) (by assumption) | exact keep4d (by assumption) (drewB _))
            (first
              | (go_at_call 21; refine (of_is 1 0 ds dm _ (by omega)).mono ?_; rintro e w7 ⟨R7, rc7, rfl, hb7⟩; have B7 : Hid (Below w6.heap.size w6 w7) := Lib.hid ((drewB _).trans (hb7.mono (drewB _).size)))
              | (go_at_call 11; refine (m8_ask ⟨#[116]⟩ 1 1 0 ds 0 82 false R7 dm rc7 (Lib.hid (HWN.out.below B7.out).tab.t) HT1.out PW HAX).mono ?_; rintro e w8 ⟨rfl, hb8⟩))
          all_goals
            rename_i hh
            have HB8 := Lib.hid hh.2
            clear hh
            
            go_wp2_with fail
            go_roundw
            case rel => exact ⟨j + 1, a', c', zz + n, L', ms', by omega, rfl, by go_num, by go_num, HLN, by omega, by omega, HOA', HON', Lib.hid (HWN.out.below HB8.out)⟩
            case measure => simp [intOf]; omega
        · have HAX : Hid (askP [0] ms' ⟨#[116]⟩ 1 1 0 ds dm = (df, true, 0)) := Lib.hid (by rw [HAG.out, if_neg hla])
          have l1 : ¬ (5 : Int) < (j : Int) + 1 - (k : Int) := by omega
          clear hla
          go_region_held3 (fun w' => (w'.cell? ⟨bp, 0, none⟩ = some (.string ⟨#[116]⟩) ∧ w'.cell? ⟨bp, 1, none⟩ = some (.int .i64 1) ∧ w'.cell? ⟨a', k * 3, none⟩ = some (.int .i64 ds) ∧ w'.cell? ⟨a', k * 3 + 1, none⟩ = some (.int .i64 dm)) ∧ Below w6.heap.size w6 w')
            (first | assumption | exact keep4d hS (drewB _) | exact keep4d (by assumption) (by assumption) | exact keep4d (by assumption) (drewB _))
            (first
              | (go_at_call 21; refine (of_is 1 0 ds dm _ (by omega)).mono ?_; rintro e w7 ⟨R7, rc7, rfl, hb7⟩; have B7 : Hid (Below w6.heap.size w6 w7) := Lib.hid ((drewB _).trans (hb7.mono (drewB _).size)))
              | (go_at_call 11; refine (m8_ask ⟨#[116]⟩ 1 1 0 ds df 0 true R7 dm rc7 (Lib.hid (HWN.out.below B7.out).tab.t) HT1.out PW HAX).mono ?_; rintro e w8 ⟨rfl, hb8⟩))
          all_goals
            rename_i hh
            have HB8 := Lib.hid hh.2
            clear hh
            have e2 := cell_at HB8.out E2.out
            go_wp2_with fail
            go_roundw
            case rel => exact ⟨j + 1, a', c', zz + n, L', ms', by omega, rfl, by go_num, by go_num, HLN, by omega, by omega, HOA', HON', Lib.hid (HWN.out.below HB8.out)⟩
            case measure => simp [intOf]; omega
      · have j3 : ¬ (j : Int) < (m1 : Int) := by omega
        go_wp2_with fail
        go_roundw
        case rel => exact ⟨j + 1, a', c', zz + n, L', ms', by omega, rfl, by go_num, by go_num, HLN, by omega, by omega, HOA', HON', HWN⟩
        case measure => simp [intOf]; omega
    · have hd : m ≤ j ∨ (j < m ∧ 40 ≤ j) := by omega
      have HWB := Lib.hid HW.out.tab.2.1
      rcases hd with hd | ⟨hd1, hd2⟩
      · have j1 : ¬ (j : Int) < (m : Int) := by omega
        go_wp2_with (go_at_call 18; refine (fixed8_any _).mono ?_; rintro e w20 ⟨rfl, hb20⟩)
        go_ret
        exact ⟨rfl, HWB.out.trans (hb20.mono HWB.out.size)⟩
      · have j1 : (j : Int) < (m : Int) := by omega
        have j2 : ¬ (j : Int) < 40 := by omega
        go_wp2_with (go_at_call 18; refine (fixed8_any _).mono ?_; rintro e w20 ⟨rfl, hb20⟩)
        go_ret
        exact ⟨rfl, HWB.out.trans (hb20.mono HWB.out.size)⟩

set_option maxRecDepth 100000 in
set_option maxHeartbeats 1000000 in
theorem lifted (os : Os) (started : os.Started) (H : Type) (enc : TypeId × Value → H) :
    ReturnsInHanded {} Try.checked os 5 .any (Rows.dedupOnceSpec.pre6 enc Try.prog Try.f5 Rows.dedupOnceRow.domain false) (Rows.dedupOnceSpec.post enc Try.prog Try.f5 false true false false) := by
  refine returnsInHanded_of_change (C := Try.checked) own started (by kernel_rfl) Try.func5
    (ChangeSpec.witness6 (enc := enc) (C := Try.checked) false ⟨#[], #[.slice none 0 0, .slice none 0 0], []⟩ 8 (by kernel_rfl) (by kernel_rfl) (by kernel_rfl) (by kernel_rfl)) ?_
  intro W base args ds gs before hval0 hW _ _
  have hval : ∀ (j : Nat) t v, Try.f5.params[j]? = some t → args[j]? = some v → Value.okWide Try.prog W .any base t v := hval0
  have hW' := hW
  obtain ⟨p, q, hA0, hV, rfl, hfz, hnd⟩ := hW
  have hA : DataW.TrodAll enc Try.prog W 0 (fun _ => true) true Try.f5.params.toList args.toList ds p := hA0
  rw [Try.params5] at hA hval
  obtain ⟨v0, vs0, d0, ds0, p0, q0, hargs, rfl, rfl, h0, r0⟩ := trodAll_cons hA
  obtain ⟨v1, vs1, d1, ds1, p1, q1, rfl, rfl, rfl, h1, r1⟩ := trodAll_cons r0
  obtain ⟨rfl, rfl, rfl⟩ := trodAll_nil r1
  obtain rfl : args = #[v0, v1] := by cases args; simp_all
  obtain ⟨rfl, rfl⟩ := trodVars_none hV
  have k0 := h0
  have lt0 : ∀ x ∈ p0, x.block < W.heap.size := by obtain ⟨m, hm⟩ := k0; exact DataW.trod_lt m _ _ _ hm
  have k1 := h1
  have lt1 : ∀ x ∈ p1, x.block < W.heap.size := by obtain ⟨m, hm⟩ := k1; exact DataW.trod_lt m _ _ _ hm
  obtain ⟨A0, l0, c0, e0, R0⟩ := L8.open_nums (hval 0 26 v0 rfl rfl) h0
  subst e0
  obtain ⟨A1, l1, c1, e1, R1⟩ := L8.open_nums (hval 1 26 v1 rfl rfl) h1
  subst e1
  clear hA0 hval0
  refine (walk W A0 l0 c0 R0 A1 l1 c1 R1).mono fun e W' ⟨he, bel⟩ => ?_
  subst he
  exact ⟨_, rfl, _, _, _, [], _, [], hW', trodAll_mk1 (shut_bool Try.underlying4 _), (trodAll_cons_mk (Below.trod laidOut (by kernel_rfl) (of_decide_eq_true (by kernel_rfl)) k0 bel lt0) (trodAll_cons_mk (Below.trod laidOut (by kernel_rfl) (of_decide_eq_true (by kernel_rfl)) k1 bel lt1) trodAll_mk0)), rfl, bel.frame _, fun h => by cases h⟩

theorem over : Rows.dedupOnceRow.holds Try.pinned (OpenSpec.ofChange Rows.dedupOnceSpec) :=
  OpenClaim.holds_of_wide 5 Try.f5 rfl rfl rfl rfl rfl rfl rfl ⟨rfl, rfl, rfl, rfl, rfl⟩ rfl rfl rfl rfl rfl (by kernel_rfl) Try.func5 (by kernel_rfl)
    (of_decide_eq_true (by kernel_rfl)) (by unfold Func.isWrapper; first | (rw [if_pos (by decide +kernel)]; kernel_rfl) | (rw [if_neg (by decide +kernel)]; exact ⟨rfl, rfl⟩))
    (fun os started H enc _ => lifted os started H enc)

/-- the statement -/
theorem proved : Rows.DedupOnceSaid :=
  over
#print axioms proved
end Go.Proofs.Ytcmlopflandlgaa.dedupOnce
