/-
  The chunks of any text (cut at 1500 bytes) by any size, the bytes of any chunk (its body cut at 5000 bytes), and the chunk of any bytes, or what is wrong, are what the document says. No condition.
-/
import Derived.Test.YtlemcijgjebekaaRows
import Derived.WalkKit
import Derived.ProofKit
import Derived.OpenShut
import Derived.ShutString
import Derived.ChangeOld
import Derived.Below
import Derived.Test.YtlemcijgjebekaaMChRead
import Derived.Test.YtlemcijgjebekaaMRcDig
import Derived.Test.YtlemcijgjebekaaChOpen
import Derived.Test.YtlemcijgjebekaaMChFix
namespace Go.Proofs.Ytlemcijgjebekaa.chunksSplits
open Go.ChangeShapes Go.WideShapes Go.ChangeAt Go.RowKit Go.Deep
open Go.ChangeMaps (open_string shut_string)
open L3 L4 L5 L7

theorem own : ownKnob Try.prog.godebug = none := by kernel_rfl
theorem laidOut : laidOutB Try.prog = true := by kernel_rfl

def SplitU (s : ByteArray) (size : Int) (l : List Ck) (x : Int) : Prop := (∃ k : Nat, size = k ∧ 1 ≤ k ∧ k ≤ 4096 ∧ l = splitL s k ∧ x = 0) ∨ ((size < 1 ∨ 4096 < size) ∧ l = [] ∧ x = 1)
theorem SplitU.ex (s : ByteArray) (size : Int) : ∃ l x, SplitU s size l x := by
  by_cases h : size < 1 ∨ 4096 < size
  · exact ⟨[], 1, .inr ⟨h, rfl, rfl⟩⟩
  · exact ⟨splitL s size.toNat, 0, .inl ⟨size.toNat, by omega, by omega, by omega, rfl, rfl⟩⟩
theorem nCh_small {s : ByteArray} {k : Nat} (hk : 1 ≤ k) (hs : s.size ≤ 1500) : nCh s k ≤ 1500 := by
  by_cases h : s.size = 0
  · rw [nCh_none hk h]; omega
  · have h1 := (nCh_some hk h).1
    have h2 : nCh s k - 1 ≤ (nCh s k - 1) * k := Nat.le_mul_of_pos_right _ hk
    omega
theorem SplitU.len {s : ByteArray} {size : Int} {l : List Ck} {x : Int} (h : SplitU s size l x) (hs : s.size ≤ 1500) : l.length ≤ 1500 := by
  rcases h with ⟨k, _, h1, _, rfl, _⟩ | ⟨_, rfl, _⟩
  · rw [splitL_len]; exact nCh_small h1 hs
  · simp
def OwnsL (W : World) (A : Option Addr) (n c : Nat) (l : List Ck) : Prop := ∃ base, W.ownsRow base 71 4 (.slice A n c) n (rowC l)
theorem ow_below {W W' : World} {A : Option Addr} {n c : Nat} {l : List Ck} (h : OwnsL W A n c l) (b : Below W.heap.size W W') : OwnsL W' A n c l := by
  obtain ⟨base, h⟩ := h
  exact ⟨base, own_below h b⟩
theorem kept_row {W W' : World} {k : Nat} {o : Obj} (h : W.heap[k]? = some o) (b : Below W.heap.size W W') : W'.heap[k]? = some o := (b.block _ (Array.getElem?_eq_some_iff.1 h).1).trans h
theorem csplit_is (s : ByteArray) (size : Int) (l : List Ck) (n : Nat) (x : Int) (w : World) (hs : s.size ≤ 1500) (H : Hid (SplitU s size l x)) (hn : Hid (l.length = n)) :
    Calls Try.prog 43 #[.string s, .int .i64 size] w fun e w' => ∃ A c, e = .returned (.tuple #[.slice A n c, .int .i64 x]) ∧ OwnsL w' A n c l ∧ Below w.heap.size w w' := by
  have hn := hn.out
  subst hn
  rcases H.out with ⟨k, rfl, h1, h2, rfl, rfl⟩ | ⟨h, rfl, rfl⟩
  · rw [splitL_len]
    refine (split_ok s k (nCh s k) w (by omega) h1 h2 rfl (by have := nCh_small h1 hs; omega)).mono ?_
    rintro e w' ⟨c, rfl, ho, hb⟩
    exact ⟨_, c, rfl, ⟨_, ho⟩, hb⟩
  · refine (split_arg s size w h).mono ?_
    rintro e w' ⟨rfl, rfl⟩
    exact ⟨none, 0, rfl, ⟨0, World.ownsRow_nil _ _ _ _⟩, Below.refl _ _⟩
theorem rsplit_is (s : ByteArray) (size : Int) (l : List Ck) (n : Nat) (x : Int) (w : World) (hs : s.size ≤ 1500) (H : Hid (SplitU s size l x)) (hn : Hid (l.length = n)) :
    Calls Try.prog 44 #[.string s, .int .i64 size] w fun e w' => ∃ A c, e = .returned (.tuple #[.slice A n c, .int .i64 x]) ∧ OwnsL w' A n c l ∧ Below w.heap.size w w' := by
  have hn := hn.out
  subst hn
  rcases H.out with ⟨k, rfl, h1, h2, rfl, rfl⟩ | ⟨h, rfl, rfl⟩
  · rw [splitL_len]
    exact rsplit_ok s k (nCh s k) w (by omega) h1 h2 rfl (by have := nCh_small h1 hs; omega)
  · refine (rsplit_arg s size w h).mono ?_
    rintro e w' ⟨rfl, rfl⟩
    exact ⟨none, 0, rfl, ⟨0, World.ownsRow_nil _ _ _ _⟩, Below.refl _ _⟩
theorem same_two (A A' : Option Addr) (l : List Ck) (n c c' : Nat) (w : World) (h1 : Hid (OwnsL w A n c l)) (h2 : Hid (OwnsL w A' n c' l)) (hn : l.length = n) (hl : n ≤ 1500) :
    Calls Try.prog 49 #[.slice A n c, .slice A' n c'] w fun e w' => e = .returned (.bool true) ∧ Below w.heap.size w w' := by
  obtain ⟨b, q1⟩ := h1.out
  obtain ⟨b', q2⟩ := h2.out
  exact rsame_is A A' l n c c' w b b' (Lib.hid q1) (Lib.hid q2) hn (by omega)

set_option maxRecDepth 100000 in
set_option maxHeartbeats 8000000 in
theorem walk (w : World) (a0 : ByteArray) (w0 : a0.size ≤ maxLen) (a1 : Int) (_w1 : (Lit.int .i64 a1).wf = true) (i2 m2 x2 : Int) (b2 : ByteArray) (hx2 : (Lit.int .u64 x2).wf = true) (zb2 : b2.size ≤ maxLen) :
    Calls Try.prog 8 #[.string a0, .int .i64 a1, .agg #[.int .i64 i2, .int .i64 m2, .int .u64 x2, .string b2]] w fun e w' => e = .returned (.bool true) ∧ Below w.heap.size w w' := by
  unfold maxLen at w0 zb2
  have hx0 : 0 ≤ x2 ∧ x2 < 18446744073709551616 := by have := hx2; simp [Lit.wf, IntKind.min, IntKind.max, IntKind.bits, IntKind.signed] at this; omega
  obtain ⟨d, rfl⟩ : ∃ d : Nat, x2 = (d : Int) := ⟨x2.toNat, by omega⟩
  have HDD : Hid (d < 18446744073709551616) := Lib.hid (by omega)
  obtain ⟨o, h4⟩ : ∃ o, b2.extract 0 (min (b2.size : Int) 5000).toNat = o := ⟨_, rfl⟩
  obtain ⟨s, h3⟩ : ∃ s, a0.extract 0 (min (a0.size : Int) 1500).toNat = s := ⟨_, rfl⟩
  have hs : s.size ≤ 1500 := by rw [← h3, ByteArray.size_extract]; omega
  obtain ⟨l, x, hl⟩ := SplitU.ex s a1
  obtain ⟨n, hn⟩ : ∃ n, l.length = n := ⟨_, rfl⟩
  have hn2 : n ≤ 1500 := by rw [← hn]; exact hl.len hs
  obtain ⟨u, g, hu⟩ : ∃ u g, putU ⟨i2, m2, d, o⟩ = (u, g) := ⟨_, _, rfl⟩
  obtain ⟨⟨i4, n4, d4, b4⟩, E4, hU4⟩ := GetU.ex s
  have HSU := Lib.hid hl
  have HN := Lib.hid hn
  have HU := Lib.hid hu
  have HU4 := Lib.hid hU4
  have e1 : (x == x) = true := by simp
  have e2 : (g == g) = true := by simp
  have e3 : (E4 == E4) = true := by simp
  clear hl hn hu hU4 hx0 hx2
  go_enter Try.func8, Try.ntmps8
  go_upto_region 3 with fail
  obtain ⟨W0, hW0⟩ : ∃ W0, w.alloc (.cells #[.int .i64 i2, .int .i64 m2, .int .u64 d, .string o] 71) = W0 := ⟨_, rfl⟩
  have C0 : Hid (W0.heap[w.heap.size]? = some (.cells #[.int .i64 i2, .int .i64 m2, .int .u64 d, .string o] 71 (0, 0))) := Lib.hid (by rw [← hW0]; exact heap_alloc_new w _)
  have X0 : Hid (Below w.heap.size w W0) := Lib.hid (by rw [← hW0]; exact one_box _)
  rw [hW0]
  clear hW0 h3 h4
  go_upto_region 9 with (first
    | (go_at_call 48; have _q := X5; refine (rcget_is s _ (by omega) ⟨i4, n4, d4, b4⟩ E4 HU4).mono ?_; rintro e w6 ⟨rfl, hb6⟩; have hx6 := (one_box (w := w5) (.cells #[.int .i64 i4, .int .i64 n4, .int .u64 d4, .string b4] 71)).trans (hb6.mono (by simp)); have O6 := Lib.hid (ow_below O5.out hx6); have P6 := Lib.hid (ow_below P5.out hx6); have X6 := Lib.hid (X5.out.trans (hx6.mono X5.out.size)); have R6 := Lib.hid ((hb6.block w5.heap.size (by simp)).trans (heap_alloc_new w5 (.cells #[.int .i64 i4, .int .i64 n4, .int .u64 d4, .string b4] 71))); skip)
    | (go_at_call 47; have _q := X4; refine (cget_is s _ (by omega) ⟨i4, n4, d4, b4⟩ E4 HU4).mono ?_; rintro e w5 ⟨rfl, hb5⟩; have O5 := Lib.hid (ow_below O4.out hb5); have P5 := Lib.hid (ow_below P4.out hb5); have X5 := Lib.hid (X4.out.trans (hb5.mono X4.out.size)))
    | (go_at_call 46; have _q := X3; refine (rcputi_is i2 m2 d o u g _ HDD.out HU).mono ?_; rintro e w4 ⟨rfl, hb4⟩; have O4 := Lib.hid (ow_below O3.out hb4); have P4 := Lib.hid (ow_below P3.out hb4); have X4 := Lib.hid (X3.out.trans (hb4.mono X3.out.size)))
    | (go_at_call 45; have _q := X2; refine (cput_is i2 m2 d o u g _ HDD.out HU).mono ?_; rintro e w3 ⟨rfl, hb3⟩; have C3 := Lib.hid (kept_row C2.out hb3); have O3 := Lib.hid (ow_below O2.out hb3); have P3 := Lib.hid (ow_below P2.out hb3); have X3 := Lib.hid (X2.out.trans (hb3.mono X2.out.size)); obtain ⟨k3a, k3b, k3c, k3d, _, _, _, _⟩ := row_facts C3.out)
    | (go_at_call 44; have _q := X1; refine (rsplit_is s a1 l n x _ hs HSU HN).mono ?_; rintro e w2 ⟨A2, c2, rfl, hp2, hb2⟩; have C2 := Lib.hid (kept_row C1.out hb2); have O2 := Lib.hid (ow_below O1.out hb2); have X2 := Lib.hid (X1.out.trans (hb2.mono X1.out.size)); have P2 := Lib.hid hp2; clear hp2; obtain ⟨k2a, k2b, k2c, k2d, _, _, _, _⟩ := row_facts C2.out)
    | (go_at_call 43; refine (csplit_is s a1 l n x _ hs HSU HN).mono ?_; rintro e w1 ⟨A1, c1, rfl, ho1, hb1⟩; have C1 := Lib.hid (kept_row C0.out hb1); have X1 := Lib.hid (X0.out.trans (hb1.mono X0.out.size)); have O1 := Lib.hid ho1; clear ho1))
  obtain ⟨W7, hW7⟩ : ∃ W7, w6.alloc (.cells #[.int .i64 i4, .int .i64 n4, .int .u64 d4, .string b4] 71) = W7 := ⟨_, rfl⟩
  have hx7 : Below w6.heap.size w6 W7 := by rw [← hW7]; exact one_box _
  have O7 := Lib.hid (ow_below O6.out hx7)
  have P7 := Lib.hid (ow_below P6.out hx7)
  have R7 := Lib.hid (kept_row R6.out hx7)
  have S7 : Hid (W7.heap[w6.heap.size]? = some (.cells #[.int .i64 i4, .int .i64 n4, .int .u64 d4, .string b4] 71 (0, 0))) := Lib.hid (by rw [← hW7]; exact heap_alloc_new w6 _)
  have X7 := Lib.hid (X6.out.trans (hx7.mono X6.out.size))
  rw [hW7]
  clear hW7 hx7 hx6 hb1 hb2 hb3 hb4 hb5 hb6 k2a k2b k2c k2d k3a k3b k3c k3d
  go_wp2_with (first
    | (go_at_call 42; have _q := X8; refine (fixed7_any _).mono ?_; rintro e w9 ⟨rfl, hb9⟩)
    | (go_at_call 49; refine (same_two A1 A2 l n c1 c2 _ O7 P7 HN.out hn2).mono ?_; rintro e w8 ⟨rfl, hb8⟩; have X8 := Lib.hid (X7.out.trans (hb8.mono X7.out.size)); obtain ⟨r0, r1, r2, r3, _, _, _, _⟩ := row_facts (kept_row R7.out hb8); obtain ⟨s0, s1, s2, s3, _, _, _, _⟩ := row_facts (kept_row S7.out hb8)))
  go_ret
  exact ⟨rfl, X8.out.trans (hb9.mono X8.out.size)⟩


set_option maxRecDepth 100000 in
set_option maxHeartbeats 1000000 in
theorem lifted (os : Os) (started : os.Started) (H : Type) (enc : TypeId × Value → H) :
    ReturnsInHanded {} Try.checked os 8 .any (Rows.chunksSplitsSpec.pre6 enc Try.prog Try.f8 Rows.chunksSplitsRow.domain false) (Rows.chunksSplitsSpec.post enc Try.prog Try.f8 false true false false) := by
  refine returnsInHanded_of_change (C := Try.checked) own started (by kernel_rfl) Try.func8
    (ChangeSpec.witness6 (enc := enc) (C := Try.checked) false ⟨#[], #[.string ByteArray.empty, .int .i64 0, .agg #[.int .i64 0, .int .i64 0, .int .u64 0, .string ByteArray.empty]], []⟩ 8 (by kernel_rfl) (by kernel_rfl) (by kernel_rfl) (by kernel_rfl)) ?_
  intro W base args ds gs before hval0 hW _ _
  have hval : ∀ (j : Nat) t v, Try.f8.params[j]? = some t → args[j]? = some v → Value.okWide Try.prog W .any base t v := hval0
  have hW' := hW
  obtain ⟨p, q, hA0, hV, rfl, hfz, hnd⟩ := hW
  have hA : DataW.TrodAll enc Try.prog W 0 (fun _ => true) true Try.f8.params.toList args.toList ds p := hA0
  rw [Try.params8] at hA hval
  obtain ⟨v0, vs0, d0, ds0, p0, q0, hargs, rfl, rfl, h0, r0⟩ := trodAll_cons hA
  obtain ⟨v1, vs1, d1, ds1, p1, q1, rfl, rfl, rfl, h1, r1⟩ := trodAll_cons r0
  obtain ⟨v2, vs2, d2, ds2, p2, q2, rfl, rfl, rfl, h2, r2⟩ := trodAll_cons r1
  obtain ⟨rfl, rfl, rfl⟩ := trodAll_nil r2
  obtain rfl : args = #[v0, v1, v2] := by cases args; simp_all
  obtain ⟨rfl, rfl⟩ := trodVars_none hV
  have k0 := h0
  have lt0 : ∀ x ∈ p0, x.block < W.heap.size := by obtain ⟨m, hm⟩ := k0; exact DataW.trod_lt m _ _ _ hm
  have k1 := h1
  have lt1 : ∀ x ∈ p1, x.block < W.heap.size := by obtain ⟨m, hm⟩ := k1; exact DataW.trod_lt m _ _ _ hm
  have k2 := h2
  have lt2 : ∀ x ∈ p2, x.block < W.heap.size := by obtain ⟨m, hm⟩ := k2; exact DataW.trod_lt m _ _ _ hm
  obtain ⟨a0, e0, _, _, w0⟩ := open_string Try.underlying9 (hval 0 9 v0 rfl rfl) h0
  subst e0
  obtain ⟨a1, e1, _, _, w1⟩ := open_int Try.underlying3 (hval 1 3 v1 rfl rfl) h1
  subst e1
  obtain ⟨i2, m2, x2, b2, e2, hx2, zb2⟩ := L7.open_ck (hval 2 71 v2 rfl rfl) h2
  subst e2
  clear hA0 hval0
  refine (walk W a0 w0 a1 w1 i2 m2 x2 b2 hx2 zb2).mono fun e W' ⟨he, bel⟩ => ?_
  subst he
  exact ⟨_, rfl, _, _, _, [], _, [], hW', trodAll_mk1 (shut_bool Try.underlying4 _), (trodAll_cons_mk (Below.trod laidOut (by kernel_rfl) (of_decide_eq_true (by kernel_rfl)) k0 bel lt0) (trodAll_cons_mk (Below.trod laidOut (by kernel_rfl) (of_decide_eq_true (by kernel_rfl)) k1 bel lt1) (trodAll_cons_mk (Below.trod laidOut (by kernel_rfl) (of_decide_eq_true (by kernel_rfl)) k2 bel lt2) trodAll_mk0))), rfl, bel.frame _, fun h => by cases h⟩

theorem over : Rows.chunksSplitsRow.holds Try.pinned (OpenSpec.ofChange Rows.chunksSplitsSpec) :=
  OpenClaim.holds_of_wide 8 Try.f8 rfl rfl rfl rfl rfl rfl rfl ⟨rfl, rfl, rfl, rfl, rfl⟩ rfl rfl rfl rfl rfl (by kernel_rfl) Try.func8 (by kernel_rfl)
    (of_decide_eq_true (by kernel_rfl)) (by unfold Func.isWrapper; first | (rw [if_pos (by decide +kernel)]; kernel_rfl) | (rw [if_neg (by decide +kernel)]; exact ⟨rfl, rfl⟩))
    (fun os started H enc _ => lifted os started H enc)

/-- the statement -/
theorem proved : Rows.ChunksSplitsSaid :=
  over
#print axioms proved
end Go.Proofs.Ytlemcijgjebekaa.chunksSplits
