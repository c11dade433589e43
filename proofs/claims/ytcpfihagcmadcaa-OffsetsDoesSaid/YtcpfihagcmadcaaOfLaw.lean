/-
  The calls of a law on a table of marks of its own.
-/
import Derived.Test.YtcpfihagcmadcaaOfOpen
namespace Go.Proofs.Ytcpfihagcmadcaa.L12
open Go.RowKit
open Go.Maps
open L3 L4

/-- all that was read is read as it was -/
def KeepC (w w' : World) : Prop := ∀ (a : Addr) (v : Value), w.cell? a = some v → w'.cell? a = some v
theorem KeepC.refl (w : World) : KeepC w w := fun _ _ q => q
theorem KeepC.trans {w w1 w2 : World} (h : KeepC w w1) (h' : KeepC w1 w2) : KeepC w w2 := fun a v q => h' a v (h a v q)
theorem KeepC.below {w w' : World} (h : Below w.heap.size w w') : KeepC w w' := fun _ _ q => cell_at h q
theorem KeepC.only {w w' : World} {b N : Nat} {Q : List Mr} (h : IsMarks w b N Q) (o : Only [b] w w') : KeepC w w' := fun a v q => o.cell q (by
  intro e
  have e' : a.block = b := by simpa using e
  obtain ⟨es, c, hb⟩ := h.map
  simp [World.cell?, e', hb] at q)
theorem MarkAt.keepC {w w' : World} {g o : Nat} {m : Mr} (h : MarkAt w g o m) (k : KeepC w w') : MarkAt w' g o m := ⟨k _ _ h.c0, k _ _ h.c1, k _ _ h.c2, k _ _ h.c3⟩
theorem ReadsM.keepC {w w' : World} {B B' : Nat} {A : Option Addr} {l : List Mr} (h : ReadsM w B A l) (k : KeepC w w') (hB : B ≤ B') : ReadsM w' B' A l := fun h0 => by
  obtain ⟨g, o, e, hg, hc⟩ := h h0
  exact ⟨g, o, e, by omega, fun i s hs => (hc i s hs).keepC k⟩
theorem OpsO.keepC {w w' : World} {B B' : Nat} {A : Option Addr} {l : List Oc} (h : OpsO w B A l) (k : KeepC w w') (hB : B ≤ B') : OpsO w' B' A l := fun h0 => by
  obtain ⟨g, o, e, hg, hc⟩ := h h0
  refine ⟨g, o, e, by omega, fun i r hr => ?_⟩
  obtain ⟨c0, c1, c2, c3, c4⟩ := hc i r hr
  exact ⟨k _ _ c0, k _ _ c1, k _ _ c2, k _ _ c3, k _ _ c4⟩
theorem IsMarks.mono {w : World} {b N N' : Nat} {Q : List Mr} (h : IsMarks w b N Q) (hN : N ≤ N') : IsMarks w b N' Q := by
  obtain ⟨D, ho, hd⟩ := h
  exact ⟨D, ho.mono hN, hd⟩
theorem Tab.mono {w : World} {g b N N' : Nat} {Q : List Mr} (h : Tab w g b N Q) (hN : N ≤ N') : Tab w g b N' Q := ⟨h.row, h.map.mono hN⟩

/-- a table of the law's own -/
structure LT (B w : World) (g b N : Nat) (Q : List Mr) : Prop where
  tab : Tab w g b N Q
  good : Good Q
  hg : B.heap.size ≤ g
  hb : B.heap.size ≤ b
  bel : Below B.heap.size B w
section
variable {B w : World} {g b N : Nat} {Q : List Mr}
theorem LT.below {w' : World} (h : LT B w g b N Q) (b1 : Below w.heap.size w w') : LT B w' g b N Q := ⟨h.tab.below b1, h.good, h.hg, h.hb, h.bel.trans (b1.mono h.bel.size)⟩
theorem LT.turned {w' : World} {N' : Nat} {Q' : List Mr} (h : LT B w g b N Q) (hc : Tab w' g b N' Q') (G : Good Q') (o : Only [b] w w') : LT B w' g b N' Q' :=
  ⟨hc, G, h.hg, h.hb, h.bel.trans (o.below h.bel.size (fun k hk => by rw [show k = b by simpa using hk]; exact h.hb))⟩
/-- another table was turned -/
theorem LT.other {w' : World} {b' : Nat} (h : LT B w g b N Q) (o : Only [b'] w w') (h1 : g ≠ b') (h2 : b ≠ b') (hB : B.heap.size ≤ b') : LT B w' g b N Q :=
  ⟨h.tab.only o (by simpa using h1) (by simpa using h2), h.good, h.hg, h.hb, h.bel.trans (o.below h.bel.size (fun k hk => by rw [show k = b' by simpa using hk]; exact hB))⟩
theorem m_new (B w : World) (hb : Hid (Below B.heap.size B w)) : Calls Try.prog 5 #[] w fun e w' => ∃ g b, e = .returned (.pointer (some ⟨g, 0, none⟩)) ∧ LT B w' g b 0 [] ∧ w.heap.size ≤ g ∧ w.heap.size ≤ b ∧ Below w.heap.size w w' :=
  (new_is w).mono fun _ _ ⟨g, he, ⟨b, hc, h1, h2⟩, h3⟩ => ⟨g, b, he, ⟨hc, good_nil, Nat.le_trans hb.out.size h1, Nat.le_trans hb.out.size h2, hb.out.trans (h3.mono hb.out.size)⟩, h1, h2, h3⟩
theorem m_put (gr t : ByteArray) (p o x : Int) (Q' : List Mr) (M : Hid (LT B w g b N Q)) (hN : N ≤ 1000000) (hg : Hid (gr.size ≤ maxLen)) (ht : Hid (t.size ≤ maxLen)) (hp : Hid ((Lit.int .i64 p).wf = true)) (HX : Hid (putE Q ⟨gr, t, p, o⟩ = x)) (HQ : Hid (putQ Q ⟨gr, t, p, o⟩ = Q')) :
    Calls Try.prog 7 #[.pointer (some ⟨g, 0, none⟩), .agg #[.string gr, .string t, .int .i64 p, .int .i64 o]] w fun e w' => e = .returned (.int .i64 x) ∧ LT B w' g b (N + 1) Q' ∧ KeepC w w' ∧ Only [b] w w' :=
  (put_is gr t p o x (Lib.hid M.out.tab) (Lib.hid M.out.good) hN hg ht hp HX).mono fun e w' ⟨he, N', hN', hc, ho⟩ => ⟨he, M.out.turned (by rw [← HQ.out]; exact hc.mono hN') (by rw [← HQ.out]; exact good_put M.out.good _) ho, KeepC.only M.out.tab.map ho, ho⟩
theorem m_get (gr t : ByteArray) (p x : Int) (v : Bool) (M : Hid (LT B w g b N Q)) (hg : Hid (gr.size ≤ maxLen)) (ht : Hid (t.size ≤ maxLen)) (hp : Hid ((Lit.int .i64 p).wf = true)) (HX : Hid (atR Q gr t p = x)) (HV : Hid (isR Q gr t p = v)) :
    Calls Try.prog 14 #[.pointer (some ⟨g, 0, none⟩), .string gr, .agg #[.string t, .int .i64 p]] w fun e w' => e = .returned (.tuple #[.int .i64 x, .bool v]) ∧ Below w.heap.size w w' :=
  get_is gr t p x v (Lib.hid M.out.tab) (Lib.hid M.out.good) hg ht hp HX HV
theorem m_behind (gr t : ByteArray) (p e x : Int) (M : Hid (LT B w g b N Q)) (hg : Hid (gr.size ≤ maxLen)) (ht : Hid (t.size ≤ maxLen)) (hp : Hid ((Lit.int .i64 p).wf = true)) (HX : Hid (behindR Q gr t p e = x)) :
    Calls Try.prog 18 #[.pointer (some ⟨g, 0, none⟩), .string gr, .agg #[.string t, .int .i64 p], .int .i64 e] w fun r w' => r = .returned (.int .i64 x) ∧ Below w.heap.size w w' :=
  behind_is gr t p e x (Lib.hid M.out.tab) (Lib.hid M.out.good) hg ht hp HX
theorem m_raise (t : ByteArray) (p least x : Int) (Q' : List Mr) (L : Nat) (M : Hid (LT B w g b N Q)) (hN : N ≤ 1000000) (HLW : Hid ((Lit.int .i64 least).wf = true)) (HL : Hid (Q.length = L)) (hl : L ≤ 1000000) (HX : Hid (raiseN Q t p least = x)) (HQ : Hid (raiseQ Q t p least = Q')) :
    Calls Try.prog 9 #[.pointer (some ⟨g, 0, none⟩), .agg #[.string t, .int .i64 p], .int .i64 least] w fun e w' => e = .returned (.int .i64 x) ∧ LT B w' g b N Q' ∧ KeepC w w' ∧ Only [b] w w' :=
  (raise_is t p least x L (Lib.hid M.out.tab) (Lib.hid M.out.good) hN HLW HL hl HX).mono fun e w' ⟨he, hc, ho⟩ => ⟨he, M.out.turned (by rw [← HQ.out]; exact hc) (by rw [← HQ.out]; exact good_raise M.out.good _ _ _) ho, KeepC.only M.out.tab.map ho, ho⟩
theorem m_drop (gr : ByteArray) (x : Int) (Q' : List Mr) (L : Nat) (M : Hid (LT B w g b N Q)) (HL : Hid (Q.length = L)) (hl : L ≤ 1000000) (HX : Hid (dropN Q gr = x)) (HQ : Hid (dropQ Q gr = Q')) :
    Calls Try.prog 11 #[.pointer (some ⟨g, 0, none⟩), .string gr] w fun e w' => e = .returned (.int .i64 x) ∧ LT B w' g b N Q' ∧ KeepC w w' ∧ Only [b] w w' :=
  (drop_is gr x L (Lib.hid M.out.tab) (Lib.hid M.out.good) HL hl HX).mono fun e w' ⟨he, hc, ho⟩ => ⟨he, M.out.turned (by rw [← HQ.out]; exact hc) (by rw [← HQ.out]; exact good_drop M.out.good _) ho, KeepC.only M.out.tab.map ho, ho⟩
theorem m_list (L : Nat) (M : Hid (LT B w g b N Q)) (HL : Hid (Q.length = L)) (hl : L ≤ 1000000) : Calls Try.prog 16 #[.pointer (some ⟨g, 0, none⟩)] w fun e w' => ∃ A c, e = .returned (.slice A L c) ∧ w'.ownsRow w.heap.size 32 4 (.slice A L c) L (rowM Q) ∧ Below w.heap.size w w' :=
  list_is L (Lib.hid M.out.tab) (Lib.hid M.out.good) HL hl
theorem m_copy (M : Hid (LT B w g b N Q)) : Calls Try.prog 13 #[.pointer (some ⟨g, 0, none⟩)] w fun e w' => ∃ g' b', e = .returned (.pointer (some ⟨g', 0, none⟩)) ∧ LT B w' g' b' N Q ∧ w.heap.size ≤ g' ∧ w.heap.size ≤ b' ∧ Below w.heap.size w w' :=
  (copy_is (Lib.hid M.out.tab)).mono fun _ _ ⟨g', he, ⟨b', hc, h1, h2⟩, h3⟩ => ⟨g', b', he, ⟨hc, M.out.good, Nat.le_trans M.out.bel.size h1, Nat.le_trans M.out.bel.size h2, M.out.bel.trans (h3.mono M.out.bel.size)⟩, h1, h2, h3⟩
end
theorem m_load (B w : World) (A : Option Addr) (n cap : Nat) (l : List Mr) (hb : Hid (Below B.heap.size B w)) (hE : Hid (IsM w A n l)) (G : Hid (Good l)) : Calls Try.prog 21 #[.slice A n cap] w fun e w' => ∃ g b, e = .returned (.tuple #[.pointer (some ⟨g, 0, none⟩), .int .i64 0]) ∧ LT B w' g b n l ∧ Below w.heap.size w w' :=
  (load_is w A n cap l 0 hE (Lib.hid (.inl ⟨rfl, good_ok G.out⟩))).mono fun _ _ ⟨h1, h2⟩ => by
    rcases h2 with ⟨h, _⟩ | ⟨_, _, g, he, b, hc, q1, q2⟩
    · exact absurd rfl h
    · exact ⟨g, b, he, ⟨by rw [← hE.out.len]; exact hc, G.out, Nat.le_trans hb.out.size q1, Nat.le_trans hb.out.size q2, hb.out.trans (h1.mono hb.out.size)⟩, h1⟩
theorem m_load_no (w : World) (A : Option Addr) (n cap : Nat) (l : List Mr) (hE : Hid (IsM w A n l)) (G : Hid (¬ OkTo l l.length)) : Calls Try.prog 21 #[.slice A n cap] w fun e w' => e = .returned (.tuple #[.pointer none, .int .i64 1]) ∧ Below w.heap.size w w' :=
  (load_is w A n cap l 1 hE (Lib.hid (.inr ⟨rfl, G.out⟩))).mono fun _ _ ⟨h1, h2⟩ => by
    rcases h2 with ⟨_, h⟩ | ⟨h, _⟩
    · exact ⟨h, h1⟩
    · exact absurd h (by decide)
theorem IsM.own {w : World} {base n c : Nat} {T : TypeId} {A : Option Addr} {l : List Mr} (h : w.ownsRow base T 4 (.slice A n c) n (rowM l)) (hn : l.length = n) (n1 : n ≤ 1000000) (G : Good l) : IsM w A n l :=
  ⟨own_reads h hn (own_lt h), hn, n1, fun m hm => by
    obtain ⟨a1, a2, a3, a4, a5, a6⟩ := may_fit (G.may m hm)
    exact ⟨by omega, by omega, WalkArith.wf_i64 (by omega), WalkArith.wf_i64 (by omega)⟩⟩
end Go.Proofs.Ytcpfihagcmadcaa.L12
