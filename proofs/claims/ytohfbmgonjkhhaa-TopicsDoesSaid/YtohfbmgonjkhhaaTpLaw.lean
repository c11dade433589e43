/-
  The calls of a law on a catalog of its own.
-/
import Derived.Test.YtohfbmgonjkhhaaTpRparts
import Derived.Test.YtohfbmgonjkhhaaTpParts
import Derived.Test.YtohfbmgonjkhhaaTpLoad
namespace Go.Proofs.Ytohfbmgonjkhhaa.L9
open Go.RowKit
open Go.Maps
open L3 L4

/-- all that was read is read as it was -/
def KeepC (w w' : World) : Prop := ∀ (a : Addr) (v : Value), w.cell? a = some v → w'.cell? a = some v
theorem KeepC.trans {w w1 w2 : World} (h : KeepC w w1) (h' : KeepC w1 w2) : KeepC w w2 := fun a v q => h' a v (h a v q)
theorem KeepC.below {w w' : World} (h : Below w.heap.size w w') : KeepC w w' := fun _ _ q => (h.cell (World.block_lt_of_cell? _ _ q)).trans q
theorem KeepC.only {w w' : World} {b N : Nat} {Q : List Pt} (h : IsCat w b N Q) (o : Only [b] w w') : KeepC w w' := fun a v q => o.cell q (by
  intro e
  have e' : a.block = b := by simpa using e
  obtain ⟨es, c, hb⟩ := h.map
  simp [World.cell?, e', hb] at q)
theorem reads_keep {w w' : World} {B B' : Nat} {A : Option Addr} {l : List Pt} (h : ReadsP w B A l) (k : KeepC w w') (hB : B ≤ B') : ReadsP w' B' A l := fun h0 => by
  obtain ⟨g, e, hg, hc⟩ := h h0
  exact ⟨g, e, by omega, fun i s hs => ⟨k _ _ (hc i s hs).1, k _ _ (hc i s hs).2⟩⟩
theorem texts_keep {w w' : World} {B B' : Nat} {A : Option Addr} {l : List ByteArray} (h : ReadsT w B A l) (k : KeepC w w') (hB : B ≤ B') : ReadsT w' B' A l := fun h0 => by
  obtain ⟨g, e, hg, hc⟩ := h h0
  exact ⟨g, e, by omega, fun i s hs => k _ _ (hc i s hs)⟩

/-- a catalog of the law's own -/
structure LC (B w : World) (g b N : Nat) (Q : List Pt) : Prop where
  cat : Cat w g b N Q
  good : Good Q
  hg : B.heap.size ≤ g
  hb : B.heap.size ≤ b
  bel : Below B.heap.size B w
variable {B w : World} {g b N : Nat} {Q : List Pt}
theorem LC.below {w' : World} (h : LC B w g b N Q) (b1 : Below w.heap.size w w') : LC B w' g b N Q := ⟨h.cat.below b1, h.good, h.hg, h.hb, h.bel.trans (b1.mono h.bel.size)⟩
theorem LC.turned {w' : World} {N' : Nat} {Q' : List Pt} (h : LC B w g b N Q) (hc : Cat w' g b N' Q') (G : Good Q') (o : Only [b] w w') : LC B w' g b N' Q' :=
  ⟨hc, G, h.hg, h.hb, h.bel.trans (o.below h.bel.size (fun k hk => by rw [show k = b by simpa using hk]; exact h.hb))⟩
theorem m9_new (B w : World) (hb : Hid (Below B.heap.size B w)) : Calls Try.prog 8 #[] w fun e w' => ∃ g b, e = .returned (.pointer (some ⟨g, 0, none⟩)) ∧ LC B w' g b 0 [] ∧ Below w.heap.size w w' ∧ w.heap.size ≤ b :=
  (new_is w).mono fun _ _ ⟨g, b, he, hc, h1, h2, h3⟩ => ⟨g, b, he, ⟨hc, good_new, Nat.le_trans hb.out.size h1, Nat.le_trans hb.out.size h2, hb.out.trans (h3.mono hb.out.size)⟩, h3, h2⟩
theorem m9_make (s : ByteArray) (n x : Int) (Q' : List Pt) (M : Hid (LC B w g b N Q)) (hN : N ≤ 1000000) (hs : s.size ≤ 281474976710656) (HX : Hid (makeE Q s n = x)) (HQ : Hid (makeQ Q s n = Q')) :
    Calls Try.prog 10 #[.pointer (some ⟨g, 0, none⟩), .string s, .int .i64 n] w fun e w' => e = .returned (.int .i64 x) ∧ LC B w' g b (N + 1) Q' ∧ KeepC w w' ∧ w.heap.size ≤ w'.heap.size ∧ Only [b] w w' :=
  (make_is s n x (Lib.hid M.out.cat) (Lib.hid M.out.good) hN hs HX).mono fun e w' ⟨he, hc, ho⟩ => ⟨he, M.out.turned (by rw [← HQ.out]; exact hc) (by rw [← HQ.out]; exact good_make M.out.good s n) ho, KeepC.only M.out.cat.map ho, ho.size, ho⟩
theorem m9_grow (s : ByteArray) (n x : Int) (Q' : List Pt) (M : Hid (LC B w g b N Q)) (hN : N ≤ 1000000) (hs : s.size ≤ 281474976710656) (HX : Hid (growE Q s n = x)) (HQ : Hid (growQ Q s n = Q')) :
    Calls Try.prog 12 #[.pointer (some ⟨g, 0, none⟩), .string s, .int .i64 n] w fun e w' => e = .returned (.int .i64 x) ∧ LC B w' g b (N + 1) Q' ∧ KeepC w w' ∧ w.heap.size ≤ w'.heap.size ∧ Only [b] w w' :=
  (grow_is s n x (Lib.hid M.out.cat) (Lib.hid M.out.good) hN hs HX).mono fun e w' ⟨he, hc, ho⟩ => ⟨he, M.out.turned (by rw [← HQ.out]; exact hc) (by rw [← HQ.out]; exact good_grow M.out.good s n) ho, KeepC.only M.out.cat.map ho, ho.size, ho⟩
theorem m9_drop (s : ByteArray) (x : Int) (Q' : List Pt) (M : Hid (LC B w g b N Q)) (hs : s.size ≤ maxLen) (HX : Hid (dropE Q s = x)) (HQ : Hid (dropQ Q s = Q')) :
    Calls Try.prog 14 #[.pointer (some ⟨g, 0, none⟩), .string s] w fun e w' => e = .returned (.int .i64 x) ∧ LC B w' g b N Q' ∧ KeepC w w' ∧ w.heap.size ≤ w'.heap.size ∧ Only [b] w w' :=
  (drop_is s x (Lib.hid M.out.cat) hs HX).mono fun e w' ⟨he, hc, ho⟩ => ⟨he, M.out.turned (by rw [← HQ.out]; exact hc) (by rw [← HQ.out]; exact good_drop M.out.good s) ho, KeepC.only M.out.cat.map ho, ho.size, ho⟩
theorem m9_copy (M : Hid (LC B w g b N Q)) : Calls Try.prog 16 #[.pointer (some ⟨g, 0, none⟩)] w fun e w' => ∃ g' b', e = .returned (.pointer (some ⟨g', 0, none⟩)) ∧ LC B w' g' b' N Q ∧ w.heap.size ≤ g' ∧ w.heap.size ≤ b' ∧ Below w.heap.size w w' :=
  (copy_is (Lib.hid M.out.cat)).mono fun _ _ ⟨g', b', he, hc, h1, h2, h3⟩ => ⟨g', b', he, ⟨hc, M.out.good, Nat.le_trans M.out.bel.size h1, Nat.le_trans M.out.bel.size h2, M.out.bel.trans (h3.mono M.out.bel.size)⟩, h1, h2, h3⟩
theorem m9_list (m : Nat) (M : Hid (LC B w g b N Q)) (hm : Q.length = m) : Calls Try.prog 17 #[.pointer (some ⟨g, 0, none⟩)] w fun e W' => ∃ A c, e = .returned (.slice A m c) ∧ W'.ownsRow w.heap.size 46 2 (.slice A m c) m (rowP Q) ∧ Below w.heap.size w W' :=
  callsIn_wide.1 (list_in w g b N m Q hm (by rw [← hm]; exact M.out.good.len) M.out.good.rise (fun x hx => by have := (M.out.good.fit x hx).1; unfold maxLen; omega) M.out.cat)
theorem m9_parts (ns : List ByteArray) (P : List Pt) (n ln cn : Nat) (An : Option Addr) (M : Hid (LC B w g b N Q)) (hN : Hid (ReadsT w w.heap.size An ns)) (hln : Hid (ns.length = ln)) (hlm : ln ≤ 1000000) (HP : Hid (partsQ Q ns = P)) (hn : Hid (P.length = n)) :
    Calls Try.prog 24 #[.pointer (some ⟨g, 0, none⟩), .slice An ln cn] w fun e W' => ∃ A c, e = .returned (.slice A n c) ∧ W'.ownsRow w.heap.size 37 2 (.slice A n c) n (rowP P) ∧ Below w.heap.size w W' := by
  have h := callsIn_wide.1 (parts_in w g b N Q.length ln cn An Q ns rfl M.out.good.len M.out.good.rise (fun x hx => by have := M.out.good.fit x hx; exact ⟨by unfold maxLen; omega, this.2⟩) M.out.cat hN.out hln.out hlm)
  rw [HP.out, hn.out] at h
  exact h
theorem m9_n (s : ByteArray) (x : Int) (M : Hid (LC B w g b N Q)) (hs : s.size ≤ maxLen) (HV : Hid (numOf Q s = x)) :
    Calls Try.prog 19 #[.pointer (some ⟨g, 0, none⟩), .string s] w fun e w' => e = .returned (.int .i64 x) ∧ w' = w := n_is s x (Lib.hid M.out.cat) (Lib.hid M.out.good.rise) hs HV
theorem m9_has (s : ByteArray) (n : Int) (v : Bool) (M : Hid (LC B w g b N Q)) (hs : s.size ≤ maxLen) (HV : Hid (hasP Q s n = v)) :
    Calls Try.prog 21 #[.pointer (some ⟨g, 0, none⟩), .agg #[.string s, .int .i64 n]] w fun e w' => e = .returned (.bool v) ∧ Below w.heap.size w w' := has_is s n v (Lib.hid M.out.cat) (Lib.hid M.out.good.rise) hs HV
theorem m9_load (B w : World) (A : Option Addr) (n cap : Nat) (l : List Pt) (hb : Hid (Below B.heap.size B w)) (hn : Hid (l.length = n)) (hn1 : n ≤ 1000000) (hR : Hid (ReadsP w w.heap.size A l)) (hs : Hid (∀ y ∈ l, y.t.size ≤ 281474976710656)) (HX : Hid (loadE l 0)) :
    Calls Try.prog 27 #[.slice A n cap] w fun e w' => ∃ g b, e = .returned (.tuple #[.pointer (some ⟨g, 0, none⟩), .int .i64 0]) ∧ LC B w' g b n l ∧ Below w.heap.size w w' :=
  (load_is w A n cap l 0 hn hn1 hR hs HX).mono fun e w' ⟨h1, h2⟩ => by
    rcases h2 with ⟨h, _⟩ | ⟨_, hG, g, b, he, hc, hg, hb'⟩
    · exact absurd rfl h
    · rw [hn.out] at hc
      exact ⟨g, b, he, ⟨hc, hG, Nat.le_trans hb.out.size hg, Nat.le_trans hb.out.size hb', hb.out.trans (h1.mono hb.out.size)⟩, h1⟩
theorem m9_load_no (w : World) (A : Option Addr) (n cap : Nat) (l : List Pt) (x : Int) (hx : x ≠ 0) (hn : Hid (l.length = n)) (hn1 : n ≤ 1000000) (hR : Hid (ReadsP w w.heap.size A l)) (hs : Hid (∀ y ∈ l, y.t.size ≤ 281474976710656)) (HX : Hid (loadE l x)) :
    Calls Try.prog 27 #[.slice A n cap] w fun e w' => e = .returned (.tuple #[.pointer none, .int .i64 x]) ∧ Below w.heap.size w w' :=
  (load_is w A n cap l x hn hn1 hR hs HX).mono fun e w' ⟨h1, h2⟩ => by
    rcases h2 with ⟨_, h⟩ | ⟨h, _⟩
    · exact ⟨h, h1⟩
    · exact absurd h hx
/-- what loading tells of a catalog's topics -/
theorem Good.load {Q : List Pt} (h : Good Q) : loadE Q 0 := by
  unfold loadE
  rw [if_neg (by have := h.len; omega)]
  exact .inl ⟨rfl, h.okTo⟩
end Go.Proofs.Ytohfbmgonjkhhaa.L9
