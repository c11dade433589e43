/-
  Contracts: the calls of a segment that the caller itself made.
-/
import Derived.Test.YtlemcijgjebekaaSegRidx
namespace Go.Proofs.Ytlemcijgjebekaa.L5
open Go.RowKit
open L3 L4

/-- a segment that was made since w, all of it below H -/
def Mine (T : TypeId) (w : World) (H : Nat) (W : World) (g : Nat) (base next : Int) (L : List L4.Fd) : Prop :=
  H ≤ W.heap.size ∧ Below w.heap.size w W ∧ w.heap.size ≤ g ∧ g < H ∧ ∃ A cap, Seg T W g A cap base next L ∧ ∀ k, blk A = some k → w.heap.size ≤ k ∧ k < H
section
variable {T : TypeId} {w W W' : World} {H g : Nat} {base next : Int} {L : List L4.Fd}
theorem Mine.old (m : Mine T w H W g base next L) : Below w.heap.size w W := m.2.1
theorem Mine.lt (m : Mine T w H W g base next L) : g < W.heap.size := Nat.lt_of_lt_of_le m.2.2.2.1 m.1
theorem Mine.below (m : Mine T w H W g base next L) (b : Below H W W') : Mine T w H W' g base next L := by
  obtain ⟨h1, h2, h3, h4, A, cap, hs, hA⟩ := m
  refine ⟨Nat.le_trans h1 b.size, h2.trans (b.mono (by omega)), h3, h4, A, cap, hs.kept (b.block g h4) (fun k e => b.block k (hA k e).2), hA⟩
theorem Mine.up (m : Mine T w H W g base next L) {H' : Nat} (h : H ≤ H') (h' : H' ≤ W.heap.size) : Mine T w H' W g base next L := by
  obtain ⟨h1, h2, h3, h4, A, cap, hs, hA⟩ := m
  exact ⟨h', h2, h3, by omega, A, cap, hs, fun k e => ⟨(hA k e).1, by have := (hA k e).2; omega⟩⟩
theorem Mine.below' (m : Mine T w H W g base next L) (b : Below W.heap.size W W') : Mine T w H W' g base next L := m.below (b.mono m.1)
/-- what lies above it stays -/
def Outer (H : Nat) (W W' : World) : Prop := ∀ k, H ≤ k → k < W.heap.size → W'.heap[k]? = W.heap[k]?
theorem outer_but {A : Option Addr} (hg : g < H) (hA : ∀ k, blk A = some k → k < H) (b : But g (blk A) W W') : Outer H W W' := fun k h1 h2 =>
  b.block k h2 (by omega) (fun e => by have := hA k e.symm; omega)
theorem Outer.own {base' n : Nat} {E : TypeId} {m : Nat} {v : Value} {xs : List Value} (o : Outer H W W') (h : W.ownsRow base' E m v n xs) (hb : H ≤ base') : W'.ownsRow base' E m v n xs := by
  refine ⟨h.1, ?_⟩
  rcases h.2 with e | ⟨b, cap, cur, e, h1, hh, h2⟩
  · exact .inl e
  · exact .inr ⟨b, cap, cur, e, h1, (o b (by omega) (Array.getElem?_eq_some_iff.1 hh).1).trans hh, h2⟩
/-- behind a call that turned it -/
theorem Mine.step {next' : Int} {L' : List L4.Fd} {A : Option Addr} (h2 : Below w.heap.size w W) (h3 : w.heap.size ≤ g) (hA : ∀ k, blk A = some k → w.heap.size ≤ k ∧ k < H) (hs : Step T W g A base next' L' W') : Mine T w W'.heap.size W' g base next' L' := by
  obtain ⟨A', c', s1, s2, s3⟩ := hs
  refine ⟨Nat.le_refl _, h2.trans (s2.below h2.size h3 (fun k e => (hA k e).1)), h3, s1.lt, A', c', s1, fun k e => ⟨?_, s1.blkLt k e⟩⟩
  rcases s3 k e with e' | e'
  · exact (hA k e').1
  · have := h2.size; omega
theorem Mine.made {A : Option Addr} {cap : Nat} (hb : Below w.heap.size w W) (hf : Fresh T W g A cap base next L W') (hw : Below W.heap.size W W') : Mine T w W'.heap.size W' g base next L := by
  obtain ⟨h1, h2, h3⟩ := hf
  have := hb.size
  exact ⟨Nat.le_refl _, hb.trans (hw.mono hb.size), by omega, h1.lt, A, cap, h1, fun k e => ⟨by have := h3 k e; omega, h1.blkLt k e⟩⟩
end

theorem new_ok (base : Int) (w W : World) (hb : Hid (Below w.heap.size w W)) (HX : Hid (newE base = 0)) :
    Calls Try.prog 64 #[.int .i64 base] W fun e W' => ∃ g, e = .returned (.tuple #[.pointer (some ⟨g, 0, none⟩), .int .i64 0]) ∧ Mine 167 w W'.heap.size W' g base base [] := by
  refine (new_is base 0 W HX).mono ?_
  rintro e W' ⟨h, ⟨hx, _⟩ | ⟨_, g, A, cap, rfl, hf⟩⟩
  · exact absurd rfl hx
  · exact ⟨g, rfl, Mine.made hb.out hf h⟩
theorem new_no (base : Int) (W : World) (HX : Hid (newE base = 1)) :
    Calls Try.prog 64 #[.int .i64 base] W fun e W' => e = .returned (.tuple #[.pointer none, .int .i64 1]) ∧ Below W.heap.size W W' := by
  refine (new_is base 1 W HX).mono ?_
  rintro e W' ⟨h, ⟨_, rfl⟩ | ⟨hx, _⟩⟩
  · exact ⟨rfl, h⟩
  · exact absurd hx (by decide)
theorem load_yes (base next : Int) (A : Option Addr) (l : List L4.Fd) (n cap B : Nat) (w W : World) (hb : Hid (Below w.heap.size w W)) (hR : Hid (ReadsF W B A l)) (hB : B ≤ W.heap.size) (hn : l.length = n) (hl : n ≤ maxLen) (hs : Hid (∀ f ∈ l, f.r.key.size ≤ maxLen ∧ f.r.val.size ≤ maxLen)) (HX : Hid (loadE base next l = 0)) :
    Calls Try.prog 82 #[.int .i64 base, .int .i64 next, .slice A n cap] W fun e W' => ∃ g, e = .returned (.tuple #[.pointer (some ⟨g, 0, none⟩), .int .i64 0]) ∧ Mine 167 w W'.heap.size W' g base next l ∧ Below W.heap.size W W' := by
  subst hn
  refine (load_is base next A l cap B 0 W hR hB hl hs HX).mono ?_
  rintro e W' ⟨h, ⟨hx, _⟩ | ⟨_, g, A, cap, rfl, hf⟩⟩
  · exact absurd rfl hx
  · exact ⟨g, rfl, Mine.made hb.out hf h, h⟩
theorem load_not (base next : Int) (A : Option Addr) (l : List L4.Fd) (n cap B : Nat) (x : Int) (W : World) (hR : Hid (ReadsF W B A l)) (hB : B ≤ W.heap.size) (hn : l.length = n) (hl : n ≤ maxLen) (hs : Hid (∀ f ∈ l, f.r.key.size ≤ maxLen ∧ f.r.val.size ≤ maxLen)) (HX : Hid (loadE base next l = x)) (hx : x ≠ 0) :
    Calls Try.prog 82 #[.int .i64 base, .int .i64 next, .slice A n cap] W fun e W' => e = .returned (.tuple #[.pointer none, .int .i64 x]) ∧ Below W.heap.size W W' := by
  subst hn
  refine (load_is base next A l cap B x W hR hB hl hs HX).mono ?_
  rintro e W' ⟨h, ⟨_, rfl⟩ | ⟨h0, _⟩⟩
  · exact ⟨rfl, h⟩
  · exact absurd h0 hx

section
variable {T : TypeId} {w W : World} {H g : Nat} {base next : Int} {L : List L4.Fd}
theorem mine_append (m : Hid (Mine T w H W g base next L)) (X : Option Addr) (rs : List R) (n xc B : Nat) (hl : L.length ≤ 64) (hn0 : 0 ≤ next) (hn1 : next ≤ 1099511627776) (hR : Hid (Reads W B X rs)) (hX : Hid (∀ k, blk X = some k → H ≤ k ∨ k < w.heap.size)) (hB : B ≤ W.heap.size) (hn : rs.length = n) (hrl : n ≤ maxLen) (hs : Hid (∀ r ∈ rs, r.key.size ≤ maxLen ∧ r.val.size ≤ maxLen)) (HX : Hid (appE next L.length rs = 0)) :
    Calls Try.prog 65 #[.pointer (some ⟨g, 0, none⟩), .slice X n xc] W fun e W' => e = .returned (.tuple #[.int .i64 next, .int .i64 0]) ∧ Mine T w W'.heap.size W' g base (next + rs.length) (L ++ numbered next rs) ∧ Outer H W W' := by
  subst hn
  obtain ⟨h1, h2, h3, h4, A, cap, hseg, hA⟩ := m.out
  refine (append_is X rs xc B 0 (Lib.hid hseg) hl hn0 hn1 hR (Lib.hid (fun k e => ?_)) hB hrl hs HX).mono ?_
  · have := hX.out k e
    refine ⟨by omega, fun q => ?_⟩
    have := hA k q.symm
    omega
  · rintro e W' (⟨hx, _⟩ | ⟨_, rfl, hst⟩)
    · exact absurd rfl hx
    · exact ⟨rfl, Mine.step h2 h3 hA hst, by obtain ⟨_, _, _, hb, _⟩ := hst; exact outer_but h4 (fun k e => (hA k e).2) hb⟩
theorem mine_append_no (m : Hid (Mine T w H W g base next L)) (X : Option Addr) (rs : List R) (n xc B : Nat) (x : Int) (hl : L.length ≤ 64) (hn0 : 0 ≤ next) (hn1 : next ≤ 1099511627776) (hR : Hid (Reads W B X rs)) (hX : Hid (∀ k, blk X = some k → H ≤ k ∨ k < w.heap.size)) (hB : B ≤ W.heap.size) (hn : rs.length = n) (hrl : n ≤ maxLen) (hs : Hid (∀ r ∈ rs, r.key.size ≤ maxLen ∧ r.val.size ≤ maxLen)) (HX : Hid (appE next L.length rs = x)) (hx : x ≠ 0) :
    Calls Try.prog 65 #[.pointer (some ⟨g, 0, none⟩), .slice X n xc] W fun e W' => e = .returned (.tuple #[.int .i64 0, .int .i64 x]) ∧ Below W.heap.size W W' := by
  subst hn
  obtain ⟨h1, h2, h3, h4, A, cap, hseg, hA⟩ := m.out
  refine (append_is X rs xc B x (Lib.hid hseg) hl hn0 hn1 hR (Lib.hid (fun k e => ?_)) hB hrl hs HX).mono ?_
  · have := hX.out k e
    refine ⟨by omega, fun q => ?_⟩
    have := hA k q.symm
    omega
  · rintro e W' (⟨_, rfl, hb⟩ | ⟨h0, _⟩)
    · exact ⟨rfl, hb⟩
    · exact absurd h0 hx
theorem mine_keep (m : Hid (Mine T w H W g base next L)) (X : Option Addr) (s : List Int) (n xc B : Nat) (hl : L.length ≤ 64) (ho : Hid (∀ f ∈ L, 0 ≤ f.o ∧ f.o ≤ 1099511627776)) (hR : Hid (ReadsI W B X s)) (hB : B ≤ W.heap.size) (hn : s.length = n) (hs : n ≤ 1000000) (hwf : Hid (∀ x ∈ s, (Lit.int .i64 x).wf = true)) :
    Calls Try.prog 77 #[.pointer (some ⟨g, 0, none⟩), .slice X n xc] W fun e W' => e = .returned (.int .i64 ((L.length - (keepL L s).length : Nat) : Int)) ∧ Mine T w W'.heap.size W' g base next (keepL L s) ∧ Outer H W W' := by
  subst hn
  obtain ⟨h1, h2, h3, h4, A, cap, hseg, hA⟩ := m.out
  refine (keep_is X s xc B L.length (Lib.hid hseg) rfl hl ho hR hB hs hwf).mono ?_
  rintro e W' ⟨rfl, hst⟩
  exact ⟨rfl, Mine.step h2 h3 hA hst, by obtain ⟨_, _, _, hb, _⟩ := hst; exact outer_but h4 (fun k e => (hA k e).2) hb⟩
theorem mine_read (m : Hid (Mine T w H W g base next L)) (a c : Int) (hl : L.length ≤ 64) (hr : Hid (riseB base next L = true)) :
    Calls Try.prog 70 #[.pointer (some ⟨g, 0, none⟩), .int .i64 a, .int .i64 c] W (CloneP W (readL L a c)) := by
  obtain ⟨h1, h2, h3, h4, A, cap, hseg, hA⟩ := m.out
  exact read_ok a c L.length _ (Lib.hid hseg) hr rfl hl (Lib.hid rfl)
theorem mine_all (m : Hid (Mine T w H W g base next L)) (hl : L.length ≤ 64) :
    Calls Try.prog 76 #[.pointer (some ⟨g, 0, none⟩)] W (CloneP W L) := by
  obtain ⟨h1, h2, h3, h4, A, cap, hseg, hA⟩ := m.out
  exact all_is (Lib.hid hseg) hl
theorem mine_span (m : Hid (Mine T w H W g base next L)) :
    Calls Try.prog 84 #[.pointer (some ⟨g, 0, none⟩)] W fun e W' => e = .returned (.tuple #[.int .i64 base, .int .i64 next]) ∧ Below W.heap.size W W' := by
  obtain ⟨h1, h2, h3, h4, A, cap, hseg, hA⟩ := m.out
  exact span_is (Lib.hid hseg)
theorem mine_len (m : Hid (Mine T w H W g base next L)) :
    Calls Try.prog 63 #[.pointer (some ⟨g, 0, none⟩)] W fun e W' => e = .returned (.int .i64 L.length) ∧ Below W.heap.size W W' := by
  obtain ⟨h1, h2, h3, h4, A, cap, hseg, hA⟩ := m.out
  exact (len_is (Lib.hid hseg)).mono (fun e W' ⟨h, q⟩ => ⟨h, q ▸ Below.refl _ _⟩)
theorem mine_bytes (m : Hid (Mine T w H W g base next L)) (hl : L.length ≤ 64) (hs : Hid (∀ f ∈ L, f.r.key.size ≤ 64 ∧ f.r.val.size ≤ 512)) :
    Calls Try.prog 119 #[.pointer (some ⟨g, 0, none⟩)] W fun e W' => e = .returned (.int .i64 (bytesL L : Nat)) ∧ Below W.heap.size W W' := by
  obtain ⟨h1, h2, h3, h4, A, cap, hseg, hA⟩ := m.out
  exact bytes_is L.length (Lib.hid hseg) rfl hl hs
end
end Go.Proofs.Ytlemcijgjebekaa.L5
