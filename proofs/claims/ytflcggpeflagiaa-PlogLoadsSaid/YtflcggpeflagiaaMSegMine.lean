/-
  Contracts: the calls of a segment that the caller itself made.
-/
import Derived.Test.YtflcggpeflagiaaSegRidx
import Derived.Test.YtflcggpeflagiaaRecOpen
namespace Go.Proofs.Ytflcggpeflagiaa.L5
open Go.RowKit
open L3 L4

/-- a segment that was made since w, all of it below H -/
def Mine (T : TypeId) (w : World) (H : Nat) (W : World) (g : Nat) (base next : Int) (L : List L4.Fd) : Prop :=
  H ≤ W.heap.size ∧ Below w.heap.size w W ∧ w.heap.size ≤ g ∧ g < H ∧ ∃ A cap, Seg T W g A cap base next L ∧ ∀ k, blk A = some k → w.heap.size ≤ k ∧ k < H
section
variable {T : TypeId} {w W W' : World} {H g : Nat} {base next : Int} {L : List L4.Fd}
theorem Mine.old (m : Mine T w H W g base next L) : Below w.heap.size w W := m.2.1
theorem Mine.lt (m : Mine T w H W g base next L) : g < W.heap.size := Nat.lt_of_lt_of_le m.2.2.2.1 m.1
theorem Mine.below (m : Mine T w H W g base next L) (b : Below H W W') : Mine T w H W' g base next L := by
  obtain ⟨h1, h2, h3, h4, A, cap, hs, hA⟩ := m
  refine ⟨Nat.le_trans h1 b.size, h2.trans (b.mono (by omega)), h3, h4, A, cap, hs.kept (b.block g h4) (fun k e => b.block k (hA k e).2), hA⟩
theorem Mine.up (m : Mine T w H W g base next L) {H' : Nat} (h : H ≤ H') (h' : H' ≤ W.heap.size) : Mine T w H' W g base next L := by
  obtain ⟨h1, h2, h3, h4, A, cap, hs, hA⟩ := m
  exact ⟨h', h2, h3, by omega, A, cap, hs, fun k e => ⟨(hA k e).1, by have := (hA k e).2; omega⟩⟩
theorem Mine.below' (m : Mine T w H W g base next L) (b : Below W.heap.size W W') : Mine T w H W' g base next L := m.below (b.mono m.1)
/-- what lies above it stays -/
def Outer (H : Nat) (W W' : World) : Prop := ∀ k, H ≤ k → k < W.heap.size → W'.heap[k]? = W.heap[k]?
theorem outer_but {A : Option Addr} (hg : g < H) (hA : ∀ k, blk A = some k → k < H) (b : But g (blk A) W W') : Outer H W W' := fun k h1 h2 =>
  b.block k h2 (by omega) (fun e => by have := hA k e.symm; omega)
theorem Outer.own {base' n : Nat} {E : TypeId} {m : Nat} {v : Value} {xs : List Value} (o : Outer H W W') (h : W.ownsRow base' E m v n xs) (hb : H ≤ base') : W'.ownsRow base' E m v n xs := by
  refine ⟨h.1, ?_⟩
  rcases h.2 with e | ⟨b, cap, cur, e, h1, hh, h2⟩
  · exact .inl e
  · exact .inr ⟨b, cap, cur, e, h1, (o b (by omega) (Array.getElem?_eq_some_iff.1 hh).1).trans hh, h2⟩
/-- behind a call that turned it -/
theorem Mine.step {next' : Int} {L' : List L4.Fd} {A : Option Addr} (h2 : Below w.heap.size w W) (h3 : w.heap.size ≤ g) (hA : ∀ k, blk A = some k → w.heap.size ≤ k ∧ k < H) (hs : Step T W g A base next' L' W') : Mine T w W'.heap.size W' g base next' L' := by
  obtain ⟨A', c', s1, s2, s3⟩ := hs
  refine ⟨Nat.le_refl _, h2.trans (s2.below h2.size h3 (fun k e => (hA k e).1)), h3, s1.lt, A', c', s1, fun k e => ⟨?_, s1.blkLt k e⟩⟩
  rcases s3 k e with e' | e'
  · exact (hA k e').1
  · have := h2.size; omega
theorem Mine.made {A : Option Addr} {cap : Nat} (hb : Below w.heap.size w W) (hf : Fresh T W g A cap base next L W') (hw : Below W.heap.size W W') : Mine T w W'.heap.size W' g base next L := by
  obtain ⟨h1, h2, h3⟩ := hf
  have := hb.size
  exact ⟨Nat.le_refl _, hb.trans (hw.mono hb.size), by omega, h1.lt, A, cap, h1, fun k e => ⟨by have := h3 k e; omega, h1.blkLt k e⟩⟩
end

theorem new_ok (base : Int) (w W : World) (hb : Hid (Below w.heap.size w W)) (HX : Hid (newE base = 0)) :
    Calls Try.prog 28 #[.int .i64 base] W fun e W' => ∃ g, e = .returned (.tuple #[.pointer (some ⟨g, 0, none⟩), .int .i64 0]) ∧ Mine 93 w W'.heap.size W' g base base [] := by
  refine (new_is base 0 W HX).mono ?_
  rintro e W' ⟨h, ⟨hx, _⟩ | ⟨_, g, A, cap, rfl, hf⟩⟩
  · exact absurd rfl hx
  · exact ⟨g, rfl, Mine.made hb.out hf h⟩
theorem new_no (base : Int) (W : World) (HX : Hid (newE base = 1)) :
    Calls Try.prog 28 #[.int .i64 base] W fun e W' => e = .returned (.tuple #[.pointer none, .int .i64 1]) ∧ Below W.heap.size W W' := by
  refine (new_is base 1 W HX).mono ?_
  rintro e W' ⟨h, ⟨_, rfl⟩ | ⟨hx, _⟩⟩
  · exact ⟨rfl, h⟩
  · exact absurd hx (by decide)
theorem load_yes (base next : Int) (A : Option Addr) (l : List L4.Fd) (n cap B : Nat) (w W : World) (hb : Hid (Below w.heap.size w W)) (hR : Hid (ReadsF W B A l)) (hB : B ≤ W.heap.size) (hn : l.length = n) (hl : n ≤ maxLen) (hs : Hid (∀ f ∈ l, f.r.key.size ≤ maxLen ∧ f.r.val.size ≤ maxLen)) (HX : Hid (loadE base next l = 0)) :
    Calls Try.prog 49 #[.int .i64 base, .int .i64 next, .slice A n cap] W fun e W' => ∃ g, e = .returned (.tuple #[.pointer (some ⟨g, 0, none⟩), .int .i64 0]) ∧ Mine 93 w W'.heap.size W' g base next l ∧ Below W.heap.size W W' := by
  subst hn
  refine (load_is base next A l cap B 0 W hR hB hl hs HX).mono ?_
  rintro e W' ⟨h, ⟨hx, _⟩ | ⟨_, g, A, cap, rfl, hf⟩⟩
  · exact absurd rfl hx
  · exact ⟨g, rfl, Mine.made hb.out hf h, h⟩
theorem load_not (base next : Int) (A : Option Addr) (l : List L4.Fd) (n cap B : Nat) (x : Int) (W : World) (hR : Hid (ReadsF W B A l)) (hB : B ≤ W.heap.size) (hn : l.length = n) (hl : n ≤ maxLen) (hs : Hid (∀ f ∈ l, f.r.key.size ≤ maxLen ∧ f.r.val.size ≤ maxLen)) (HX : Hid (loadE base next l = x)) (hx : x ≠ 0) :
    Calls Try.prog 49 #[.int .i64 base, .int .i64 next, .slice A n cap] W fun e W' => e = .returned (.tuple #[.pointer none, .int .i64 x]) ∧ Below W.heap.size W W' := by
  subst hn
  refine (load_is base next A l cap B x W hR hB hl hs HX).mono ?_
  rintro e W' ⟨h, ⟨_, rfl⟩ | ⟨h0, _⟩⟩
  · exact ⟨rfl, h⟩
  · exact absurd h0 hx

section
variable {T : TypeId} {w W : World} {H g : Nat} {base next : Int} {L : List L4.Fd}
theorem mine_append (m : Hid (Mine T w H W g base next L)) (X : Option Addr) (rs : List R) (n xc B : Nat) (hl : L.length ≤ 64) (hn0 : 0 ≤ next) (hn1 : next ≤ 1099511627776) (hR : Hid (Reads W B X rs)) (hX : Hid (∀ k, blk X = some k → H ≤ k ∨ k < w.heap.size)) (hB : B ≤ W.heap.size) (hn : rs.length = n) (hrl : n ≤ maxLen) (hs : Hid (∀ r ∈ rs, r.key.size ≤ maxLen ∧ r.val.size ≤ maxLen)) (HX : Hid (appE next L.length rs = 0)) :
    Calls Try.prog 29 #[.pointer (some ⟨g, 0, none⟩), .slice X n xc] W fun e W' => e = .returned (.tuple #[.int .i64 next, .int .i64 0]) ∧ Mine T w W'.heap.size W' g base (next + rs.length) (L ++ numbered next rs) ∧ Outer H W W' := by
  subst hn
  obtain ⟨h1, h2, h3, h4, A, cap, hseg, hA⟩ := m.out
  refine (append_is X rs xc B 0 (Lib.hid hseg) hl hn0 hn1 hR (Lib.hid (fun k e => ?_)) hB hrl hs HX).mono ?_
  · have := hX.out k e
    refine ⟨by omega, fun q => ?_⟩
    have := hA k q.symm
    omega
  · rintro e W' (⟨hx, _⟩ | ⟨_, rfl, hst⟩)
    · exact absurd rfl hx
    · exact ⟨rfl, Mine.step h2 h3 hA hst, by obtain ⟨_, _, _, hb, _⟩ := hst; exact outer_but h4 (fun k e => (hA k e).2) hb⟩
theorem mine_append_no (m : Hid (Mine T w H W g base next L)) (X : Option Addr) (rs : List R) (n xc B : Nat) (x : Int) (hl : L.length ≤ 64) (hn0 : 0 ≤ next) (hn1 : next ≤ 1099511627776) (hR : Hid (Reads W B X rs)) (hX : Hid (∀ k, blk X = some k → H ≤ k ∨ k < w.heap.size)) (hB : B ≤ W.heap.size) (hn : rs.length = n) (hrl : n ≤ maxLen) (hs : Hid (∀ r ∈ rs, r.key.size ≤ maxLen ∧ r.val.size ≤ maxLen)) (HX : Hid (appE next L.length rs = x)) (hx : x ≠ 0) :
    Calls Try.prog 29 #[.pointer (some ⟨g, 0, none⟩), .slice X n xc] W fun e W' => e = .returned (.tuple #[.int .i64 0, .int .i64 x]) ∧ Below W.heap.size W W' := by
  subst hn
  obtain ⟨h1, h2, h3, h4, A, cap, hseg, hA⟩ := m.out
  refine (append_is X rs xc B x (Lib.hid hseg) hl hn0 hn1 hR (Lib.hid (fun k e => ?_)) hB hrl hs HX).mono ?_
  · have := hX.out k e
    refine ⟨by omega, fun q => ?_⟩
    have := hA k q.symm
    omega
  · rintro e W' (⟨_, rfl, hb⟩ | ⟨h0, _⟩)
    · exact ⟨rfl, hb⟩
    · exact absurd h0 hx
theorem mine_keep (m : Hid (Mine T w H W g base next L)) (X : Option Addr) (s : List Int) (n xc B : Nat) (hl : L.length ≤ 64) (ho : Hid (∀ f ∈ L, 0 ≤ f.o ∧ f.o ≤ 1099511627776)) (hR : Hid (ReadsI W B X s)) (hB : B ≤ W.heap.size) (hn : s.length = n) (hs : n ≤ 1000000) (hwf : Hid (∀ x ∈ s, (Lit.int .i64 x).wf = true)) :
    Calls Try.prog 42 #[.pointer (some ⟨g, 0, none⟩), .slice X n xc] W fun e W' => e = .returned (.int .i64 ((L.length - (keepL L s).length : Nat) : Int)) ∧ Mine T w W'.heap.size W' g base next (keepL L s) ∧ Outer H W W' := by
  subst hn
  obtain ⟨h1, h2, h3, h4, A, cap, hseg, hA⟩ := m.out
  refine (keep_is X s xc B L.length (Lib.hid hseg) rfl hl ho hR hB hs hwf).mono ?_
  rintro e W' ⟨rfl, hst⟩
  exact ⟨rfl, Mine.step h2 h3 hA hst, by obtain ⟨_, _, _, hb, _⟩ := hst; exact outer_but h4 (fun k e => (hA k e).2) hb⟩
theorem mine_read (m : Hid (Mine T w H W g base next L)) (a c : Int) (hl : L.length ≤ 64) (hr : Hid (riseB base next L = true)) :
    Calls Try.prog 35 #[.pointer (some ⟨g, 0, none⟩), .int .i64 a, .int .i64 c] W (CloneP W (readL L a c)) := by
  obtain ⟨h1, h2, h3, h4, A, cap, hseg, hA⟩ := m.out
  exact read_ok a c L.length _ (Lib.hid hseg) hr rfl hl (Lib.hid rfl)
theorem mine_all (m : Hid (Mine T w H W g base next L)) (hl : L.length ≤ 64) :
    Calls Try.prog 41 #[.pointer (some ⟨g, 0, none⟩)] W (CloneP W L) := by
  obtain ⟨h1, h2, h3, h4, A, cap, hseg, hA⟩ := m.out
  exact all_is (Lib.hid hseg) hl
theorem mine_span (m : Hid (Mine T w H W g base next L)) :
    Calls Try.prog 52 #[.pointer (some ⟨g, 0, none⟩)] W fun e W' => e = .returned (.tuple #[.int .i64 base, .int .i64 next]) ∧ Below W.heap.size W W' := by
  obtain ⟨h1, h2, h3, h4, A, cap, hseg, hA⟩ := m.out
  exact span_is (Lib.hid hseg)
theorem mine_len (m : Hid (Mine T w H W g base next L)) :
    Calls Try.prog 27 #[.pointer (some ⟨g, 0, none⟩)] W fun e W' => e = .returned (.int .i64 L.length) ∧ Below W.heap.size W W' := by
  obtain ⟨h1, h2, h3, h4, A, cap, hseg, hA⟩ := m.out
  exact (len_is (Lib.hid hseg)).mono (fun e W' ⟨h, q⟩ => ⟨h, q ▸ Below.refl _ _⟩)
theorem mine_bytes (m : Hid (Mine T w H W g base next L)) (hl : L.length ≤ 64) (hs : Hid (∀ f ∈ L, f.r.key.size ≤ 64 ∧ f.r.val.size ≤ 512)) :
    Calls Try.prog 62 #[.pointer (some ⟨g, 0, none⟩)] W fun e W' => e = .returned (.int .i64 (bytesL L : Nat)) ∧ Below W.heap.size W W' := by
  obtain ⟨h1, h2, h3, h4, A, cap, hseg, hA⟩ := m.out
  exact bytes_is L.length (Lib.hid hseg) rfl hl hs
end
end Go.Proofs.Ytflcggpeflagiaa.L5
/-
  The calls on a segment whose answers the document fixes.
-/
namespace Go.Proofs.Ytflcggpeflagiaa.L5
open Go.RowKit
open L3 L4

def rV : R := ⟨false, ⟨#[]⟩, false, ⟨#[118]⟩⟩
def rK : R := ⟨true, ⟨#[107]⟩, false, ⟨#[119]⟩⟩
def rO : R := ⟨false, ⟨#[111, 100, 100]⟩, false, ⟨#[]⟩⟩
def rZ : R := ⟨false, ⟨#[]⟩, false, ⟨#[]⟩⟩
def two : List R := [rV, rK]
def odd : List R := [rO]
def zeros : List R := List.replicate 64 rZ
def L2 : List L4.Fd := [⟨10, rV⟩, ⟨11, rK⟩]
def L1 : List L4.Fd := [⟨11, rK⟩]
theorem put1 : V.put 1 = ⟨#[1]⟩ := by unfold V.put; rw [V.puts_small (by decide)]; rfl
theorem txt1 (c : UInt8) : txt ⟨#[c]⟩ = ⟨#[1, c]⟩ := by
  unfold txt
  rw [show (ByteArray.mk #[c]).size = 1 from rfl, put1]
  rfl
theorem bytes_L1 : bytesL L1 = 5 := by
  have h : chk true ⟨#[107]⟩ false ⟨#[119]⟩ = 0 := by decide
  show (putT true ⟨#[107]⟩ false ⟨#[119]⟩).size + 0 = 5
  unfold putT
  rw [if_pos h]
  show ((⟨#[1]⟩ : ByteArray) ++ txt ⟨#[107]⟩ ++ txt ⟨#[119]⟩).size + 0 = _
  rw [txt1, txt1]
  rfl
theorem reads_rows {W : World} {g : Nat} {l : List R} {T : TypeId} {cs : Array Value} (h : W.heap[g]? = some (.cells cs T (0, 0))) (hc : cs.toList = rowOf l) : Reads W (g + 1) (some ⟨g, 0, none⟩) l := fun _ => by
  refine ⟨g, rfl, Nat.lt_succ_self _, fun i r hr => ?_⟩
  obtain ⟨a, b, c, d⟩ := rowOf_at l i r hr
  rw [← hc] at a b c d
  exact ⟨(cell_of_row _ _ _ _ _ _ h).trans (by simpa using a), (cell_of_row _ _ _ _ _ _ h).trans (by simpa using b), (cell_of_row _ _ _ _ _ _ h).trans (by simpa using c), (cell_of_row _ _ _ _ _ _ h).trans (by simpa using d)⟩
theorem reads_two {W : World} {g : Nat} (h : W.heap[g]? = some (.cells #[.bool false, .string ⟨#[]⟩, .bool false, .string ⟨#[118]⟩, .bool true, .string ⟨#[107]⟩, .bool false, .string ⟨#[119]⟩] 41 (0, 0))) : Reads W (g + 1) (some ⟨g, 0, none⟩) two := reads_rows h rfl
theorem reads_one {W : World} {g : Nat} (h : W.heap[g]? = some (.cells #[.bool false, .string ⟨#[111, 100, 100]⟩, .bool false, .string ⟨#[]⟩] 41 (0, 0))) : Reads W (g + 1) (some ⟨g, 0, none⟩) odd := reads_rows h rfl
theorem reads_num {W : World} {g : Nat} {x : Int} {T : TypeId} (h : W.heap[g]? = some (.cells #[.int .i64 x] T (0, 0))) : ReadsI W (g + 1) (some ⟨g, 0, none⟩) [x] := fun _ => by
  refine ⟨g, 0, rfl, Nat.lt_succ_self _, fun i y hy => ?_⟩
  have hi : i = 0 := by have := (List.getElem?_eq_some_iff.1 hy).1; simp at this; omega
  subst hi
  have e : x = y := by simpa using hy
  subst e
  exact (cell_of_row _ _ _ _ _ _ h).trans rfl
theorem make_zeros (W : World) : (Instr.makeSlice 30 (.int .i64 64) (.int .i64 64)).run Try.prog W = .ok (.slice (some ⟨W.heap.size, 0, none⟩) 64 64) (W.alloc (.cells (rowOf zeros).toArray 41)) := by kernel_rfl
theorem reads_zeros {W : World} {g : Nat} (h : W.heap[g]? = some (.cells (rowOf zeros).toArray 41 (0, 0))) : Reads W (g + 1) (some ⟨g, 0, none⟩) zeros := reads_rows h (by simp)
theorem read_form {w w' : World} {e : Ending} (h : CloneP w L1 e w') : ∃ b c, e = .returned (.slice (some ⟨b, 0, none⟩) 1 c) ∧ w'.ownsRow w.heap.size 43 5 (.slice (some ⟨b, 0, none⟩) 1 c) 1 (rowF L1) ∧ Below w.heap.size w w' := by
  obtain ⟨A, c, he, ho, hb⟩ := h
  obtain ⟨b, c', hv, _, _⟩ := ho.form (by decide)
  injection hv with e1 e2 e3
  subst e1
  exact ⟨b, c, he, ho, hb⟩
theorem index_form {w w' : World} {e : Ending} (h : NumsP w (indexL L1) e w') : ∃ A c, e = .returned (.slice A 1 c) ∧ w'.ownsRow w.heap.size 3 1 (.slice A [(11 : Int)].length c) [(11 : Int)].length (rowI [11]) ∧ Below w.heap.size w w' := by
  obtain ⟨A, c, he, ho, hb⟩ := h
  exact ⟨A, c, he, ho, hb⟩
theorem cells_L1 {w : World} {base b c : Nat} (h : w.ownsRow base 43 5 (.slice (some ⟨b, 0, none⟩) 1 c) 1 (rowF L1)) : w.cell? ⟨b, 0, none⟩ = some (.int .i64 11) ∧ w.cell? ⟨b, 4, none⟩ = some (.string ⟨#[119]⟩) := by
  have h0 := h.cells (g := b) rfl 0 (.int .i64 11) rfl
  have h4 := h.cells (g := b) rfl 4 (.string ⟨#[119]⟩) rfl
  rw [addr_add] at h0 h4
  exact ⟨h0, h4⟩

end Go.Proofs.Ytflcggpeflagiaa.L5
/-
  Arguments that are slices of numbers, of records, of records with offsets, of a script's calls.
-/
namespace Go.Proofs.Ytflcggpeflagiaa.L5
open Go.ChangeShapes Go.WideShapes Go.RowKit Go.Deep
open L3 L4

theorem spotNone {w : World} {a : Addr} {v : Value} (h : w.cell? a = some v) : a.spot = none := by
  unfold World.cell? at h
  split at h
  · split at h
    · cases h
    · rename_i hsp
      cases hs : a.spot with
      | none => rfl
      | some _ => rw [hs] at hsp; simp at hsp
  · cases h
/-- a slice that came in, and reads so -/
def NumsO (w : World) (B : Nat) (A : Option Addr) (l : List Int) : Prop :=
  0 < l.length → ∃ g o, A = some ⟨g, o, none⟩ ∧ g < B ∧ ∀ i r, l[i]? = some r → w.cell? ⟨g, o + i * 1, none⟩ = some (.int .i64 r)
/-- a slice that came in, and reads so -/
def FdsO (w : World) (B : Nat) (A : Option Addr) (l : List L4.Fd) : Prop :=
  0 < l.length → ∃ g o, A = some ⟨g, o, none⟩ ∧ g < B ∧ ∀ i r, l[i]? = some r → w.cell? ⟨g, o + i * 5, none⟩ = some (.int .i64 r.o) ∧ w.cell? ⟨g, o + i * 5 + 1, none⟩ = some (.bool r.r.hk) ∧ w.cell? ⟨g, o + i * 5 + 2, none⟩ = some (.string r.r.key) ∧ w.cell? ⟨g, o + i * 5 + 3, none⟩ = some (.bool r.r.tb) ∧ w.cell? ⟨g, o + i * 5 + 4, none⟩ = some (.string r.r.val)
def IsNums (w : World) (A : Option Addr) (l : List Int) : Prop := Hid (NumsO w w.heap.size A l) ∧ Hid (∀ r ∈ l, (Lit.int .i64 r).wf = true) ∧ l.length ≤ maxLen
def IsFds (w : World) (A : Option Addr) (l : List L4.Fd) : Prop := Hid (FdsO w w.heap.size A l) ∧ Hid (∀ f ∈ l, (f.r.key.size ≤ maxLen ∧ f.r.val.size ≤ maxLen) ∧ (Lit.int .i64 f.o).wf = true) ∧ l.length ≤ maxLen
theorem NumsO.reads {w : World} {B : Nat} {A : Option Addr} {l : List Int} (h : NumsO w B A l) : ReadsI w B A l := fun h0 => by
  obtain ⟨g, o, e, hg, hc⟩ := h h0
  exact ⟨g, o, e, hg, fun i x hx => by have := hc i x hx; rwa [Nat.mul_one] at this⟩
/-- a call of a script -/
structure Call where
  kind : Int
  from_ : Int
  n : Int
  A : Option Addr
  l : List R
  c : Nat
  X : Option Addr
  k : List Int
  d : Nat
section
variable {H : Type} {enc : TypeId × Value → H} {w : World} {base : Nat} {spare : Nat → Bool} {held : Bool}

theorem cells_num {n : Nat} {cs : List Value} {x : DataW H × List MemPlace} (h : DataW.trod enc Try.prog w base spare held n 3 cs = some x) : ∃ (y : Int), cs = [.int .i64 y] ∧ (Lit.int .i64 y).wf = true := by
  obtain ⟨y, e, _, hw⟩ := DataW.trod_int Try.underlying3 h
  exact ⟨y, e, hw⟩
set_option maxRecDepth 100000 in
theorem cells_fd {n : Nat} {cs : List Value} {x : DataW H × List MemPlace} (h : DataW.trod enc Try.prog w base spare held n 43 cs = some x) :
    ∃ (off : Int) (hk : Bool) (k : ByteArray) (tb : Bool) (v : ByteArray), cs = [.int .i64 off, .bool hk, .string k, .bool tb, .string v] ∧ (k.size ≤ maxLen ∧ v.size ≤ maxLen) ∧ (Lit.int .i64 off).wf = true := by
  obtain ⟨xs, m, _, _, hl, hxl, hg⟩ := DataW.trod_struct Try.underlying43 h
  have hl5 : cs.length = 5 := hl.trans (by kernel_rfl)
  have hx2 : xs.length = 2 := hxl
  match cs, hl5 with
  | [c0, c1, c2, c3, c4], _ =>
    match xs, hx2 with
    | [y0, y1], _ =>
      have f0 : DataW.trod enc Try.prog w base spare held m 3 (([c0, c1, c2, c3, c4].drop 0).take (Try.prog.cellsOf 3)) = some y0 := hg 0 _ rfl
      have f1 : DataW.trod enc Try.prog w base spare held m 41 (([c0, c1, c2, c3, c4].drop 1).take (Try.prog.cellsOf 41)) = some y1 := hg 1 _ rfl
      have zi : Try.prog.cellsOf 3 = 1 := by kernel_rfl
      have zr : Try.prog.cellsOf 41 = 2 + 2 := by kernel_rfl
      rw [zi] at f0
      rw [zr] at f1
      obtain ⟨off, e0, _, hw⟩ := DataW.trod_int Try.underlying3 f0
      obtain ⟨hk, k, tb, v, e1, h1, h2⟩ := cells_rec f1
      simp at e0 e1
      obtain ⟨ea, eb, ec, ed⟩ := e1
      subst e0 ea eb ec ed
      exact ⟨off, hk, k, tb, v, rfl, ⟨h1, h2⟩, hw⟩
set_option maxRecDepth 100000 in
theorem cells_nums {n : Nat} {cs : List Value} {x : DataW H × List MemPlace} (h : DataW.trod enc Try.prog w base spare held n 81 cs = some x) :
    ∃ (A : Option Addr) (l : List Int) (cap : Nat), cs = [.slice A l.length cap] ∧ IsNums w A l ∧ l.length ≤ cap := by
  rcases open_slice Try.underlying81 h with ⟨rfl, _⟩ | ⟨a, len, cap, m, n', D, Pl, rfl, _, hl, hm, hmm, _, hi⟩
  · exact ⟨none, [], 0, rfl, ⟨Lib.hid (fun h0 => absurd h0 (by simp)), Lib.hid (fun r hr => by simp at hr), by simp⟩, by simp⟩
  · have hle : len ≤ m := by rw [hmm]; split <;> omega
    have zE : Try.prog.cellsOf 3 = 0 + 1 := by kernel_rfl
    rw [zE, Nat.zero_add] at hi
    have hrec : ∀ i, ∃ r : Int, i < len → ((Lit.int .i64 r).wf = true) ∧ ∀ j, j < 0 + 1 → w.cell? (a.add (i * (0 + 1) + j)) = [Value.int .i64 r][j]? := by
      intro i
      by_cases him : i < len
      · obtain ⟨cs', hc, ht⟩ := hi i (by omega)
        obtain ⟨y, e, h1⟩ := cells_num ht
        obtain ⟨_, _, hcell⟩ := World.cells?_some hc
        refine ⟨y, fun _ => ⟨h1, fun j hj => ?_⟩⟩
        rw [Nat.zero_add] at hj ⊢
        rw [← Addr.add_add, hcell j hj, e]
      · exact ⟨0, fun h => absurd h him⟩
    obtain ⟨f, hf⟩ := Classical.axiomOfChoice hrec
    have hlen : ((List.range len).map f).length = len := by simp
    refine ⟨some a, (List.range len).map f, cap, by rw [hlen], ⟨Lib.hid (fun h0 => ?_), Lib.hid (fun r hr => ?_), by rw [hlen]; omega⟩, by rw [hlen]; exact hl⟩
    · rw [hlen] at h0
      have c0 := (hf 0 h0).2 0 (by omega)
      have hsp : a.spot = none := spotNone (by simpa [Addr.add] using c0 : w.cell? a = some _)
      obtain ⟨g, o, sp⟩ := a
      have hsp' : sp = none := hsp
      subst hsp'
      have hadd : ∀ j, (⟨g, o, none⟩ : Addr).add j = ⟨g, o + j, none⟩ := fun j => by unfold Addr.add; split <;> simp_all
      have hg : g < w.heap.size := World.block_lt_of_cell? w _ (by simpa [Addr.add] using c0 : w.cell? ⟨g, o, none⟩ = some _)
      refine ⟨g, o, rfl, hg, fun i r hr => ?_⟩
      have hir : i < len ∧ f i = r := by
        have h1 := (List.getElem?_eq_some_iff.1 hr).1
        rw [hlen] at h1
        refine ⟨h1, ?_⟩
        have h2 : ((List.range len).map f)[i]? = some (f i) := by simp [h1]
        rw [h2] at hr
        exact Option.some.inj hr
      obtain ⟨him, rfl⟩ := hir
      have q := (hf i him).2
      have q0 := q 0 (by omega);
      rw [hadd] at q0
      simp only [Nat.add_zero, Nat.zero_add] at q0
      exact q0
    · simp only [List.mem_map, List.mem_range] at hr
      obtain ⟨i, hi, rfl⟩ := hr
      exact (hf i hi).1
set_option maxRecDepth 100000 in
theorem cells_fds {n : Nat} {cs : List Value} {x : DataW H × List MemPlace} (h : DataW.trod enc Try.prog w base spare held n 36 cs = some x) :
    ∃ (A : Option Addr) (l : List L4.Fd) (cap : Nat), cs = [.slice A l.length cap] ∧ IsFds w A l := by
  rcases open_slice Try.underlying36 h with ⟨rfl, _⟩ | ⟨a, len, cap, m, n', D, Pl, rfl, _, hl, hm, hmm, _, hi⟩
  · exact ⟨none, [], 0, rfl, Lib.hid (fun h0 => absurd h0 (by simp)), Lib.hid (fun r hr => by simp at hr), by simp⟩
  · have hle : len ≤ m := by rw [hmm]; split <;> omega
    have zE : Try.prog.cellsOf 43 = 0 + 5 := by kernel_rfl
    rw [zE, Nat.zero_add] at hi
    have hrec : ∀ i, ∃ r : L4.Fd, i < len → ((r.r.key.size ≤ maxLen ∧ r.r.val.size ≤ maxLen) ∧ (Lit.int .i64 r.o).wf = true) ∧ ∀ j, j < 0 + 5 → w.cell? (a.add (i * (0 + 5) + j)) = [Value.int .i64 r.o, .bool r.r.hk, .string r.r.key, .bool r.r.tb, .string r.r.val][j]? := by
      intro i
      by_cases him : i < len
      · obtain ⟨cs', hc, ht⟩ := hi i (by omega)
        obtain ⟨off, hk, k, tb, v, e, h1, h2⟩ := cells_fd ht
        obtain ⟨_, _, hcell⟩ := World.cells?_some hc
        refine ⟨⟨off, ⟨hk, k, tb, v⟩⟩, fun _ => ⟨⟨h1, h2⟩, fun j hj => ?_⟩⟩
        rw [Nat.zero_add] at hj ⊢
        rw [← Addr.add_add, hcell j hj, e]
      · exact ⟨⟨0, R.zero⟩, fun h => absurd h him⟩
    obtain ⟨f, hf⟩ := Classical.axiomOfChoice hrec
    have hlen : ((List.range len).map f).length = len := by simp
    refine ⟨some a, (List.range len).map f, cap, by rw [hlen], Lib.hid (fun h0 => ?_), Lib.hid (fun r hr => ?_), by rw [hlen]; omega⟩
    · rw [hlen] at h0
      have c0 := (hf 0 h0).2 0 (by omega)
      have hsp : a.spot = none := spotNone (by simpa [Addr.add] using c0 : w.cell? a = some _)
      obtain ⟨g, o, sp⟩ := a
      have hsp' : sp = none := hsp
      subst hsp'
      have hadd : ∀ j, (⟨g, o, none⟩ : Addr).add j = ⟨g, o + j, none⟩ := fun j => by unfold Addr.add; split <;> simp_all
      have hg : g < w.heap.size := World.block_lt_of_cell? w _ (by simpa [Addr.add] using c0 : w.cell? ⟨g, o, none⟩ = some _)
      refine ⟨g, o, rfl, hg, fun i r hr => ?_⟩
      have hir : i < len ∧ f i = r := by
        have h1 := (List.getElem?_eq_some_iff.1 hr).1
        rw [hlen] at h1
        refine ⟨h1, ?_⟩
        have h2 : ((List.range len).map f)[i]? = some (f i) := by simp [h1]
        rw [h2] at hr
        exact Option.some.inj hr
      obtain ⟨him, rfl⟩ := hir
      have q := (hf i him).2
      have q0 := q 0 (by omega); have q1 := q 1 (by omega); have q2 := q 2 (by omega); have q3 := q 3 (by omega); have q4 := q 4 (by omega);
      rw [hadd] at q0 q1 q2 q3 q4
      simp only [Nat.add_zero, Nat.zero_add, ← Nat.add_assoc] at q0 q1 q2 q3 q4
      exact ⟨q0, q1, q2, q3, q4⟩
    · simp only [List.mem_map, List.mem_range] at hr
      obtain ⟨i, hi, rfl⟩ := hr
      exact (hf i hi).1

set_option maxRecDepth 100000 in
theorem open_nums {r : Reach} {b0 : Nat} {v : Value} {d : DataW H} {p : List MemPlace} (hv : Value.okWide Try.prog w r b0 81 v) (h : DataW.Trod enc Try.prog w base spare held 81 v d p) :
    ∃ (A : Option Addr) (l : List Int) (cap : Nat), v = .slice A l.length cap ∧ IsNums w A l ∧ l.length ≤ cap := by
  obtain ⟨a, len, c, rfl⟩ := okWide_slice Try.underlying81 hv
  obtain ⟨fuel, hf⟩ := h
  obtain ⟨A, l, cap, e, hI⟩ := cells_nums hf
  have e' : [Value.slice a len c] = [Value.slice A l.length cap] := e
  exact ⟨A, l, cap, by injection e', hI⟩
set_option maxRecDepth 100000 in
theorem open_fds {r : Reach} {b0 : Nat} {v : Value} {d : DataW H} {p : List MemPlace} (hv : Value.okWide Try.prog w r b0 36 v) (h : DataW.Trod enc Try.prog w base spare held 36 v d p) :
    ∃ (A : Option Addr) (l : List L4.Fd) (cap : Nat), v = .slice A l.length cap ∧ IsFds w A l := by
  obtain ⟨a, len, c, rfl⟩ := okWide_slice Try.underlying36 hv
  obtain ⟨fuel, hf⟩ := h
  obtain ⟨A, l, cap, e, hI⟩ := cells_fds hf
  have e' : [Value.slice a len c] = [Value.slice A l.length cap] := e
  exact ⟨A, l, cap, by injection e', hI⟩
set_option maxRecDepth 100000 in
theorem open_recs {r : Reach} {b0 : Nat} {v : Value} {d : DataW H} {p : List MemPlace} (hv : Value.okWide Try.prog w r b0 30 v) (h : DataW.Trod enc Try.prog w base spare held 30 v d p) :
    ∃ (A : Option Addr) (l : List R) (cap : Nat), v = .slice A l.length cap ∧ IsRecs w A l := by
  obtain ⟨a, len, c, rfl⟩ := okWide_slice Try.underlying30 hv
  obtain ⟨fuel, hf⟩ := h
  obtain ⟨A, l, cap, e, hI⟩ := cells_recs hf
  have e' : [Value.slice a len c] = [Value.slice A l.length cap] := e
  exact ⟨A, l, cap, by injection e', hI⟩
end
end Go.Proofs.Ytflcggpeflagiaa.L5
