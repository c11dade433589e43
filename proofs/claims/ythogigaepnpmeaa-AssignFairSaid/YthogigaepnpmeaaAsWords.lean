/-
  What a law on who reads what has in hand behind its cut.
-/
import Derived.Test.YthogigaepnpmeaaAsCut
import Derived.Test.YthogigaepnpmeaaAsOnce
import Derived.Test.YthogigaepnpmeaaAsFixed
namespace Go.Proofs.Ythogigaepnpmeaa.L10
open Go.RowKit
open L3 L4 L9

theorem RowsO.below {α : Type} {row : α → List Value} {k : Nat} {w w' : World} {A : Option Addr} {l : List α} (h : RowsO row k w A l) (b : Below w.heap.size w w') : RowsO row k w' A l := fun h0 => by
  obtain ⟨g, o, e, hg, hc⟩ := h h0
  exact ⟨g, o, e, Nat.lt_of_lt_of_le hg b.size, fun i r hr j u hu => (b.cell (p := ⟨g, o + i * k + j, none⟩) hg).trans (hc i r hr j u hu)⟩
theorem IsAsk.below {w w' : World} {A Am : Option Addr} {l : List Pt} {ms : List Me} (h : IsAsk w A Am l ms) (b : Below w.heap.size w w') : IsAsk w' A Am l ms := by
  obtain ⟨h1, h2, h3, h4, h5, h6⟩ := h
  exact ⟨Lib.hid (h1.out.below b), h2, h3, Lib.hid (h4.out.below b), Lib.hid (fun v hv => by
    obtain ⟨a, r, s, t⟩ := h5.out v hv
    exact ⟨a, r.below b, s, t⟩), h6⟩
section
variable {w w' : World} {b B n c : Nat} {A : Option Addr}
theorem ne_box {g : Nat} {x : Option Addr} {y z : Nat} {s : ByteArray} (hb : w.cell? ⟨b, 0, none⟩ = some (.slice x y z)) (hg : w.cell? ⟨g, 0, none⟩ = some (.string s)) : g ≠ b := fun e => by rw [e, hb] at hg; cases hg
theorem IsL.but {l : List Pt} {x : Option Addr} {y z : Nat} (h : IsL w B A n c l) (hb : w.cell? ⟨b, 0, none⟩ = some (.slice x y z)) (hk : ∀ a : Addr, a.block ≠ b → w'.cell? a = w.cell? a) : IsL w' B A n c l :=
  ⟨fun h0 => by
    obtain ⟨g, e, hg, hc⟩ := h.rd h0
    have c0 := (hc 0 _ (List.getElem?_eq_getElem h0)).1
    rw [Nat.zero_mul] at c0
    have hne := ne_box hb c0
    exact ⟨g, e, hg, fun i s hs => ⟨(hk _ hne).trans (hc i s hs).1, (hk _ hne).trans (hc i s hs).2⟩⟩, h.len, h.nil, h.sz, h.n1, h.cap⟩
theorem IsM.but {l : List Mb} {x : Option Addr} {y z : Nat} (h : IsM w B A n c l) (hb : w.cell? ⟨b, 0, none⟩ = some (.slice x y z)) (hk : ∀ a : Addr, a.block ≠ b → w'.cell? a = w.cell? a) : IsM w' B A n c l :=
  ⟨fun h0 => by
    obtain ⟨g, e, hg, hc⟩ := h.rd h0
    have c0 := (hc 0 _ (List.getElem?_eq_getElem h0)).1
    rw [Nat.zero_mul] at c0
    have hne := ne_box hb c0
    refine ⟨g, e, hg, fun i s hs => ?_⟩
    obtain ⟨d0, At, ct, d1, ht⟩ := hc i s hs
    refine ⟨(hk _ hne).trans d0, At, ct, (hk _ hne).trans d1, fun h1 => ?_⟩
    obtain ⟨g', e', hg', hc'⟩ := ht h1
    have c1 := hc' 0 _ (List.getElem?_eq_getElem h1)
    exact ⟨g', e', hg', fun j u hu => (hk _ (ne_box hb c1)).trans (hc' j u hu)⟩, h.len, h.sz, h.n1, h.cap⟩
end
/-- topics and members of the law's own, in a box -/
structure AskW (W w : World) (b : Nat) (A Am : Option Addr) (n c nm cm : Nat) (l : List Pt) (ms : List Mb) : Prop where
  row : w.heap[b]? = some (.cells #[.slice A n c, .slice Am nm cm] 25 (0, 0))
  il : IsL w w.heap.size A n c l
  im : IsM w w.heap.size Am nm cm ms
  bel : Below W.heap.size W w
theorem AskW.below {W w w' : World} {b n c nm cm : Nat} {A Am : Option Addr} {l : List Pt} {ms : List Mb} (h : AskW W w b A Am n c nm cm l ms) (h1 : Below w.heap.size w w') : AskW W w' b A Am n c nm cm l ms :=
  ⟨(h1.block b (Array.getElem?_eq_some_iff.1 h.row).1).trans h.row, h.il.up (Nat.le_refl _) h1, h.im.up (Nat.le_refl _) h1, h.bel.trans (h1.mono h.bel.size)⟩
theorem ask_start {W w1 : World} {A0 B0 A Am : Option Addr} {l0 m0 c0 d0 c cm : Nat} {L : List Pt} {M : List Mb}
    (h : IsL w1 w1.heap.size A L.length c L ∧ IsM w1 w1.heap.size Am M.length cm M ∧ Below (W.alloc (.cells #[.slice A0 l0 c0, .slice B0 m0 d0] 25)).heap.size (W.alloc (.cells #[.slice A0 l0 c0, .slice B0 m0 d0] 25)) w1 ∧ w1.heap[W.heap.size]? = some (.cells #[.slice A0 l0 c0, .slice B0 m0 d0] 25 (0, 0))) :
    AskW W ((w1.setCell ⟨W.heap.size, 0, none⟩ (.slice A L.length c)).setCell ⟨W.heap.size, 1, none⟩ (.slice Am M.length cm)) W.heap.size A Am L.length c M.length cm L M := by
  obtain ⟨h1, h2, h3, h4⟩ := h
  have hx := (cell_of_row _ _ 0 _ _ _ h4).trans rfl
  have hk : ∀ a : Addr, a.block ≠ W.heap.size → ((w1.setCell ⟨W.heap.size, 0, none⟩ (.slice A L.length c)).setCell ⟨W.heap.size, 1, none⟩ (.slice Am M.length cm)).cell? a = w1.cell? a := fun a ha =>
    World.cell?_of_block ((Below.heap_setCell _ _ _ _ ha).trans (Below.heap_setCell _ _ _ _ ha))
  have hs : ((w1.setCell ⟨W.heap.size, 0, none⟩ (.slice A L.length c)).setCell ⟨W.heap.size, 1, none⟩ (.slice Am M.length cm)).heap.size = w1.heap.size := by simp [World.setCell]
  refine ⟨set2 h4, by rw [hs]; exact h1.but hx hk, by rw [hs]; exact h2.but hx hk, ?_⟩
  have hb : Below W.heap.size W w1 := (one_box' _).trans (h3.mono (by simp))
  exact hb.trans ((Only.setCell (S := [W.heap.size]) (Only.setCell (Only.refl _ w1) (.inl (by simp)) _) (.inl (by simp)) _).below hb.size (fun k hk => by rw [show k = W.heap.size by simpa using hk]; exact Nat.le_refl _))
theorem once_range {l : List Pt} {ms : List Mb} (h : chkE l ms 0) : OnceL l ms (seqT chR ms l 0).1 := ⟨(chk_ok h).1, seq_snd chR ms l 0, seq_able chR_ok ms l 0⟩
theorem once_robin {l : List Pt} {ms : List Mb} (h : chkE l ms 0) : OnceL l ms (seqT chB ms l 0).1 := ⟨(chk_ok h).1, seq_snd chB ms l 0, seq_able chB_ok ms l 0⟩
end Go.Proofs.Ythogigaepnpmeaa.L10
