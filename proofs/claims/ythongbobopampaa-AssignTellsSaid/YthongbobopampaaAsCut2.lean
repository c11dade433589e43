/-
  Contract: topics and members as a statement can hold.
-/
import Derived.Test.YthongbobopampaaAsOpen
import Derived.Test.YthongbobopampaaAsSmall
import Derived.Deep.RegionHeld
import Derived.Deep.RegionLaw
import Derived.Deep.AppendLies
import Derived.Deep.RegionHeld3
namespace Go.Proofs.Ythongbobopampaa.L10
open Go.RowKit
open L3 L4 L9

def cutS (s : ByteArray) : ByteArray := s.extract 0 (min (s.size : Int) 40).toNat
theorem cutS_size (s : ByteArray) : (cutS s).size ≤ 40 := by unfold cutS; rw [ByteArray.size_extract]; omega
def cutP (p : Pt) : Pt := ⟨cutS p.t, p.n⟩
def cutM (m : Mb) : Mb := ⟨cutS m.name, (m.ts.take 10).map cutS⟩
theorem cut10 {α β : Type} {l : List α} {M : List β} {f : α → β} {k n : Nat} (hn : l.length = n) (hk : k ≤ n) (hk70 : k ≤ 10) (h : ¬ (k < n ∧ k < 10)) (hM : (l.take 10).map f = M) : (l.take k).map f = M ∧ M.length = k := by
  subst hn
  rw [← hM]
  rcases Nat.lt_or_ge k 10 with hlt | hge
  · obtain rfl : k = l.length := by omega
    rw [List.take_length, List.take_of_length_le (by omega)]
    exact ⟨rfl, by simp⟩
  · obtain rfl : k = 10 := by omega
    exact ⟨rfl, by rw [List.length_map, List.length_take]; omega⟩
theorem take_map {α β : Type} {l : List α} {f : α → β} {k : Nat} {x : α} (h : l[k]? = some x) : (l.take (k + 1)).map f = (l.take k).map f ++ [f x] := by rw [List.take_add_one, h]; simp
theorem three (w : World) (a b c : Obj) : (((w.alloc a).alloc b).alloc c).heap[w.heap.size]? = some a ∧ (((w.alloc a).alloc b).alloc c).heap[w.heap.size + 1]? = some b ∧ (((w.alloc a).alloc b).alloc c).heap[w.heap.size + 1 + 1]? = some c ∧ Below w.heap.size w (((w.alloc a).alloc b).alloc c) := by
  have h1 := heap_alloc_new w a
  have h2 := heap_alloc_new (w.alloc a) b
  have h3 := heap_alloc_new ((w.alloc a).alloc b) c
  have s1 : (w.alloc a).heap.size = w.heap.size + 1 := by simp
  have s2 : ((w.alloc a).alloc b).heap.size = w.heap.size + 1 + 1 := by simp
  rw [s1] at h2
  rw [s2] at h3
  refine ⟨?_, ?_, h3, ?_⟩
  · rw [Below.heap_alloc _ _ _ (by rw [s2]; omega), Below.heap_alloc _ _ _ (by rw [s1]; omega)]; exact h1
  · rw [Below.heap_alloc _ _ _ (by rw [s2]; omega)]; exact h2
  · exact (two_box a b).alloc (by rw [s2]; omega) c
theorem only_grown {W w2 : World} {b n c : Nat} {A : Option Addr} {o : Obj} (h : (W.drew.alloc o).grownBy w2 (Value.slice A n c).ownBlock) : Only (b :: bk A) W w2 :=
  (((Only.refl _ W).drew).alloc o).grown h (fun k e => .inl (List.mem_cons_of_mem _ (mem_bk.2 (by rw [blk_own] at e; exact e))))
def rowT (l : List ByteArray) : List Value := l.map Value.string
def rowE (l : List Me) : List Value := l.flatMap meC
theorem rowE_app (a b : List Me) : rowE (a ++ b) = rowE a ++ rowE b := by simp [rowE]
/-- members in a row of one's own -/
def MRow (w : World) (base : Nat) (V : Value) (sl : List Me) : Prop := w.ownsRow base 40 2 V sl.length (rowE sl) ∧ ∀ s ∈ sl, w.ownsRow base 9 1 (.slice s.A s.m.ts.length s.c) s.m.ts.length (rowT s.m.ts)
theorem rowE_at : ∀ {l : List Me} {i : Nat} {d : Me}, l[i]? = some d → ∀ j : Nat, ∀ u, (meC d)[j]? = some u → (rowE l)[i * 2 + j]? = some u
  | [], i, d, h => by simp at h
  | a :: t, 0, d, h => fun j u hu => by
    simp at h; subst h
    rw [rowE, List.flatMap_cons, Nat.zero_mul, Nat.zero_add, List.getElem?_append_left (List.getElem?_eq_some_iff.1 hu).1]; exact hu
  | a :: t, i + 1, d, h => fun j u hu => by
    have ih := rowE_at (l := t) (i := i) (d := d) (by simpa using h) j u hu
    rw [rowE, List.flatMap_cons, List.getElem?_append_right (by simp [meC]; omega), ← rowE]
    rw [show (i + 1) * 2 + j - (meC a).length = i * 2 + j by simp [meC]; omega]; exact ih
theorem MRow.reads {w : World} {base n c : Nat} {A : Option Addr} {sl : List Me} (h : MRow w base (.slice A n c) sl) : ReadsM w w.heap.size A (sl.map (·.m)) := fun h0 => by
  rw [List.length_map] at h0
  rcases h.1.2 with ⟨_, q⟩ | ⟨g, cap, cur, q, h1, hh, _⟩
  · omega
  · injection q with q1; subst q1
    refine ⟨g, rfl, (Array.getElem?_eq_some_iff.1 hh).1, fun i m hm => ?_⟩
    rw [List.getElem?_map] at hm
    obtain ⟨s, hs, rfl⟩ := Option.map_eq_some_iff.1 hm
    have c0 := h.1.cells (g := g) rfl (i * 2 + 0) _ (rowE_at hs 0 _ rfl)
    have c1 := h.1.cells (g := g) rfl (i * 2 + 1) _ (rowE_at hs 1 _ rfl)
    rw [Addr.add_lit, Nat.zero_add] at c0 c1
    refine ⟨c0, s.A, s.c, c1, fun h2 => ?_⟩
    have hi := h.2 s (List.mem_of_getElem? hs)
    rcases hi.2 with ⟨_, q⟩ | ⟨g', cap', cur', q, h1', hh', _⟩
    · omega
    · injection q with q1
      refine ⟨g', q1, (Array.getElem?_eq_some_iff.1 hh').1, fun j t ht => ?_⟩
      rw [q1] at hi
      have cj := hi.cells (g := g') rfl j (.string t) (by unfold rowT; rw [List.getElem?_map, ht]; rfl)
      rwa [Addr.add_lit, Nat.zero_add] at cj
theorem MRow.len {w : World} {base : Nat} {V : Value} {sl : List Me} (h : MRow w base V sl) : ∃ A c, V = .slice A sl.length c := own_len h.1
theorem MRow.at {w w' : World} {base : Nat} {V : Value} {sl : List Me} (h : MRow w base V sl) (k : ∀ (j : Nat) cs (T : TypeId) fr, w.heap[j]? = some (.cells cs T fr) → (T = 40 ∨ T = 9) → w'.heap[j]? = some (.cells cs T fr)) : MRow w' base V sl :=
  ⟨own_at h.1 (fun b hb => by
    obtain ⟨A, c, rfl⟩ := own_len h.1
    obtain ⟨cs, _, q⟩ := own_bk h.1 b (by rw [blk_own] at hb; exact mem_bk.2 hb)
    rw [q]; exact k _ _ _ _ q (.inl rfl)), fun s hs => own_at (h.2 s hs) (fun b hb => by
    obtain ⟨cs, _, q⟩ := own_bk (h.2 s hs) b (by rw [blk_own] at hb; exact mem_bk.2 hb)
    rw [q]; exact k _ _ _ _ q (.inr rfl))⟩
theorem MRow.push {wr w5 : World} {base base' k q c2 c3 b j : Nat} {A2 A3 : Option Addr} {sl : List Me} {o : Obj} {V' v : Value} {n' : ByteArray} {ts : List ByteArray} (h : MRow wr base (.slice A2 k c2) sl) (hs : wr.ownsRow base' 9 1 (.slice A3 q c3) q (rowT ts)) (hb : base ≤ base') (hq : ts.length = q)
    (ho : w5.ownsRow base 40 2 V' (k + 1) (rowE sl ++ [.string n', .slice A3 q c3])) (hg : (wr.alloc o).grownBy w5 (Value.slice A2 k c2).ownBlock) (hlt : b < base) (hk : sl.length = k) : MRow (w5.setCell ⟨b, j, none⟩ v) base V' (sl ++ [⟨⟨n', ts⟩, A3, c3⟩]) := by
  have keep : ∀ {bs m n c : Nat} {A : Option Addr} {xs : List Value}, base ≤ bs → wr.ownsRow bs 9 1 (.slice A m c) n xs → (w5.setCell ⟨b, j, none⟩ v).ownsRow bs 9 1 (.slice A m c) n xs := fun hbs r => own_at r (fun i e => by
    have e' := mem_bk.2 (by rw [blk_own] at e; exact e)
    obtain ⟨cs, z, q⟩ := own_bk r i e'
    have hi := (Array.getElem?_eq_some_iff.1 q).1
    rw [Below.heap_setCell _ _ _ _ (fun e2 => by have e3 : i = b := e2; omega)]
    refine (hg.block i (by simp; omega) (fun e2 => ?_)).trans (Below.heap_alloc _ _ _ hi)
    obtain ⟨cs', _, q'⟩ := own_bk h.1 i (mem_bk.2 (by rw [blk_own] at e2; exact e2.symm))
    rw [q] at q'; injection q' with q'; injection q' with _ q'; exact absurd q' (by decide))
  refine ⟨?_, fun s hsm => ?_⟩
  · have e : (sl ++ [(⟨⟨n', ts⟩, A3, c3⟩ : Me)]).length = k + 1 := by simp [hk]
    have e2 : rowE (sl ++ [(⟨⟨n', ts⟩, A3, c3⟩ : Me)]) = rowE sl ++ [.string n', .slice A3 q c3] := by rw [rowE_app, ← hq]; rfl
    rw [e, e2]
    exact own_at ho (fun i e => Below.heap_setCell _ _ _ _ (fun e2 => by have h1 := (ho.lt i e).1; have e3 : i = b := e2; omega))
  · rcases List.mem_append.1 hsm with hsm | hsm
    · exact keep (Nat.le_refl _) (h.2 s hsm)
    · rw [List.mem_singleton.1 hsm]
      show World.ownsRow _ base 9 1 (.slice A3 ts.length c3) ts.length (rowT ts)
      rw [hq]
      exact own_base (keep hb hs) hb
theorem topicInfo : (Try.prog.info? 44).map (fun i => (i.zero, i.size, i.bytes)) = some (some (.agg #[.string ⟨#[]⟩, .int .i64 0]), 2, 24) := by kernel_rfl
theorem memInfo : (Try.prog.info? 40).map (fun i => (i.zero, i.size, i.bytes)) = some (some (.agg #[.string ⟨#[]⟩, .slice none 0 0]), 2, 40) := by kernel_rfl
theorem strInfo : (Try.prog.info? 9).map (fun i => (i.zero, i.size, i.bytes)) = some (some (.string ⟨#[]⟩), 1, 16) := by kernel_rfl
theorem set2 {w : World} {b : Nat} {T : TypeId} {u0 u1 v0 v1 : Value} (h : w.heap[b]? = some (.cells #[u0, u1] T (0, 0))) : ((w.setCell ⟨b, 0, none⟩ v0).setCell ⟨b, 1, none⟩ v1).heap[b]? = some (.cells #[v0, v1] T (0, 0)) := by
  have h0 := heap_setCell_same w b 0 _ _ v0 h
  exact heap_setCell_same _ b 1 _ _ v1 h0
/-- what cut leaves: it reads so in any world whose blocks from there on are the same -/
def CutP (w : World) (L : List Pt) (M : List Mb) (e : Ending) (w' : World) : Prop :=
  ∃ A c Am cm, e = .returned (.agg #[.slice A L.length c, .slice Am M.length cm]) ∧ (∀ w2 : World, (∀ k, w.heap.size ≤ k → k < w'.heap.size → w2.heap[k]? = w'.heap[k]?) → w'.heap.size ≤ w2.heap.size → IsL w2 w2.heap.size A L.length c L ∧ IsM w2 w2.heap.size Am M.length cm M) ∧ Below w.heap.size w w'

theorem cut_end {w wr : World} {B1 B2 b c c2 : Nat} {A A2 : Option Addr} {L : List Pt} {M : List Mb} {sl : List Me} {u0 u1 : Value} (ho : Hid (wr.ownsRow B1 44 2 (.slice A L.length c) L.length (rowP L))) (hm : Hid (MRow wr B2 (.slice A2 M.length c2) sl)) (hs : Hid (sl.map (·.m) = M)) (hb : Hid (Below w.heap.size w wr)) (h1 : b < B1 ∧ w.heap.size ≤ b) (h2 : b < B2)
    (hn : L.length ≤ 10 ∧ ∀ y ∈ L, y.t.size ≤ 40) (hM : M.length ≤ 10 ∧ ∀ x ∈ M, x.name.size ≤ 40 ∧ x.ts.length ≤ 10 ∧ ∀ s ∈ x.ts, s.size ≤ 40) :
    CutP w L M (.returned (.agg #[.slice A L.length c, .slice A2 M.length c2])) ((wr.setCell ⟨b, 0, none⟩ u0).setCell ⟨b, 1, none⟩ u1) := by
  obtain ⟨hn1, hn2⟩ := hn
  obtain ⟨hm1, hm2⟩ := hM
  have hblk : ∀ i, i ≠ b → ((wr.setCell ⟨b, 0, none⟩ u0).setCell ⟨b, 1, none⟩ u1).heap[i]? = wr.heap[i]? := fun i hi => (Below.heap_setCell _ _ _ _ hi).trans (Below.heap_setCell _ _ _ _ hi)
  have ho1 : ((wr.setCell ⟨b, 0, none⟩ u0).setCell ⟨b, 1, none⟩ u1).ownsRow B1 44 2 (.slice A L.length c) L.length (rowP L) := own_at ho.out (fun i e => hblk i (by have := (ho.out.lt i e).1; omega))
  have hm1' : MRow ((wr.setCell ⟨b, 0, none⟩ u0).setCell ⟨b, 1, none⟩ u1) B2 (.slice A2 M.length c2) sl := ⟨own_at hm.out.1 (fun i e => hblk i (by have := (hm.out.1.lt i e).1; omega)), fun s hs => own_at (hm.out.2 s hs) (fun i e => hblk i (by have := ((hm.out.2 s hs).lt i e).1; omega))⟩
  obtain ⟨W, hW⟩ : ∃ W, (wr.setCell ⟨b, 0, none⟩ u0).setCell ⟨b, 1, none⟩ u1 = W := ⟨_, rfl⟩
  have hbel : Below w.heap.size w W := by
    rw [← hW]
    exact hb.out.trans (Only.below (S := [b]) (((Only.refl _ wr).setCell (.inl (by simp)) _).setCell (.inl (by simp)) _) hb.out.size (fun k hk => by rw [show k = b by simpa using hk]; exact h1.2))
  rw [hW] at ho1 hm1' ⊢
  refine ⟨A, c, A2, c2, rfl, fun w2 hk2 _ => ?_, hbel⟩
  have ho' : w2.ownsRow B1 44 2 (.slice A L.length c) L.length (rowP L) := own_at ho1 (fun i e => by have := ho1.lt i e; exact hk2 i (by omega) this.2)
  have hm' : MRow w2 B2 (.slice A2 M.length c2) sl := ⟨own_at hm1'.1 (fun i e => by have := hm1'.1.lt i e; exact hk2 i (by omega) this.2), fun s hs => own_at (hm1'.2 s hs) (fun i e => by have := (hm1'.2 s hs).lt i e; exact hk2 i (by omega) this.2)⟩
  refine ⟨⟨own_reads ho' rfl (own_lt ho'), rfl, fun e => ?_, fun y hy => by have := hn2 y hy; omega, by omega, ?_⟩, ⟨?_, rfl, fun x hx => ?_, by omega, ?_⟩⟩
  · rcases ho'.2 with ⟨q, q0⟩ | ⟨g, cap, cur, q, _⟩
    · injection q with _ q1 q2; exact ⟨q0, q2⟩
    · rw [e] at q; injection q with q; cases q
  · rcases ho'.2 with ⟨q, q0⟩ | ⟨g, cap, cur, q, _, _, hc, _⟩
    · omega
    · injection q with _ _ q2; omega
  · have := hm'.reads
    rwa [hs.out] at this
  · obtain ⟨a1, a2, a3⟩ := hm2 x hx
    exact ⟨by omega, by omega, fun s hs => by have := a3 s hs; omega⟩
  · have hl : sl.length = M.length := by rw [← hs.out, List.length_map]
    rcases hm'.1.2 with ⟨_, q0⟩ | ⟨g, cap, cur, q, _, _, hc, _⟩
    · omega
    · injection q with _ _ q2; omega
theorem RowsO.below {α : Type} {row : α → List Value} {k : Nat} {w w' : World} {A : Option Addr} {l : List α} (h : RowsO row k w A l) (b : Below w.heap.size w w') : RowsO row k w' A l := fun h0 => by
  obtain ⟨g, o, e, hg, hc⟩ := h h0
  exact ⟨g, o, e, Nat.lt_of_lt_of_le hg b.size, fun i r hr j u hu => (b.cell (p := ⟨g, o + i * k + j, none⟩) hg).trans (hc i r hr j u hu)⟩
theorem IsAsk.below {w w' : World} {A Am : Option Addr} {l : List Pt} {ms : List Me} (h : IsAsk w A Am l ms) (b : Below w.heap.size w w') : IsAsk w' A Am l ms := by
  obtain ⟨h1, h2, h3, h4, h5, h6⟩ := h
  exact ⟨Lib.hid (h1.out.below b), h2, h3, Lib.hid (h4.out.below b), Lib.hid (fun v hv => by
    obtain ⟨a, r, s, t⟩ := h5.out v hv
    exact ⟨a, r.below b, s, t⟩), h6⟩
set_option maxRecDepth 100000 in
set_option maxHeartbeats 16000000 in
theorem cut_is (w : World) (A Am : Option Addr) (l : List Pt) (ms : List Me) (n c nm cm : Nat) (hI : IsAsk w A Am l ms) (hn : Hid (l.length = n)) (hm : Hid (ms.length = nm)) (L : List Pt) (M : List Mb) (HL : Hid ((l.take 10).map cutP = L)) (HM : Hid ((ms.take 10).map (fun v => cutM v.m) = M)) :
    Calls Try.prog 4 #[.agg #[.slice A n c, .slice Am nm cm]] w (CutP w L M) := by
  obtain ⟨hA, hAs, hl, hB, hBs, hml⟩ := hI
  rw [hn.out] at hl
  rw [hm.out] at hml
  unfold maxLen at hl hml
  have HL10 : Hid (L.length ≤ 10 ∧ ∀ y ∈ L, y.t.size ≤ 40) := Lib.hid (by
    rw [← HL.out]
    refine ⟨by rw [List.length_map, List.length_take]; omega, fun y hy => ?_⟩
    obtain ⟨z, _, rfl⟩ := List.mem_map.1 hy
    exact cutS_size _)
  have HM10 : Hid (M.length ≤ 10 ∧ ∀ x ∈ M, x.name.size ≤ 40 ∧ x.ts.length ≤ 10 ∧ ∀ s ∈ x.ts, s.size ≤ 40) := Lib.hid (by
    rw [← HM.out]
    refine ⟨by rw [List.length_map, List.length_take]; omega, fun y hy => ?_⟩
    obtain ⟨z, _, rfl⟩ := List.mem_map.1 hy
    refine ⟨cutS_size _, ?_, fun s hs => ?_⟩
    · show ((z.m.ts.take 10).map cutS).length ≤ 10
      rw [List.length_map, List.length_take]; omega
    · obtain ⟨u, _, rfl⟩ := List.mem_map.1 hs
      exact cutS_size _)
  go_enter Try.func4, Try.ntmps4
  obtain ⟨x0, x1, x2, xb⟩ := three w (.cells #[.slice A n c, .slice Am nm cm] 25) (.cells #[.slice none 0 0, .slice none 0 0] 25) (.cells #[.slice none 0 0, .slice none 0 0] 25)
  go_wp2_with fail
  generalize ((w.alloc (.cells #[.slice A n c, .slice Am nm cm] 25)).alloc (.cells #[.slice none 0 0, .slice none 0 0] 25)).alloc (.cells #[.slice none 0 0, .slice none 0 0] 25) = W1 at x0 x1 x2 xb ⊢
  have X0 := Lib.hid x0
  have X1 := Lib.hid x1
  have X2 := Lib.hid x2
  have XB := Lib.hid xb
  have XS : Hid (w.heap.size + 1 + 1 < W1.heap.size) := Lib.hid (Array.getElem?_eq_some_iff.1 x2).1
  obtain ⟨i0, hi0, hz0, hz1, hz2⟩ := info_parts topicInfo
  clear x0 x1 x2 xb
  go_loopw [4] (fun i wr => ∃ (k : Nat) (V : Value), k ≤ n ∧ k ≤ 10 ∧ i = .int .i64 k ∧ Hid (Only [w.heap.size + 1 + 1] W1 wr) ∧ Hid (wr.heap[w.heap.size + 1 + 1]? = some (.cells #[V, .slice none 0 0] 25 (0, 0))) ∧ Hid (wr.ownsRow W1.heap.size 44 2 V k (rowP ((l.take k).map cutP)))) (fun i _ => n - (intOf i).toNat)
  case atStart => exact ⟨0, .slice none 0 0, by omega, by omega, rfl, Lib.hid (Only.refl _ _), X2, Lib.hid (World.ownsRow_nil _ _ _ _)⟩
  case round =>
    obtain ⟨k, V, hk, hk10, rfl, HON, HBX, HOV⟩ := hrel
    have y0 := (HON.out.block w.heap.size (by have := XS.out; omega) (by simp; omega)).trans X0.out
    have x4 := (cell_of_row _ _ 0 _ _ _ y0).trans rfl
    by_cases hlt : k < n ∧ k < 10
    · obtain ⟨hlt, hlt10⟩ := hlt
      obtain ⟨g, o, rfl, hg, hcells⟩ := hA.out (by rw [hn.out]; omega)
      obtain ⟨⟨t, x⟩, hst⟩ : ∃ st, l[k]? = some st := ⟨_, List.getElem?_eq_getElem (by rw [hn.out]; exact hlt)⟩
      have hts := (hAs.out _ (List.mem_of_getElem? hst)).1
      unfold maxLen at hts
      dsimp only at hts
      have hbb : Below w.heap.size w wr := XB.out.trans (HON.out.below XB.out.size (fun j hj => by have : j = w.heap.size + 1 + 1 := (by simpa using hj); omega))
      have d0 := (hbb.cell (p := ⟨g, o + k * 2, none⟩) hg).trans (hcells k _ hst 0 _ rfl)
      have d1 := (hbb.cell (p := ⟨g, o + k * 2 + 1, none⟩) hg).trans (hcells k _ hst 1 _ rfl)
      have v4 := (cell_of_row _ _ 0 _ _ _ HBX.out).trans rfl
      obtain ⟨t', ht'⟩ : ∃ s', t.extract 0 (min (t.size : Int) 40).toNat = s' := ⟨_, rfl⟩
      have HNX : Hid (rowP ((l.take (k + 1)).map cutP) = rowP ((l.take k).map cutP) ++ [.string t', .int .i64 x]) := Lib.hid (by
        rw [take_map hst, rowP_app, ← ht']; rfl)
      obtain ⟨A', c', rfl⟩ := own_len HOV.out
      have HO := HOV
      have hsz := (Array.getElem?_eq_some_iff.1 HBX.out).1
      have hT : ∀ w', Only ((w.heap.size + 1 + 1) :: bk A') wr w' → (w'.cell? ⟨w.heap.size, 0, none⟩ = some (.slice (some ⟨g, o, none⟩) n c) ∧ w'.cell? ⟨g, o + k * 2, none⟩ = some (.string t) ∧ w'.cell? ⟨g, o + k * 2 + 1, none⟩ = some (.int .i64 x)) ∧ Only ((w.heap.size + 1 + 1) :: bk A') wr w' := fun w' q => by
        have hno : ∀ b, b ≤ w.heap.size → b ∉ (w.heap.size + 1 + 1) :: bk A' := fun b hb e => by
          rcases List.mem_cons.1 e with e | e
          · omega
          · obtain ⟨_, z, _⟩ := own_bk HO.out b e
            have := XS.out; omega
        exact ⟨⟨q.cell x4 (hno _ (Nat.le_refl _)), q.cell d0 (hno _ (Nat.le_of_lt hg)), q.cell d1 (hno _ (Nat.le_of_lt hg))⟩, q⟩
      have HT := Lib.hid hT
      have HGR : Hid (∀ (o' : Obj) (w2 : World), (wr.drew.alloc o').grownBy w2 (Value.slice A' k c').ownBlock → w2.heap[w.heap.size + 1 + 1]? = some (.cells #[.slice A' k c', .slice none 0 0] 25 (0, 0))) := Lib.hid (fun o' w2 hgrow =>
        (hgrow.block _ (by simp; omega) (fun e => by obtain ⟨_, z, _⟩ := own_bk HO.out _ (mem_bk.2 (by rw [blk_own] at e; exact e.symm)); have := XS.out; omega)).trans ((Below.heap_alloc _ _ _ hsz).trans HBX.out))
      have HBL : Hid (W1.heap.size ≤ wr.heap.size) := Lib.hid HON.out.size
      have k0 : (0 : Int) ≤ (k : Int) := by omega
      have k1 : (k : Int) < (n : Int) := by omega
      have k2 : (k : Int) < 10 := by omega
      have m0 : 0 ≤ min (t.size : Int) 40 := by omega
      have m1 : min (t.size : Int) 40 ≤ (t.size : Int) := by omega
      clear hst hcells hT hbb y0
      go_wp2_with fail
      refine wp_region_held_drew (S := fun w' => (w'.cell? ⟨w.heap.size, 0, none⟩ = some (.slice (some ⟨g, o, none⟩) n c) ∧ w'.cell? ⟨g, o + k * 2, none⟩ = some (.string t) ∧ w'.cell? ⟨g, o + k * 2 + 1, none⟩ = some (.int .i64 x)) ∧ Only ((w.heap.size + 1 + 1) :: bk A') wr w') (by kernel_rfl) (HT.out _ (Only.refl _ _).drew) (fun hHeld => ?_)
      refine wpAnyH_take (i := 0) (oi := ?o1) (v := ?v1) ?a1 (by kernel_rfl) (by kernel_rfl) (by kernel_rfl) ?q1 (Or.inl ⟨?g1, ?y1⟩) (by assumption) ?r1; (case' a1 => (simp only [List.getElem?_toArray, List.getElem?_cons_zero]; rfl)); (case' q1 => (exact fun _ _ _ h => h)); (case' g1 => rfl); (case' y1 => (intro w hSw; (try dsimp only at hSw); go_simp; try with_reducible rfl)); (case' r1 => (try simp only [Act.put, List.setIfInBounds_toArray, List.set_cons_zero, List.set_cons_succ]))
      refine wpAnyH_take (i := 2) (oi := ?o2) (v := ?v2) ?a2 (by kernel_rfl) (by kernel_rfl) (by kernel_rfl) ?q2 (Or.inl ⟨?g2, ?y2⟩) (by assumption) ?r2; (case' a2 => (simp only [List.getElem?_toArray, List.getElem?_cons_zero, List.getElem?_cons_succ]; rfl)); (case' q2 => (exact fun _ _ _ h => h)); (case' g2 => rfl); (case' y2 => (intro w hSw; (try dsimp only at hSw); go_simp; try with_reducible rfl)); (case' r2 => (try simp only [Act.put, List.setIfInBounds_toArray, List.set_cons_zero, List.set_cons_succ]))
      refine wpAnyH_take (i := 3) (oi := ?o3) (v := ?v3) ?a3 (by kernel_rfl) (by kernel_rfl) (by kernel_rfl) ?q3 (Or.inl ⟨?g3, ?y3⟩) (by assumption) ?r3; (case' a3 => (simp only [List.getElem?_toArray, List.getElem?_cons_zero, List.getElem?_cons_succ]; rfl)); (case' q3 => (exact fun _ _ _ h => h)); (case' g3 => rfl); (case' y3 => (intro w hSw; (try dsimp only at hSw); go_simp; try with_reducible rfl)); (case' r3 => (try simp only [Act.put, List.setIfInBounds_toArray, List.set_cons_zero, List.set_cons_succ]))
      refine wpAnyH_take (i := 4) (oi := ?o4) (v := ?v4) ?a4 (by kernel_rfl) (by kernel_rfl) (by kernel_rfl) ?q4 (Or.inl ⟨?g4, ?y4⟩) (by assumption) ?r4; (case' a4 => (simp only [List.getElem?_toArray, List.getElem?_cons_zero, List.getElem?_cons_succ]; rfl)); (case' q4 => (exact fun _ _ _ h => h)); (case' g4 => rfl); (case' y4 => (intro w hSw; (try dsimp only at hSw); go_simp; try with_reducible rfl)); (case' r4 => (try simp only [Act.put, List.setIfInBounds_toArray, List.set_cons_zero, List.set_cons_succ]))
      refine wpAnyH_take (i := 5) (oi := ?o5) (v := ?v5) ?a5 (by kernel_rfl) (by kernel_rfl) (by kernel_rfl) ?q5 (Or.inl ⟨?g5, ?y5⟩) (by assumption) ?r5; (case' a5 => (simp only [List.getElem?_toArray, List.getElem?_cons_zero, List.getElem?_cons_succ]; rfl)); (case' q5 => (exact fun _ _ _ h => h)); (case' g5 => rfl); (case' y5 => (intro w hSw; (try dsimp only at hSw); go_simp; try with_reducible rfl)); (case' r5 => (try simp only [Act.put, List.setIfInBounds_toArray, List.set_cons_zero, List.set_cons_succ]))
      refine wpAnyH_take (i := 6) (oi := ?o6) (v := ?v6) ?a6 (by kernel_rfl) (by kernel_rfl) (by kernel_rfl) ?q6 (Or.inl ⟨?g6, ?y6⟩) (by assumption) ?r6; (case' a6 => (simp only [List.getElem?_toArray, List.getElem?_cons_zero, List.getElem?_cons_succ]; rfl)); (case' q6 => (exact fun _ _ _ h => h)); (case' g6 => rfl); (case' y6 => (intro w hSw; (try dsimp only at hSw); go_simp; try with_reducible rfl)); (case' r6 => (try simp only [Act.put, List.setIfInBounds_toArray, List.set_cons_zero, List.set_cons_succ]))
      refine wpAnyH_take (i := 7) (oi := ?o7) (v := ?v7) ?a7 (by kernel_rfl) (by kernel_rfl) (by kernel_rfl) ?q7 (Or.inl ⟨?g7, ?y7⟩) (by assumption) ?r7; (case' a7 => (simp only [List.getElem?_toArray, List.getElem?_cons_zero, List.getElem?_cons_succ]; rfl)); (case' q7 => (exact fun _ _ _ h => h)); (case' g7 => rfl); (case' y7 => (intro w hSw; (try dsimp only at hSw); go_simp; try with_reducible rfl)); (case' r7 => (try simp only [Act.put, List.setIfInBounds_toArray, List.set_cons_zero, List.set_cons_succ]))
      refine wpAnyH_take (i := 8) (oi := ?o8) (v := ?v8) ?a8 (by kernel_rfl) (by kernel_rfl) (by kernel_rfl) ?q8 (Or.inl ⟨?g8, ?y8⟩) (by assumption) ?r8; (case' a8 => (simp only [List.getElem?_toArray, List.getElem?_cons_zero, List.getElem?_cons_succ]; rfl)); (case' q8 => (exact fun _ _ _ h => h)); (case' g8 => rfl); (case' y8 => (intro w hSw; (try dsimp only at hSw); go_simp; try with_reducible rfl)); (case' r8 => (try simp only [Act.put, List.setIfInBounds_toArray, List.set_cons_zero, List.set_cons_succ]))
      refine wpAnyH_take (i := 9) (oi := ?o9) (v := ?v9) ?a9 (by kernel_rfl) (by kernel_rfl) (by kernel_rfl) ?q9 (Or.inl ⟨?g9, ?y9⟩) (by assumption) ?r9; (case' a9 => (simp only [List.getElem?_toArray, List.getElem?_cons_zero, List.getElem?_cons_succ]; rfl)); (case' q9 => (exact fun _ _ _ h => h)); (case' g9 => rfl); (case' y9 => (intro w hSw; (try dsimp only at hSw); go_simp; try with_reducible rfl)); (case' r9 => (try simp only [Act.put, List.setIfInBounds_toArray, List.set_cons_zero, List.set_cons_succ]))
      refine wpAnyH_take (i := 10) (oi := ?o10) (v := ?v10) ?a10 (by kernel_rfl) (by kernel_rfl) (by kernel_rfl) ?q10 (Or.inl ⟨?g10, ?y10⟩) (by assumption) ?r10; (case' a10 => (simp only [List.getElem?_toArray, List.getElem?_cons_zero, List.getElem?_cons_succ]; rfl)); (case' q10 => (exact fun _ _ _ h => h)); (case' g10 => rfl); (case' y10 => (intro w hSw; (try dsimp only at hSw); go_simp; try with_reducible rfl)); (case' r10 => (try simp only [Act.put, List.setIfInBounds_toArray, List.set_cons_zero, List.set_cons_succ]))
      refine wpAnyH_take (i := 11) (oi := ?o11) (v := ?v11) ?a11 (by kernel_rfl) (by kernel_rfl) (by kernel_rfl) ?q11 (Or.inl ⟨?g11, ?y11⟩) (by assumption) ?r11; (case' a11 => (simp only [List.getElem?_toArray, List.getElem?_cons_zero, List.getElem?_cons_succ]; rfl)); (case' q11 => (exact fun _ _ _ h => h)); (case' g11 => rfl); (case' y11 => (intro w hSw; (try dsimp only at hSw); go_simp; try with_reducible rfl)); (case' r11 => (try simp only [Act.put, List.setIfInBounds_toArray, List.set_cons_zero, List.set_cons_succ]))
      refine wpAnyH_take (i := 12) (oi := ?o12) (v := ?v12) ?a12 (by kernel_rfl) (by kernel_rfl) (by kernel_rfl) ?q12 (Or.inl ⟨?g12, ?y12⟩) (by assumption) ?r12; (case' a12 => (simp only [List.getElem?_toArray, List.getElem?_cons_zero, List.getElem?_cons_succ]; rfl)); (case' q12 => (exact fun _ _ _ h => h)); (case' g12 => rfl); (case' y12 => (intro w hSw; (try dsimp only at hSw); go_simp; try with_reducible rfl)); (case' r12 => (try simp only [Act.put, List.setIfInBounds_toArray, List.set_cons_zero, List.set_cons_succ]))
      refine wpAnyH_take (i := 13) (oi := ?o13) (v := ?v13) ?a13 (by kernel_rfl) (by kernel_rfl) (by kernel_rfl) ?q13 (Or.inl ⟨?g13, ?y13⟩) (by assumption) ?r13; (case' a13 => (simp only [List.getElem?_toArray, List.getElem?_cons_zero, List.getElem?_cons_succ]; rfl)); (case' q13 => (exact fun _ _ _ h => h)); (case' g13 => rfl); (case' y13 => (intro w hSw; (try dsimp only at hSw); go_simp; try with_reducible rfl)); (case' r13 => (try simp only [Act.put, List.setIfInBounds_toArray, List.set_cons_zero, List.set_cons_succ]))
      refine wpAnyH_take (i := 14) (oi := ?o14) (v := ?v14) ?a14 (by kernel_rfl) (by kernel_rfl) (by kernel_rfl) ?q14 (Or.inl ⟨?g14, ?y14⟩) (by assumption) ?r14; (case' a14 => (simp only [List.getElem?_toArray, List.getElem?_cons_zero, List.getElem?_cons_succ]; rfl)); (case' q14 => (exact fun _ _ _ h => h)); (case' g14 => rfl); (case' y14 => (intro w hSw; (try dsimp only at hSw); go_simp; try with_reducible rfl)); (case' r14 => (try simp only [Act.put, List.setIfInBounds_toArray, List.set_cons_zero, List.set_cons_succ]))
      refine wpAnyH_take (i := 15) (oi := ?o15) (v := ?v15) ?a15 (by kernel_rfl) (by kernel_rfl) (by kernel_rfl) ?q15 (Or.inl ⟨?g15, ?y15⟩) (by assumption) ?r15; (case' a15 => (simp only [List.getElem?_toArray, List.getElem?_cons_zero, List.getElem?_cons_succ]; rfl)); (case' q15 => (exact fun _ _ _ h => h)); (case' g15 => rfl); (case' y15 => (intro w hSw; (try dsimp only at hSw); go_simp; try with_reducible rfl)); (case' r15 => (try simp only [Act.put, List.setIfInBounds_toArray, List.set_cons_zero, List.set_cons_succ]))
      refine wpAnyH_take (i := 16) (oi := ?o16) (v := ?v16) ?a16 (by kernel_rfl) (by kernel_rfl) (by kernel_rfl) ?q16 (Or.inl ⟨?g16, ?y16⟩) (by assumption) ?r16; (case' a16 => (simp only [List.getElem?_toArray, List.getElem?_cons_zero, List.getElem?_cons_succ]; rfl)); (case' q16 => (exact fun _ _ _ h => h)); (case' g16 => rfl); (case' y16 => (intro w hSw; (try dsimp only at hSw); go_simp; try with_reducible rfl)); (case' r16 => (try simp only [Act.put, List.setIfInBounds_toArray, List.set_cons_zero, List.set_cons_succ]))
      refine wpAnyH_take (i := 17) (oi := ?o17) (v := ?v17) ?a17 (by kernel_rfl) (by kernel_rfl) (by kernel_rfl) ?q17 (Or.inl ⟨?g17, ?y17⟩) (by assumption) ?r17; (case' a17 => (simp only [List.getElem?_toArray, List.getElem?_cons_zero, List.getElem?_cons_succ]; rfl)); (case' q17 => (exact fun _ _ _ h => h)); (case' g17 => rfl); (case' y17 => (intro w hSw; (try dsimp only at hSw); go_simp; try with_reducible rfl)); (case' r17 => (try simp only [Act.put, List.setIfInBounds_toArray, List.set_cons_zero, List.set_cons_succ]))
      refine wpAnyH_take (i := 18) (oi := ?o18) (v := ?v18) ?a18 (by kernel_rfl) (by kernel_rfl) (by kernel_rfl) ?q18 (Or.inl ⟨?g18, ?y18⟩) (by assumption) ?r18; (case' a18 => (simp only [List.getElem?_toArray, List.getElem?_cons_zero, List.getElem?_cons_succ]; rfl)); (case' q18 => (exact fun _ _ _ h => h)); (case' g18 => rfl); (case' y18 => (intro w hSw; (try dsimp only at hSw); go_simp; try with_reducible rfl)); (case' r18 => (try simp only [Act.put, List.setIfInBounds_toArray, List.set_cons_zero, List.set_cons_succ]))
      refine wpAnyH_take (i := 19) (oi := ?o19) (v := ?v19) ?a19 (by kernel_rfl) (by kernel_rfl) (by kernel_rfl) ?q19 (Or.inl ⟨?g19, ?y19⟩) (by assumption) ?r19; (case' a19 => (simp only [List.getElem?_toArray, List.getElem?_cons_zero, List.getElem?_cons_succ]; rfl)); (case' q19 => (exact fun _ _ _ h => h)); (case' g19 => rfl); (case' y19 => (intro w hSw; (try dsimp only at hSw); go_simp; try with_reducible rfl)); (case' r19 => (try simp only [Act.put, List.setIfInBounds_toArray, List.set_cons_zero, List.set_cons_succ]))
      refine wpAnyH_take (i := 20) (oi := ?o20) (v := ?v20) ?a20 (by kernel_rfl) (by kernel_rfl) (by kernel_rfl) ?q20 (Or.inl ⟨?g20, ?y20⟩) (by assumption) ?r20; (case' a20 => (simp only [List.getElem?_toArray, List.getElem?_cons_zero, List.getElem?_cons_succ]; rfl)); (case' q20 => (exact fun _ _ _ h => h)); (case' g20 => rfl); (case' y20 => (intro w hSw; (try dsimp only at hSw); go_simp; try with_reducible rfl)); (case' r20 => (try simp only [Act.put, List.setIfInBounds_toArray, List.set_cons_zero, List.set_cons_succ]))
      refine wpAnyH_take (i := 21) (oi := ?o21) (v := ?v21) ?a21 (by kernel_rfl) (by kernel_rfl) (by kernel_rfl) ?q21 (Or.inl ⟨?g21, ?y21⟩) (by assumption) ?r21; (case' a21 => (simp only [List.getElem?_toArray, List.getElem?_cons_zero, List.getElem?_cons_succ]; rfl)); (case' q21 => (exact fun _ _ _ h => h)); (case' g21 => rfl); (case' y21 => (intro w hSw; (try dsimp only at hSw); go_simp; try with_reducible rfl)); (case' r21 => (try simp only [Act.put, List.setIfInBounds_toArray, List.set_cons_zero, List.set_cons_succ]))
      refine wpAnyH_take (i := 22) (oi := ?o22) (v := ?v22) ?a22 (by kernel_rfl) (by kernel_rfl) (by kernel_rfl) ?q22 (Or.inl ⟨?g22, ?y22⟩) (by assumption) ?r22; (case' a22 => (simp only [List.getElem?_toArray, List.getElem?_cons_zero, List.getElem?_cons_succ]; rfl)); (case' q22 => (exact fun _ _ _ h => h)); (case' g22 => rfl); (case' y22 => (intro w hSw; (try dsimp only at hSw); go_simp; try with_reducible rfl)); (case' r22 => (try simp only [Act.put, List.setIfInBounds_toArray, List.set_cons_zero, List.set_cons_succ]))
      refine wpAnyH_take (i := 23) (oi := ?o23) (v := ?v23) ?a23 (by kernel_rfl) (by kernel_rfl) (by kernel_rfl) ?q23 (Or.inl ⟨?g23, ?y23⟩) (by assumption) ?r23; (case' a23 => (simp only [List.getElem?_toArray, List.getElem?_cons_zero, List.getElem?_cons_succ]; rfl)); (case' q23 => (exact fun _ _ _ h => h)); (case' g23 => rfl); (case' y23 => (intro w hSw; (try dsimp only at hSw); go_simp; try with_reducible rfl)); (case' r23 => (try simp only [Act.put, List.setIfInBounds_toArray, List.set_cons_zero, List.set_cons_succ]))
      refine wpAnyH_ready (rs := [1, 24]) (by kernel_rfl) (by simp) ?_
      refine AllReadyH.cons (o := ?o24) ?a24 (fun K hK => ?s24) ?m24; (case' a24 => (simp only [List.getElem?_toArray, List.getElem?_cons_zero, List.getElem?_cons_succ]; rfl))
      case s24 =>
        go_simp
        refine hK.out _ _ (hHeld) (fun hHeld => ?_)
        clear hK K
        (try simp only [Act.put, List.setIfInBounds_toArray, List.set_cons_zero, List.set_cons_succ])
        refine wpAnyH_ready (rs := [24]) (by kernel_rfl) (by simp) ?_
        refine AllReadyH.cons (o := ?o25) ?a25 (fun K hK => ?s25) ?m25; (case' a25 => (simp only [List.getElem?_toArray, List.getElem?_cons_zero, List.getElem?_cons_succ]; rfl))
        case s25 =>
          go_simp
          refine hK.out _ _ (HT.out _ (hHeld.2.alloc _)) (fun hHeld => ?_)
          clear hK K
          (try simp only [Act.put, List.setIfInBounds_toArray, List.set_cons_zero, List.set_cons_succ])
          refine wpAnyH_ready (rs := [25]) (by kernel_rfl) (by simp) ?_
          refine AllReadyH.cons (o := ?o26) ?a26 (fun K hK => ?s26) ?m26; (case' a26 => (simp only [List.getElem?_toArray, List.getElem?_cons_zero, List.getElem?_cons_succ]; rfl))
          case s26 =>
            refine step_append_lies _ (by rfl) _ _ _ (by rfl) W1.heap.size 44 i0 _ 2 24 Try.underlying22 hi0 hz0 hz1 hz2 rfl (by omega) (.slice A' k c') k (rowP ((l.take k).map cutP)) (by rfl) ((own_below HO.out (Below.refl _ _).drew).alloc _) ⟨wr.heap.size, 0, none⟩ 1 1 [.string t', .int .i64 x] (by rfl) (by rfl) (World.news_of_block (cs := #[.string t', .int .i64 x]) (t := 44) (fr := (0, 0)) (heap_alloc_new wr.drew _)) (by simp [Value.oneCell']) (by omega) (by unfold maxLen; omega) (by omega) (by have := HBL.out; simp; omega) (wr.heap.size + 1) (by simp) ?_
            intro gg cc w2 hown2 hgrow hat hltg
            have hrow := HGR.out _ _ hgrow
            have x2 := (cell_of_row _ _ 0 _ _ _ hrow).trans rfl
            have y2 := frozen_of_row _ _ 0 _ _ hrow
            have HROW := Lib.hid hrow
            clear hrow
            refine hK.out _ _ (HT.out _ (only_grown hgrow)) (fun hHeld => ?_)
            clear hK K
            (try simp only [Act.put, List.setIfInBounds_toArray, List.set_cons_zero, List.set_cons_succ])
            refine wpAnyH_take (i := 26) (oi := ?o27) (v := ?v27) ?a27 (by kernel_rfl) (by kernel_rfl) (by kernel_rfl) ?q27 (Or.inl ⟨?g27, ?y27⟩) (by assumption) ?r27; (case' a27 => (simp only [List.getElem?_toArray, List.getElem?_cons_zero, List.getElem?_cons_succ]; rfl)); (case' q27 => (exact fun _ _ _ h => h)); (case' g27 => rfl); (case' y27 => (intro w hSw; (try dsimp only at hSw); go_simp; try with_reducible rfl)); (case' r27 => (try simp only [Act.put, List.setIfInBounds_toArray, List.set_cons_zero, List.set_cons_succ]))
            refine wpAnyH_ready (rs := [27]) (by kernel_rfl) (by simp) ?_
            refine AllReadyH.cons (o := ?o28) ?a28 (fun K hK => ?s28) ?m28; (case' a28 => (simp only [List.getElem?_toArray, List.getElem?_cons_zero, List.getElem?_cons_succ]; rfl))
            case s28 =>
              go_simp
              refine hK.out _ _ (HT.out _ (hHeld.2.setCell (.inl (by simp)) _)) (fun hHeld => ?_)
              clear hK K
              (try simp only [Act.put, List.setIfInBounds_toArray, List.set_cons_zero, List.set_cons_succ])
              refine wpAnyH_done (by kernel_rfl) ?_ _
              have HH := Lib.hid hHeld.2
              clear hHeld
              go_wp2_with fail
              go_roundw
              case rel =>
                refine ⟨k + 1, _, by omega, by omega, by go_num, Lib.hid ?_, Lib.hid (heap_setCell_same _ _ 0 _ _ _ HROW.out), Lib.hid ?_⟩
                · exact HON.out.trans HH.out (fun j hj => by
                    rcases List.mem_cons.1 hj with e | e
                    · exact .inl (by simp [e])
                    · exact .inr (by obtain ⟨_, z, _⟩ := own_bk HO.out j e; exact z))
                · rw [HNX.out]; exact own_at hown2 (fun j e => Below.heap_setCell _ _ _ _ (fun e' => by have h1 := (hown2.lt j e).1; have h2 := XS.out; have e2 : j = w.heap.size + 1 + 1 := e'; omega))
              case measure => simp [intOf]; omega
            exact AllReadyH.nil
          exact AllReadyH.nil
        exact AllReadyH.nil
      refine AllReadyH.cons (o := ?o29) ?a29 (fun K hK => ?s29) ?m29; (case' a29 => (simp only [List.getElem?_toArray, List.getElem?_cons_zero, List.getElem?_cons_succ]; rfl))
      case s29 =>
        go_simp
        refine hK.out _ _ (HT.out _ (hHeld.2.alloc _)) (fun hHeld => ?_)
        clear hK K
        (try simp only [Act.put, List.setIfInBounds_toArray, List.set_cons_zero, List.set_cons_succ])
        refine wpAnyH_ready (rs := [1]) (by kernel_rfl) (by simp) ?_
        refine AllReadyH.cons (o := ?o30) ?a30 (fun K hK => ?s30) ?m30; (case' a30 => (simp only [List.getElem?_toArray, List.getElem?_cons_zero, List.getElem?_cons_succ]; rfl))
        case s30 =>
          go_simp
          refine hK.out _ _ (hHeld) (fun hHeld => ?_)
          clear hK K
          (try simp only [Act.put, List.setIfInBounds_toArray, List.set_cons_zero, List.set_cons_succ])
          refine wpAnyH_ready (rs := [25]) (by kernel_rfl) (by simp) ?_
          refine AllReadyH.cons (o := ?o31) ?a31 (fun K hK => ?s31) ?m31; (case' a31 => (simp only [List.getElem?_toArray, List.getElem?_cons_zero, List.getElem?_cons_succ]; rfl))
          case s31 =>
            refine step_append_lies _ (by rfl) _ _ _ (by rfl) W1.heap.size 44 i0 _ 2 24 Try.underlying22 hi0 hz0 hz1 hz2 rfl (by omega) (.slice A' k c') k (rowP ((l.take k).map cutP)) (by rfl) ((own_below HO.out (Below.refl _ _).drew).alloc _) ⟨wr.heap.size, 0, none⟩ 1 1 [.string t', .int .i64 x] (by rfl) (by rfl) (World.news_of_block (cs := #[.string t', .int .i64 x]) (t := 44) (fr := (0, 0)) (heap_alloc_new wr.drew _)) (by simp [Value.oneCell']) (by omega) (by unfold maxLen; omega) (by omega) (by have := HBL.out; simp; omega) (wr.heap.size + 1) (by simp) ?_
            intro gg cc w2 hown2 hgrow hat hltg
            have hrow := HGR.out _ _ hgrow
            have x2 := (cell_of_row _ _ 0 _ _ _ hrow).trans rfl
            have y2 := frozen_of_row _ _ 0 _ _ hrow
            have HROW := Lib.hid hrow
            clear hrow
            refine hK.out _ _ (HT.out _ (only_grown hgrow)) (fun hHeld => ?_)
            clear hK K
            (try simp only [Act.put, List.setIfInBounds_toArray, List.set_cons_zero, List.set_cons_succ])
            refine wpAnyH_take (i := 26) (oi := ?o32) (v := ?v32) ?a32 (by kernel_rfl) (by kernel_rfl) (by kernel_rfl) ?q32 (Or.inl ⟨?g32, ?y32⟩) (by assumption) ?r32; (case' a32 => (simp only [List.getElem?_toArray, List.getElem?_cons_zero, List.getElem?_cons_succ]; rfl)); (case' q32 => (exact fun _ _ _ h => h)); (case' g32 => rfl); (case' y32 => (intro w hSw; (try dsimp only at hSw); go_simp; try with_reducible rfl)); (case' r32 => (try simp only [Act.put, List.setIfInBounds_toArray, List.set_cons_zero, List.set_cons_succ]))
            refine wpAnyH_ready (rs := [27]) (by kernel_rfl) (by simp) ?_
            refine AllReadyH.cons (o := ?o33) ?a33 (fun K hK => ?s33) ?m33; (case' a33 => (simp only [List.getElem?_toArray, List.getElem?_cons_zero, List.getElem?_cons_succ]; rfl))
            case s33 =>
              go_simp
              refine hK.out _ _ (HT.out _ (hHeld.2.setCell (.inl (by simp)) _)) (fun hHeld => ?_)
              clear hK K
              (try simp only [Act.put, List.setIfInBounds_toArray, List.set_cons_zero, List.set_cons_succ])
              refine wpAnyH_done (by kernel_rfl) ?_ _
              have HH := Lib.hid hHeld.2
              clear hHeld
              go_wp2_with fail
              go_roundw
              case rel =>
                refine ⟨k + 1, _, by omega, by omega, by go_num, Lib.hid ?_, Lib.hid (heap_setCell_same _ _ 0 _ _ _ HROW.out), Lib.hid ?_⟩
                · exact HON.out.trans HH.out (fun j hj => by
                    rcases List.mem_cons.1 hj with e | e
                    · exact .inl (by simp [e])
                    · exact .inr (by obtain ⟨_, z, _⟩ := own_bk HO.out j e; exact z))
                · rw [HNX.out]; exact own_at hown2 (fun j e => Below.heap_setCell _ _ _ _ (fun e' => by have h1 := (hown2.lt j e).1; have h2 := XS.out; have e2 : j = w.heap.size + 1 + 1 := e'; omega))
              case measure => simp [intOf]; omega
            exact AllReadyH.nil
          exact AllReadyH.nil
        exact AllReadyH.nil
      exact AllReadyH.nil
    · obtain ⟨hm1, hm2⟩ := cut10 hn.out hk hk10 hlt HL.out
      subst hm2
      have hov := HOV.out
      rw [hm1] at hov
      obtain ⟨A', c', rfl⟩ := own_len hov
      have HOV' := Lib.hid hov
      have hd : n ≤ L.length ∨ (L.length < n ∧ 10 ≤ L.length) := by omega
      have X0' := Lib.hid y0
      have x5 := (cell_of_row _ _ 1 _ _ _ y0).trans rfl
      have X1' : Hid (wr.heap[w.heap.size + 1]? = _) := Lib.hid ((HON.out.block (w.heap.size + 1) (by have := XS.out; omega) (by simp)).trans X1.out)
      have XB' : Hid (Below w.heap.size w wr) := Lib.hid (XB.out.trans (HON.out.below XB.out.size (fun j hj => by have : j = w.heap.size + 1 + 1 := (by simpa using hj); omega)))
      have XS' : Hid (w.heap.size + 1 + 1 < wr.heap.size) := Lib.hid (Array.getElem?_eq_some_iff.1 HBX.out).1
      have HBX' := HBX
      have HLW : Hid (w.heap.size ≤ W1.heap.size) := Lib.hid (by have := XS.out; omega)
      clear y0 hov HON HOV HBX hk hk10 hlt hm1 hi0 hz0 hz1 hz2 X0 X1 X2 XB HL
      rcases hd with hd | ⟨hd1, hd2⟩
      · go_wp2_with fail
        clear x4 x5
        obtain ⟨W2, hW2⟩ : ∃ W2 : World, W2 = wr := ⟨_, rfl⟩
        subst hW2
        obtain ⟨i0, hi0, hz0, hz1, hz2⟩ := info_parts memInfo
        go_loopw [5] (fun i wr => ∃ (k : Nat) (V : Value) (sl : List Me), k ≤ nm ∧ k ≤ 10 ∧ i = .int .i64 k ∧ sl.length = k ∧ Hid (sl.map (·.m) = (ms.take k).map (fun v => cutM v.m)) ∧ Hid (Only [w.heap.size + 1 + 1] W2 wr) ∧ Hid (wr.heap[w.heap.size + 1 + 1]? = some (.cells #[.slice A' L.length c', V] 25 (0, 0))) ∧ Hid (MRow wr W2.heap.size V sl)) (fun i _ => nm - (intOf i).toNat)
        case atStart => exact ⟨0, .slice none 0 0, [], by omega, by omega, rfl, rfl, Lib.hid rfl, Lib.hid (Only.refl _ _), HBX', Lib.hid ⟨World.ownsRow_nil _ _ _ _, fun s hs => by cases hs⟩⟩
        case round =>
          obtain ⟨k, V, sl, hk, hk10, rfl, hsl, HSL, HON, HBX, HMR⟩ := hrel
          have y0 := (HON.out.block w.heap.size (by have := XS'.out; omega) (by simp; omega)).trans X0'.out
          have x5 := (cell_of_row _ _ 1 _ _ _ y0).trans rfl
          have hbb : Below w.heap.size w wr := XB'.out.trans (HON.out.below XB'.out.size (fun j hj => by
            have : j = w.heap.size + 1 + 1 := by simpa using hj
            omega))
          have hsz := (Array.getElem?_eq_some_iff.1 HBX.out).1
          by_cases hlt : k < nm ∧ k < 10
          · obtain ⟨hlt, hlt10⟩ := hlt
            obtain ⟨g, o, rfl, hg, hcells⟩ := hB.out (by rw [hm.out]; omega)
            obtain ⟨⟨⟨nk, ts⟩, At, ct⟩, hst⟩ : ∃ st, ms[k]? = some st := ⟨_, List.getElem?_eq_getElem (by rw [hm.out]; exact hlt)⟩
            obtain ⟨hnk, hro, hts, htl⟩ := hBs.out _ (List.mem_of_getElem? hst)
            unfold maxLen at hnk htl
            dsimp only at hnk hro hts htl
            have d0 := (hbb.cell (p := ⟨g, o + k * 2, none⟩) hg).trans (hcells k _ hst 0 _ rfl)
            have d1 := (hbb.cell (p := ⟨g, o + k * 2 + 1, none⟩) hg).trans (hcells k _ hst 1 _ rfl)
            obtain ⟨tn, htn⟩ : ∃ tn, ts.length = tn := ⟨_, rfl⟩
            dsimp only at d1
            rw [htn] at d1 htl
            have D1 := Lib.hid d1
            have HTN := Lib.hid htn
            have HRO := Lib.hid hro
            have HTS := Lib.hid hts
            obtain ⟨n', hn'⟩ : ∃ s', nk.extract 0 (min (nk.size : Int) 40).toNat = s' := ⟨_, rfl⟩
            have HNX : Hid ((ms.take (k + 1)).map (fun v => cutM v.m) = (ms.take k).map (fun v => cutM v.m) ++ [⟨n', (ts.take 10).map cutS⟩]) := Lib.hid (by rw [take_map hst, ← hn']; rfl)
            have HBB := Lib.hid hbb
            have HSZ := Lib.hid hsz
            have Y0 := Lib.hid y0
            have k0 : (0 : Int) ≤ (k : Int) := by omega
            have k1 : (k : Int) < (nm : Int) := by omega
            have k2 : (k : Int) < 10 := by omega
            have m0 : 0 ≤ min (nk.size : Int) 40 := by omega
            have m1 : min (nk.size : Int) 40 ≤ (nk.size : Int) := by omega
            have z0 : w.heap.size < wr.heap.size := by have := hbb.size; omega
            have z1 : g < wr.heap.size := Nat.lt_trans hg z0
            clear hst hcells hbb hro hts htn y0 hsz
            go_wp2_with fail
            go_region
            obtain ⟨W3, hW3⟩ : ∃ W3, (wr.alloc (.cells #[.string n', .slice none 0 0] 40)).drew = W3 := ⟨_, rfl⟩
            have HB3 : Hid (Below wr.heap.size wr W3) := Lib.hid (by rw [← hW3]; exact (one_box' _).drew)
            have HR3 : Hid (W3.heap[wr.heap.size]? = some (.cells #[.string n', .slice none 0 0] 40 (0, 0))) := Lib.hid (by rw [← hW3]; exact heap_alloc_new wr _)
            have HL3 : Hid (wr.heap.size < W3.heap.size) := Lib.hid (Array.getElem?_eq_some_iff.1 HR3.out).1
            have HL4 : Hid (w.heap.size < wr.heap.size) := Lib.hid z0
            have Y3 : Hid (W3.heap[w.heap.size]? = _) := Lib.hid ((HB3.out.block _ z0).trans Y0.out)
            have HBB3 : Hid (Below w.heap.size w W3) := Lib.hid (HBB.out.trans (HB3.out.mono (Nat.le_of_lt z0)))
            have D3 := Lib.hid ((HB3.out.cell (p := ⟨g, o + k * 2 + 1, none⟩) z1).trans d1)
            have HGZ := Lib.hid hg
            obtain ⟨b6, hb6⟩ : ∃ b6, wr.heap.size = b6 := ⟨_, rfl⟩
            have HWR : Hid (∃ wo : World, wo.heap.size = b6 ∧ wo = wr) := Lib.hid ⟨wr, hb6, rfl⟩
            have HBXW := HBX
            rw [hb6] at HR3 HL3 HL4 HB3 ⊢
            rw [hW3]
            clear hW3 x5 d0 d1 z0 z1 m0 m1 hb6
            go_wp2_with fail
            obtain ⟨wo, hwo⟩ : ∃ wo, wo = wr := ⟨_, rfl⟩
            rw [← hwo] at HON HBX HMR HWR HB3 HBXW HBB HSZ Y0
            clear hwo
            obtain ⟨i1, hi1, hy0, hy1, hy2⟩ := info_parts strInfo
            go_loopw [7] (fun i wr => ∃ (q : Nat) (V3 : Value), q ≤ tn ∧ q ≤ 10 ∧ i = .int .i64 q ∧ Hid (Only [b6] W3 wr) ∧ Hid (wr.heap[b6]? = some (.cells #[.string n', V3] 40 (0, 0))) ∧ Hid (wr.ownsRow W3.heap.size 9 1 V3 q (rowT ((ts.take q).map cutS)))) (fun i _ => tn - (intOf i).toNat)
            case atStart => exact ⟨0, .slice none 0 0, by omega, by omega, rfl, Lib.hid (Only.refl _ _), HR3, Lib.hid (World.ownsRow_nil _ _ _ _)⟩
            case round =>
              obtain ⟨q, V3, hq, hq10, rfl, HOQ, HBQ, HOS⟩ := hrel
              have y0 := (HOQ.out.block w.heap.size (by have := HL3.out; have := HL4.out; omega) (by have := HL4.out; simp; omega)).trans Y3.out
              have x5 := (cell_of_row _ _ 1 _ _ _ y0).trans rfl
              have hno : ∀ b, b < b6 → b ∉ [b6] := fun b h1 h2 => by
                have : b = b6 := by simpa using h2
                omega
              have d1 := HOQ.out.cell D3.out (hno _ (by have := HGZ.out; have := HL4.out; show g < b6; omega))
              have hq6 := (Array.getElem?_eq_some_iff.1 HBQ.out).1
              by_cases hqt : q < tn ∧ q < 10
              · obtain ⟨hqt, hqt10⟩ := hqt
                obtain ⟨gt, ot, rfl, hgt, hct⟩ := HRO.out (by rw [HTN.out]; omega)
                obtain ⟨s, hs⟩ : ∃ s, ts[q]? = some s := ⟨_, List.getElem?_eq_getElem (by rw [HTN.out]; exact hqt)⟩
                have hss := HTS.out s (List.mem_of_getElem? hs)
                unfold maxLen at hss
                have e0 := HOQ.out.cell ((HBB3.out.cell (p := ⟨gt, ot + q, none⟩) hgt).trans (by have := hct q s hs 0 _ rfl; rwa [Nat.mul_one, Nat.add_zero] at this)) (hno _ (by have := HL4.out; show gt < b6; omega))
                have v6 := (cell_of_row _ _ 1 _ _ _ HBQ.out).trans rfl
                obtain ⟨s', hs'⟩ : ∃ s', s.extract 0 (min (s.size : Int) 40).toNat = s' := ⟨_, rfl⟩
                have HNQ : Hid (rowT ((ts.take (q + 1)).map cutS) = rowT ((ts.take q).map cutS) ++ [.string s']) := Lib.hid (by
                  rw [take_map hs, ← hs']; simp [rowT, cutS])
                obtain ⟨A3, c3, rfl⟩ := own_len HOS.out
                have HO := HOS
                have hT : ∀ w', Only (b6 :: bk A3) wr w' → (w'.cell? ⟨w.heap.size, 1, none⟩ = some (.slice (some ⟨g, o, none⟩) nm cm) ∧ w'.cell? ⟨g, o + k * 2 + 1, none⟩ = some (.slice (some ⟨gt, ot, none⟩) tn ct) ∧ w'.cell? ⟨gt, ot + q, none⟩ = some (.string s)) ∧ Only (b6 :: bk A3) wr w' := fun w' r => by
                  have hno2 : ∀ b, b < b6 → b ∉ b6 :: bk A3 := fun b hb e => by
                    rcases List.mem_cons.1 e with e | e
                    · omega
                    · obtain ⟨_, z, _⟩ := own_bk HO.out b e
                      have := HL3.out; omega
                  exact ⟨⟨r.cell x5 (hno2 _ HL4.out), r.cell d1 (hno2 _ (Nat.lt_trans HGZ.out HL4.out)), r.cell e0 (hno2 _ (Nat.lt_trans hgt HL4.out))⟩, r⟩
                have HT := Lib.hid hT
                have HGR : Hid (∀ (o' : Obj) (w2 : World), (wr.drew.alloc o').grownBy w2 (Value.slice A3 q c3).ownBlock → w2.heap[b6]? = some (.cells #[.string n', .slice A3 q c3] 40 (0, 0))) := Lib.hid (fun o' w2 hgrow =>
                  (hgrow.block _ (by simp; omega) (fun e => by obtain ⟨_, z, _⟩ := own_bk HO.out _ (mem_bk.2 (by rw [blk_own] at e; exact e.symm)); have := HL3.out; omega)).trans ((Below.heap_alloc _ _ _ hq6).trans HBQ.out))
                have HBL : Hid (W3.heap.size ≤ wr.heap.size) := Lib.hid HOQ.out.size
                have j0 : (0 : Int) ≤ (q : Int) := by omega
                have j1 : (q : Int) < (tn : Int) := by omega
                have j2 : (q : Int) < 10 := by omega
                have m0 : 0 ≤ min (s.size : Int) 40 := by omega
                have m1 : min (s.size : Int) 40 ≤ (s.size : Int) := by omega
                clear hs hct hT y0
                go_wp2_with fail
                refine wp_region_held_drew (S := fun w' => (w'.cell? ⟨w.heap.size, 1, none⟩ = some (.slice (some ⟨g, o, none⟩) nm cm) ∧ w'.cell? ⟨g, o + k * 2 + 1, none⟩ = some (.slice (some ⟨gt, ot, none⟩) tn ct) ∧ w'.cell? ⟨gt, ot + q, none⟩ = some (.string s)) ∧ Only (b6 :: bk A3) wr w') (by kernel_rfl) (HT.out _ (Only.refl _ _).drew) (fun hHeld => ?_)
                refine wpAnyH_take (i := 0) (oi := ?o34) (v := ?v34) ?a34 (by kernel_rfl) (by kernel_rfl) (by kernel_rfl) ?q34 (Or.inl ⟨?g34, ?y34⟩) (by assumption) ?r34; (case' a34 => (simp only [List.getElem?_toArray, List.getElem?_cons_zero]; rfl)); (case' q34 => (exact fun _ _ _ h => h)); (case' g34 => rfl); (case' y34 => (intro w hSw; (try dsimp only at hSw); go_simp; try with_reducible rfl)); (case' r34 => (try simp only [Act.put, List.setIfInBounds_toArray, List.set_cons_zero, List.set_cons_succ]))
                refine wpAnyH_take (i := 2) (oi := ?o35) (v := ?v35) ?a35 (by kernel_rfl) (by kernel_rfl) (by kernel_rfl) ?q35 (Or.inl ⟨?g35, ?y35⟩) (by assumption) ?r35; (case' a35 => (simp only [List.getElem?_toArray, List.getElem?_cons_zero, List.getElem?_cons_succ]; rfl)); (case' q35 => (exact fun _ _ _ h => h)); (case' g35 => rfl); (case' y35 => (intro w hSw; (try dsimp only at hSw); go_simp; try with_reducible rfl)); (case' r35 => (try simp only [Act.put, List.setIfInBounds_toArray, List.set_cons_zero, List.set_cons_succ]))
                refine wpAnyH_take (i := 3) (oi := ?o36) (v := ?v36) ?a36 (by kernel_rfl) (by kernel_rfl) (by kernel_rfl) ?q36 (Or.inl ⟨?g36, ?y36⟩) (by assumption) ?r36; (case' a36 => (simp only [List.getElem?_toArray, List.getElem?_cons_zero, List.getElem?_cons_succ]; rfl)); (case' q36 => (exact fun _ _ _ h => h)); (case' g36 => rfl); (case' y36 => (intro w hSw; (try dsimp only at hSw); go_simp; try with_reducible rfl)); (case' r36 => (try simp only [Act.put, List.setIfInBounds_toArray, List.set_cons_zero, List.set_cons_succ]))
                refine wpAnyH_take (i := 4) (oi := ?o37) (v := ?v37) ?a37 (by kernel_rfl) (by kernel_rfl) (by kernel_rfl) ?q37 (Or.inl ⟨?g37, ?y37⟩) (by assumption) ?r37; (case' a37 => (simp only [List.getElem?_toArray, List.getElem?_cons_zero, List.getElem?_cons_succ]; rfl)); (case' q37 => (exact fun _ _ _ h => h)); (case' g37 => rfl); (case' y37 => (intro w hSw; (try dsimp only at hSw); go_simp; try with_reducible rfl)); (case' r37 => (try simp only [Act.put, List.setIfInBounds_toArray, List.set_cons_zero, List.set_cons_succ]))
                refine wpAnyH_take (i := 5) (oi := ?o38) (v := ?v38) ?a38 (by kernel_rfl) (by kernel_rfl) (by kernel_rfl) ?q38 (Or.inl ⟨?g38, ?y38⟩) (by assumption) ?r38; (case' a38 => (simp only [List.getElem?_toArray, List.getElem?_cons_zero, List.getElem?_cons_succ]; rfl)); (case' q38 => (exact fun _ _ _ h => h)); (case' g38 => rfl); (case' y38 => (intro w hSw; (try dsimp only at hSw); go_simp; try with_reducible rfl)); (case' r38 => (try simp only [Act.put, List.setIfInBounds_toArray, List.set_cons_zero, List.set_cons_succ]))
                refine wpAnyH_take (i := 6) (oi := ?o39) (v := ?v39) ?a39 (by kernel_rfl) (by kernel_rfl) (by kernel_rfl) ?q39 (Or.inl ⟨?g39, ?y39⟩) (by assumption) ?r39; (case' a39 => (simp only [List.getElem?_toArray, List.getElem?_cons_zero, List.getElem?_cons_succ]; rfl)); (case' q39 => (exact fun _ _ _ h => h)); (case' g39 => rfl); (case' y39 => (intro w hSw; (try dsimp only at hSw); go_simp; try with_reducible rfl)); (case' r39 => (try simp only [Act.put, List.setIfInBounds_toArray, List.set_cons_zero, List.set_cons_succ]))
                refine wpAnyH_take (i := 7) (oi := ?o40) (v := ?v40) ?a40 (by kernel_rfl) (by kernel_rfl) (by kernel_rfl) ?q40 (Or.inl ⟨?g40, ?y40⟩) (by assumption) ?r40; (case' a40 => (simp only [List.getElem?_toArray, List.getElem?_cons_zero, List.getElem?_cons_succ]; rfl)); (case' q40 => (exact fun _ _ _ h => h)); (case' g40 => rfl); (case' y40 => (intro w hSw; (try dsimp only at hSw); go_simp; try with_reducible rfl)); (case' r40 => (try simp only [Act.put, List.setIfInBounds_toArray, List.set_cons_zero, List.set_cons_succ]))
                refine wpAnyH_take (i := 8) (oi := ?o41) (v := ?v41) ?a41 (by kernel_rfl) (by kernel_rfl) (by kernel_rfl) ?q41 (Or.inl ⟨?g41, ?y41⟩) (by assumption) ?r41; (case' a41 => (simp only [List.getElem?_toArray, List.getElem?_cons_zero, List.getElem?_cons_succ]; rfl)); (case' q41 => (exact fun _ _ _ h => h)); (case' g41 => rfl); (case' y41 => (intro w hSw; (try dsimp only at hSw); go_simp; try with_reducible rfl)); (case' r41 => (try simp only [Act.put, List.setIfInBounds_toArray, List.set_cons_zero, List.set_cons_succ]))
                refine wpAnyH_take (i := 9) (oi := ?o42) (v := ?v42) ?a42 (by kernel_rfl) (by kernel_rfl) (by kernel_rfl) ?q42 (Or.inl ⟨?g42, ?y42⟩) (by assumption) ?r42; (case' a42 => (simp only [List.getElem?_toArray, List.getElem?_cons_zero, List.getElem?_cons_succ]; rfl)); (case' q42 => (exact fun _ _ _ h => h)); (case' g42 => rfl); (case' y42 => (intro w hSw; (try dsimp only at hSw); go_simp; try with_reducible rfl)); (case' r42 => (try simp only [Act.put, List.setIfInBounds_toArray, List.set_cons_zero, List.set_cons_succ]))
                refine wpAnyH_take (i := 10) (oi := ?o43) (v := ?v43) ?a43 (by kernel_rfl) (by kernel_rfl) (by kernel_rfl) ?q43 (Or.inl ⟨?g43, ?y43⟩) (by assumption) ?r43; (case' a43 => (simp only [List.getElem?_toArray, List.getElem?_cons_zero, List.getElem?_cons_succ]; rfl)); (case' q43 => (exact fun _ _ _ h => h)); (case' g43 => rfl); (case' y43 => (intro w hSw; (try dsimp only at hSw); go_simp; try with_reducible rfl)); (case' r43 => (try simp only [Act.put, List.setIfInBounds_toArray, List.set_cons_zero, List.set_cons_succ]))
                refine wpAnyH_take (i := 11) (oi := ?o44) (v := ?v44) ?a44 (by kernel_rfl) (by kernel_rfl) (by kernel_rfl) ?q44 (Or.inl ⟨?g44, ?y44⟩) (by assumption) ?r44; (case' a44 => (simp only [List.getElem?_toArray, List.getElem?_cons_zero, List.getElem?_cons_succ]; rfl)); (case' q44 => (exact fun _ _ _ h => h)); (case' g44 => rfl); (case' y44 => (intro w hSw; (try dsimp only at hSw); go_simp; try with_reducible rfl)); (case' r44 => (try simp only [Act.put, List.setIfInBounds_toArray, List.set_cons_zero, List.set_cons_succ]))
                refine wpAnyH_take (i := 12) (oi := ?o45) (v := ?v45) ?a45 (by kernel_rfl) (by kernel_rfl) (by kernel_rfl) ?q45 (Or.inl ⟨?g45, ?y45⟩) (by assumption) ?r45; (case' a45 => (simp only [List.getElem?_toArray, List.getElem?_cons_zero, List.getElem?_cons_succ]; rfl)); (case' q45 => (exact fun _ _ _ h => h)); (case' g45 => rfl); (case' y45 => (intro w hSw; (try dsimp only at hSw); go_simp; try with_reducible rfl)); (case' r45 => (try simp only [Act.put, List.setIfInBounds_toArray, List.set_cons_zero, List.set_cons_succ]))
                refine wpAnyH_take (i := 13) (oi := ?o46) (v := ?v46) ?a46 (by kernel_rfl) (by kernel_rfl) (by kernel_rfl) ?q46 (Or.inl ⟨?g46, ?y46⟩) (by assumption) ?r46; (case' a46 => (simp only [List.getElem?_toArray, List.getElem?_cons_zero, List.getElem?_cons_succ]; rfl)); (case' q46 => (exact fun _ _ _ h => h)); (case' g46 => rfl); (case' y46 => (intro w hSw; (try dsimp only at hSw); go_simp; try with_reducible rfl)); (case' r46 => (try simp only [Act.put, List.setIfInBounds_toArray, List.set_cons_zero, List.set_cons_succ]))
                refine wpAnyH_take (i := 14) (oi := ?o47) (v := ?v47) ?a47 (by kernel_rfl) (by kernel_rfl) (by kernel_rfl) ?q47 (Or.inl ⟨?g47, ?y47⟩) (by assumption) ?r47; (case' a47 => (simp only [List.getElem?_toArray, List.getElem?_cons_zero, List.getElem?_cons_succ]; rfl)); (case' q47 => (exact fun _ _ _ h => h)); (case' g47 => rfl); (case' y47 => (intro w hSw; (try dsimp only at hSw); go_simp; try with_reducible rfl)); (case' r47 => (try simp only [Act.put, List.setIfInBounds_toArray, List.set_cons_zero, List.set_cons_succ]))
                refine wpAnyH_take (i := 15) (oi := ?o48) (v := ?v48) ?a48 (by kernel_rfl) (by kernel_rfl) (by kernel_rfl) ?q48 (Or.inl ⟨?g48, ?y48⟩) (by assumption) ?r48; (case' a48 => (simp only [List.getElem?_toArray, List.getElem?_cons_zero, List.getElem?_cons_succ]; rfl)); (case' q48 => (exact fun _ _ _ h => h)); (case' g48 => rfl); (case' y48 => (intro w hSw; (try dsimp only at hSw); go_simp; try with_reducible rfl)); (case' r48 => (try simp only [Act.put, List.setIfInBounds_toArray, List.set_cons_zero, List.set_cons_succ]))
                refine wpAnyH_take (i := 16) (oi := ?o49) (v := ?v49) ?a49 (by kernel_rfl) (by kernel_rfl) (by kernel_rfl) ?q49 (Or.inl ⟨?g49, ?y49⟩) (by assumption) ?r49; (case' a49 => (simp only [List.getElem?_toArray, List.getElem?_cons_zero, List.getElem?_cons_succ]; rfl)); (case' q49 => (exact fun _ _ _ h => h)); (case' g49 => rfl); (case' y49 => (intro w hSw; (try dsimp only at hSw); go_simp; try with_reducible rfl)); (case' r49 => (try simp only [Act.put, List.setIfInBounds_toArray, List.set_cons_zero, List.set_cons_succ]))
                refine wpAnyH_take (i := 17) (oi := ?o50) (v := ?v50) ?a50 (by kernel_rfl) (by kernel_rfl) (by kernel_rfl) ?q50 (Or.inl ⟨?g50, ?y50⟩) (by assumption) ?r50; (case' a50 => (simp only [List.getElem?_toArray, List.getElem?_cons_zero, List.getElem?_cons_succ]; rfl)); (case' q50 => (exact fun _ _ _ h => h)); (case' g50 => rfl); (case' y50 => (intro w hSw; (try dsimp only at hSw); go_simp; try with_reducible rfl)); (case' r50 => (try simp only [Act.put, List.setIfInBounds_toArray, List.set_cons_zero, List.set_cons_succ]))
                refine wpAnyH_take (i := 18) (oi := ?o51) (v := ?v51) ?a51 (by kernel_rfl) (by kernel_rfl) (by kernel_rfl) ?q51 (Or.inl ⟨?g51, ?y51⟩) (by assumption) ?r51; (case' a51 => (simp only [List.getElem?_toArray, List.getElem?_cons_zero, List.getElem?_cons_succ]; rfl)); (case' q51 => (exact fun _ _ _ h => h)); (case' g51 => rfl); (case' y51 => (intro w hSw; (try dsimp only at hSw); go_simp; try with_reducible rfl)); (case' r51 => (try simp only [Act.put, List.setIfInBounds_toArray, List.set_cons_zero, List.set_cons_succ]))
                refine wpAnyH_take (i := 19) (oi := ?o52) (v := ?v52) ?a52 (by kernel_rfl) (by kernel_rfl) (by kernel_rfl) ?q52 (Or.inl ⟨?g52, ?y52⟩) (by assumption) ?r52; (case' a52 => (simp only [List.getElem?_toArray, List.getElem?_cons_zero, List.getElem?_cons_succ]; rfl)); (case' q52 => (exact fun _ _ _ h => h)); (case' g52 => rfl); (case' y52 => (intro w hSw; (try dsimp only at hSw); go_simp; try with_reducible rfl)); (case' r52 => (try simp only [Act.put, List.setIfInBounds_toArray, List.set_cons_zero, List.set_cons_succ]))
                refine wpAnyH_take (i := 20) (oi := ?o53) (v := ?v53) ?a53 (by kernel_rfl) (by kernel_rfl) (by kernel_rfl) ?q53 (Or.inl ⟨?g53, ?y53⟩) (by assumption) ?r53; (case' a53 => (simp only [List.getElem?_toArray, List.getElem?_cons_zero, List.getElem?_cons_succ]; rfl)); (case' q53 => (exact fun _ _ _ h => h)); (case' g53 => rfl); (case' y53 => (intro w hSw; (try dsimp only at hSw); go_simp; try with_reducible rfl)); (case' r53 => (try simp only [Act.put, List.setIfInBounds_toArray, List.set_cons_zero, List.set_cons_succ]))
                refine wpAnyH_take (i := 21) (oi := ?o54) (v := ?v54) ?a54 (by kernel_rfl) (by kernel_rfl) (by kernel_rfl) ?q54 (Or.inl ⟨?g54, ?y54⟩) (by assumption) ?r54; (case' a54 => (simp only [List.getElem?_toArray, List.getElem?_cons_zero, List.getElem?_cons_succ]; rfl)); (case' q54 => (exact fun _ _ _ h => h)); (case' g54 => rfl); (case' y54 => (intro w hSw; (try dsimp only at hSw); go_simp; try with_reducible rfl)); (case' r54 => (try simp only [Act.put, List.setIfInBounds_toArray, List.set_cons_zero, List.set_cons_succ]))
                refine wpAnyH_take (i := 22) (oi := ?o55) (v := ?v55) ?a55 (by kernel_rfl) (by kernel_rfl) (by kernel_rfl) ?q55 (Or.inl ⟨?g55, ?y55⟩) (by assumption) ?r55; (case' a55 => (simp only [List.getElem?_toArray, List.getElem?_cons_zero, List.getElem?_cons_succ]; rfl)); (case' q55 => (exact fun _ _ _ h => h)); (case' g55 => rfl); (case' y55 => (intro w hSw; (try dsimp only at hSw); go_simp; try with_reducible rfl)); (case' r55 => (try simp only [Act.put, List.setIfInBounds_toArray, List.set_cons_zero, List.set_cons_succ]))
                refine wpAnyH_ready (rs := [1, 23]) (by kernel_rfl) (by simp) ?_
                refine AllReadyH.cons (o := ?o56) ?a56 (fun K hK => ?s56) ?m56; (case' a56 => (simp only [List.getElem?_toArray, List.getElem?_cons_zero, List.getElem?_cons_succ]; rfl))
                case s56 =>
                  go_simp
                  refine hK.out _ _ (hHeld) (fun hHeld => ?_)
                  clear hK K
                  (try simp only [Act.put, List.setIfInBounds_toArray, List.set_cons_zero, List.set_cons_succ])
                  refine wpAnyH_ready (rs := [23]) (by kernel_rfl) (by simp) ?_
                  refine AllReadyH.cons (o := ?o57) ?a57 (fun K hK => ?s57) ?m57; (case' a57 => (simp only [List.getElem?_toArray, List.getElem?_cons_zero, List.getElem?_cons_succ]; rfl))
                  case s57 =>
                    go_simp
                    refine hK.out _ _ (HT.out _ (hHeld.2.alloc _)) (fun hHeld => ?_)
                    clear hK K
                    (try simp only [Act.put, List.setIfInBounds_toArray, List.set_cons_zero, List.set_cons_succ])
                    refine wpAnyH_ready (rs := [24]) (by kernel_rfl) (by simp) ?_
                    refine AllReadyH.cons (o := ?o58) ?a58 (fun K hK => ?s58) ?m58; (case' a58 => (simp only [List.getElem?_toArray, List.getElem?_cons_zero, List.getElem?_cons_succ]; rfl))
                    case s58 =>
                      refine step_append_lies _ (by rfl) _ _ _ (by rfl) W3.heap.size 9 i1 _ 1 16 Try.underlying38 hi1 hy0 hy1 hy2 rfl (by omega) (.slice A3 q c3) q (rowT ((ts.take q).map cutS)) (by rfl) ((own_below HO.out (Below.refl _ _).drew).alloc _) ⟨wr.heap.size, 0, none⟩ 1 1 [.string s'] (by rfl) (by rfl) (World.news_of_block (cs := #[.string s']) (t := 9) (fr := (0, 0)) (heap_alloc_new wr.drew _)) (by simp [Value.oneCell']) (by omega) (by unfold maxLen; omega) (by omega) (by have := HBL.out; simp; omega) (wr.heap.size + 1) (by simp) ?_
                      intro gg cc w2 hown2 hgrow hat hltg
                      have hrow := HGR.out _ _ hgrow
                      have x2 := (cell_of_row _ _ 1 _ _ _ hrow).trans rfl
                      have y2 := frozen_of_row _ _ 1 _ _ hrow
                      have HROW := Lib.hid hrow
                      clear hrow
                      refine hK.out _ _ (HT.out _ (only_grown hgrow)) (fun hHeld => ?_)
                      clear hK K
                      (try simp only [Act.put, List.setIfInBounds_toArray, List.set_cons_zero, List.set_cons_succ])
                      refine wpAnyH_take (i := 25) (oi := ?o59) (v := ?v59) ?a59 (by kernel_rfl) (by kernel_rfl) (by kernel_rfl) ?q59 (Or.inl ⟨?g59, ?y59⟩) (by assumption) ?r59; (case' a59 => (simp only [List.getElem?_toArray, List.getElem?_cons_zero, List.getElem?_cons_succ]; rfl)); (case' q59 => (exact fun _ _ _ h => h)); (case' g59 => rfl); (case' y59 => (intro w hSw; (try dsimp only at hSw); go_simp; try with_reducible rfl)); (case' r59 => (try simp only [Act.put, List.setIfInBounds_toArray, List.set_cons_zero, List.set_cons_succ]))
                      refine wpAnyH_ready (rs := [26]) (by kernel_rfl) (by simp) ?_
                      refine AllReadyH.cons (o := ?o60) ?a60 (fun K hK => ?s60) ?m60; (case' a60 => (simp only [List.getElem?_toArray, List.getElem?_cons_zero, List.getElem?_cons_succ]; rfl))
                      case s60 =>
                        go_simp
                        refine hK.out _ _ (HT.out _ (hHeld.2.setCell (.inl (by simp)) _)) (fun hHeld => ?_)
                        clear hK K
                        (try simp only [Act.put, List.setIfInBounds_toArray, List.set_cons_zero, List.set_cons_succ])
                        refine wpAnyH_done (by kernel_rfl) ?_ _
                        have HH := Lib.hid hHeld.2
                        clear hHeld
                        go_wp2_with fail
                        go_roundw
                        case rel =>
                          refine ⟨q + 1, _, by omega, by omega, by go_num, Lib.hid ?_, Lib.hid (heap_setCell_same _ _ 1 _ _ _ HROW.out), Lib.hid ?_⟩
                          · exact HOQ.out.trans HH.out (fun j hj => by
                              rcases List.mem_cons.1 hj with e | e
                              · exact .inl (by simp [e])
                              · exact .inr (by obtain ⟨_, z, _⟩ := own_bk HO.out j e; exact z))
                          · rw [HNQ.out]; exact own_at hown2 (fun j e => Below.heap_setCell _ _ _ _ (fun e' => by have h1 := (hown2.lt j e).1; have h2 := HL3.out; have e2 : j = b6 := e'; omega))
                        case measure => simp [intOf]; omega
                      exact AllReadyH.nil
                    exact AllReadyH.nil
                  exact AllReadyH.nil
                refine AllReadyH.cons (o := ?o61) ?a61 (fun K hK => ?s61) ?m61; (case' a61 => (simp only [List.getElem?_toArray, List.getElem?_cons_zero, List.getElem?_cons_succ]; rfl))
                case s61 =>
                  go_simp
                  refine hK.out _ _ (HT.out _ (hHeld.2.alloc _)) (fun hHeld => ?_)
                  clear hK K
                  (try simp only [Act.put, List.setIfInBounds_toArray, List.set_cons_zero, List.set_cons_succ])
                  refine wpAnyH_ready (rs := [1]) (by kernel_rfl) (by simp) ?_
                  refine AllReadyH.cons (o := ?o62) ?a62 (fun K hK => ?s62) ?m62; (case' a62 => (simp only [List.getElem?_toArray, List.getElem?_cons_zero, List.getElem?_cons_succ]; rfl))
                  case s62 =>
                    go_simp
                    refine hK.out _ _ (hHeld) (fun hHeld => ?_)
                    clear hK K
                    (try simp only [Act.put, List.setIfInBounds_toArray, List.set_cons_zero, List.set_cons_succ])
                    refine wpAnyH_ready (rs := [24]) (by kernel_rfl) (by simp) ?_
                    refine AllReadyH.cons (o := ?o63) ?a63 (fun K hK => ?s63) ?m63; (case' a63 => (simp only [List.getElem?_toArray, List.getElem?_cons_zero, List.getElem?_cons_succ]; rfl))
                    case s63 =>
                      refine step_append_lies _ (by rfl) _ _ _ (by rfl) W3.heap.size 9 i1 _ 1 16 Try.underlying38 hi1 hy0 hy1 hy2 rfl (by omega) (.slice A3 q c3) q (rowT ((ts.take q).map cutS)) (by rfl) ((own_below HO.out (Below.refl _ _).drew).alloc _) ⟨wr.heap.size, 0, none⟩ 1 1 [.string s'] (by rfl) (by rfl) (World.news_of_block (cs := #[.string s']) (t := 9) (fr := (0, 0)) (heap_alloc_new wr.drew _)) (by simp [Value.oneCell']) (by omega) (by unfold maxLen; omega) (by omega) (by have := HBL.out; simp; omega) (wr.heap.size + 1) (by simp) ?_
                      intro gg cc w2 hown2 hgrow hat hltg
                      have hrow := HGR.out _ _ hgrow
                      have x2 := (cell_of_row _ _ 1 _ _ _ hrow).trans rfl
                      have y2 := frozen_of_row _ _ 1 _ _ hrow
                      have HROW := Lib.hid hrow
                      clear hrow
                      refine hK.out _ _ (HT.out _ (only_grown hgrow)) (fun hHeld => ?_)
                      clear hK K
                      (try simp only [Act.put, List.setIfInBounds_toArray, List.set_cons_zero, List.set_cons_succ])
                      refine wpAnyH_take (i := 25) (oi := ?o64) (v := ?v64) ?a64 (by kernel_rfl) (by kernel_rfl) (by kernel_rfl) ?q64 (Or.inl ⟨?g64, ?y64⟩) (by assumption) ?r64; (case' a64 => (simp only [List.getElem?_toArray, List.getElem?_cons_zero, List.getElem?_cons_succ]; rfl)); (case' q64 => (exact fun _ _ _ h => h)); (case' g64 => rfl); (case' y64 => (intro w hSw; (try dsimp only at hSw); go_simp; try with_reducible rfl)); (case' r64 => (try simp only [Act.put, List.setIfInBounds_toArray, List.set_cons_zero, List.set_cons_succ]))
                      refine wpAnyH_ready (rs := [26]) (by kernel_rfl) (by simp) ?_
                      refine AllReadyH.cons (o := ?o65) ?a65 (fun K hK => ?s65) ?m65; (case' a65 => (simp only [List.getElem?_toArray, List.getElem?_cons_zero, List.getElem?_cons_succ]; rfl))
                      case s65 =>
                        go_simp
                        refine hK.out _ _ (HT.out _ (hHeld.2.setCell (.inl (by simp)) _)) (fun hHeld => ?_)
                        clear hK K
                        (try simp only [Act.put, List.setIfInBounds_toArray, List.set_cons_zero, List.set_cons_succ])
                        refine wpAnyH_done (by kernel_rfl) ?_ _
                        have HH := Lib.hid hHeld.2
                        clear hHeld
                        go_wp2_with fail
                        go_roundw
                        case rel =>
                          refine ⟨q + 1, _, by omega, by omega, by go_num, Lib.hid ?_, Lib.hid (heap_setCell_same _ _ 1 _ _ _ HROW.out), Lib.hid ?_⟩
                          · exact HOQ.out.trans HH.out (fun j hj => by
                              rcases List.mem_cons.1 hj with e | e
                              · exact .inl (by simp [e])
                              · exact .inr (by obtain ⟨_, z, _⟩ := own_bk HO.out j e; exact z))
                          · rw [HNQ.out]; exact own_at hown2 (fun j e => Below.heap_setCell _ _ _ _ (fun e' => by have h1 := (hown2.lt j e).1; have h2 := HL3.out; have e2 : j = b6 := e'; omega))
                        case measure => simp [intOf]; omega
                      exact AllReadyH.nil
                    exact AllReadyH.nil
                  exact AllReadyH.nil
                exact AllReadyH.nil
              · obtain ⟨hq1, hq2⟩ := cut10 (f := cutS) HTN.out hq hq10 hqt rfl
                have hos := HOS.out
                obtain ⟨A3, c3, rfl⟩ := own_len hos
                have HOS' := Lib.hid hos
                obtain ⟨T, hT⟩ : ∃ T, (ts.take 10).map cutS = T := ⟨_, rfl⟩
                rw [hT] at hq1 hq2
                have HTT := Lib.hid hq1
                have HTL := Lib.hid hq2
                have HNX' := HNX
                rw [hT] at HNX'
                have hqd : tn ≤ q ∨ (q < tn ∧ 10 ≤ q) := by omega
                have hrb : wr.heap[w.heap.size + 1 + 1]? = some (.cells #[.slice A' L.length c', V] 25 (0, 0)) := by
                  have h1 : w.heap.size + 1 + 1 < b6 := by
                    obtain ⟨wx, hx, rfl⟩ := HWR.out
                    rw [← hx]; exact HSZ.out
                  refine ((HOQ.out.block _ (by have := HL3.out; omega) (by simp; omega)).trans (HB3.out.block _ (by obtain ⟨wx, hx, rfl⟩ := HWR.out; omega))).trans HBXW.out
                obtain ⟨A2, c2, hV⟩ := HMR.out.len
                subst hV
                rw [hsl] at hrb HMR
                have x6 := (cell_of_row _ _ 1 _ _ _ hrb).trans rfl
                have HRB := Lib.hid hrb
                have v0 := (cell_of_row _ _ 0 _ _ _ HBQ.out).trans rfl
                have v1 := (cell_of_row _ _ 1 _ _ _ HBQ.out).trans rfl
                have HM5 : Hid (MRow wr W2.heap.size (.slice A2 k c2) sl) := Lib.hid (HMR.out.at (fun j cs T' fr hj hT' => by
                  obtain ⟨wx, hx, rfl⟩ := HWR.out
                  have hj1 := (Array.getElem?_eq_some_iff.1 hj).1
                  exact ((HOQ.out.block j (by have := HL3.out; omega) (by simp; omega)).trans (HB3.out.block j (by omega))).trans hj))
                have HM51 : Hid (wr.ownsRow W2.heap.size 40 2 (.slice A2 k c2) k (rowE sl)) := Lib.hid (by have := HM5.out.1; rwa [hsl] at this)
                have HWZ : Hid (W2.heap.size ≤ b6) := Lib.hid (by obtain ⟨wx, hx, rfl⟩ := HWR.out; rw [← hx]; exact HON.out.size)
                have HW3 : Hid (W2.heap.size ≤ wr.heap.size) := Lib.hid (by have h1 := HWZ.out; have h2 := HL3.out; have h3 := HOQ.out.size; omega)
                have HO36 : Hid (Only [w.heap.size + 1 + 1] W2 wr) := Lib.hid (by
                  obtain ⟨wx, hx, rfl⟩ := HWR.out
                  exact HON.out.trans ((Only.ofBelow (S := [b6]) (by rw [hx]; exact HB3.out)).trans HOQ.out (fun j hj => .inl hj)) (fun j hj => .inr (by have e : j = b6 := (by simpa using hj); have h1 := HWZ.out; omega)))
                clear y0 hrb hT hq1 hq2 hq hq10 hqt hos hno hi1 hy0 hy1 hy2
                rcases hqd with hqd | ⟨hqd1, hqd2⟩
                all_goals
                  go_wp2_with (at_builtin; refine wpList_append_lies _ rfl _ _ 23 (by rfl) W2.heap.size 40 i0 _ 2 40 Try.underlying23 hi0 hz0 hz1 hz2 rfl (by decide) (.slice A2 k c2) k (rowE sl) (by rfl) (HM51.out.alloc _) ⟨wr.heap.size, 0, none⟩ 1 1 [.string n', .slice A3 q c3] (by rfl) (by rfl) (World.news_of_block (cs := #[.string n', .slice A3 q c3]) (t := 40) (fr := (0, 0)) (heap_alloc_new wr _)) (by simp [Value.oneCell']) (by decide) (by unfold maxLen; omega) (by omega) (by have := HW3.out; simp; omega) (wr.heap.size + 1) (by simp) ?_; intro g5 c5 w5 hown5 hgrow5 hat5 hlt5; have hr5 : w5.heap[w.heap.size + 1 + 1]? = some (.cells #[.slice A' L.length c', .slice A2 k c2] 25 (0, 0)) := (hgrow5.block _ (by have := XS'.out; have := HW3.out; simp; omega) (fun e => by obtain ⟨_, z, _⟩ := own_bk HM5.out.1 _ (mem_bk.2 (by rw [blk_own] at e; exact e.symm)); have := XS'.out; omega)).trans ((Below.heap_alloc _ _ _ (by have := XS'.out; have := HW3.out; omega)).trans HRB.out); have e5 := (cell_of_row _ _ 1 _ _ _ hr5).trans rfl; have f5 := frozen_of_row _ _ 1 _ _ hr5; have HR5 := Lib.hid hr5; have HO5 := Lib.hid hown5; have HG5 := Lib.hid hgrow5; clear hr5 hown5 hgrow5 hat5 hlt5)
                  go_roundw
                  case rel =>
                    refine ⟨k + 1, _, sl ++ [⟨⟨n', T⟩, A3, c3⟩], by omega, by omega, by go_num, by rw [List.length_append, hsl]; rfl, Lib.hid ?_, Lib.hid ?_, Lib.hid (heap_setCell_same _ _ 1 _ _ _ HR5.out), Lib.hid ?_⟩
                    · rw [List.map_append, HSL.out, HNX'.out]; rfl
                    · exact ((HO36.out.alloc _).grown HG5.out (fun j e => .inr (by obtain ⟨_, z, _⟩ := own_bk HM5.out.1 j (mem_bk.2 (by rw [blk_own] at e; exact e)); exact z))).setCell (.inl (by simp)) _
                    · have hos2 := HOS'.out
                      rw [HTT.out] at hos2
                      exact HM5.out.push (ts := T) hos2 (by have h1 := HWZ.out; have h2 := HL3.out; omega) HTL.out HO5.out HG5.out XS'.out hsl
                  case measure => simp [intOf]; omega
          · have hln := cut10 hm.out hk hk10 hlt HM.out
            obtain ⟨hm1, hm2⟩ := hln
            subst hm2
            have y1 := (HON.out.block (w.heap.size + 1) (by have := XS'.out; omega) (by simp)).trans X1'.out
            obtain ⟨A2, c2, hV⟩ := HMR.out.len
            subst hV
            rw [hsl] at HBX HMR
            have p := HBX.out
            have z0 := (cell_of_row _ _ 0 _ _ _ p).trans rfl
            have z1 := (cell_of_row _ _ 1 _ _ _ p).trans rfl
            have q0 := frozen_of_row _ _ 0 _ _ y1
            have q1 := frozen_of_row _ _ 1 _ _ y1
            have c0 := (cell_of_row _ _ 0 _ _ _ y1).trans rfl
            have c1 := (cell_of_row _ _ 1 _ _ _ y1).trans rfl
            have RZ := Lib.hid y1
            have HFB := Lib.hid hbb
            have hmap : sl.map (·.m) = M := HSL.out.trans hm1
            have HMAP := Lib.hid hmap
            have HZW : Hid (W2.heap.size ≤ wr.heap.size) := Lib.hid HON.out.size
            have HOVW : Hid (wr.ownsRow W1.heap.size 44 2 (.slice A' L.length c') L.length (rowP L)) := Lib.hid (own_at HOV'.out (fun j e => HON.out.block j (HOV'.out.lt j e).2 (fun e2 => by
              have h1 := (HOV'.out.lt j e).1
              have e3 : j = w.heap.size + 1 + 1 := by simpa using e2
              have := XS.out; omega)))
            have hdd : nm ≤ M.length ∨ (M.length < nm ∧ 10 ≤ M.length) := by omega
            clear y1 p hbb y0 hk hk10 hlt hm1 hmap hsz
            rcases hdd with hdd | ⟨hdd1, hdd2⟩
            all_goals
              go_wp2_with fail
              refine bodyPost_ret (v := .agg #[.slice A' L.length c', .slice A2 M.length c2]) (results_cell_row (p := 2) (ty := 25) Try.results4 _ _ (w.heap.size + 1) 25 #[.slice A' L.length c', .slice A2 M.length c2] (0, 0) _ rfl (set2 RZ.out) Try.underlying25 rfl (by kernel_rfl)) rfl ?_
              exact cut_end HOVW HMR HMAP HFB (by have := XS.out; omega) (by have := XS'.out; omega) HL10.out HM10.out
      · go_wp2_with fail
        clear x4 x5
        obtain ⟨W2, hW2⟩ : ∃ W2 : World, W2 = wr := ⟨_, rfl⟩
        subst hW2
        obtain ⟨i0, hi0, hz0, hz1, hz2⟩ := info_parts memInfo
        go_loopw [5] (fun i wr => ∃ (k : Nat) (V : Value) (sl : List Me), k ≤ nm ∧ k ≤ 10 ∧ i = .int .i64 k ∧ sl.length = k ∧ Hid (sl.map (·.m) = (ms.take k).map (fun v => cutM v.m)) ∧ Hid (Only [w.heap.size + 1 + 1] W2 wr) ∧ Hid (wr.heap[w.heap.size + 1 + 1]? = some (.cells #[.slice A' L.length c', V] 25 (0, 0))) ∧ Hid (MRow wr W2.heap.size V sl)) (fun i _ => nm - (intOf i).toNat)
        case atStart => exact ⟨0, .slice none 0 0, [], by omega, by omega, rfl, rfl, Lib.hid rfl, Lib.hid (Only.refl _ _), HBX', Lib.hid ⟨World.ownsRow_nil _ _ _ _, fun s hs => by cases hs⟩⟩
        case round =>
          obtain ⟨k, V, sl, hk, hk10, rfl, hsl, HSL, HON, HBX, HMR⟩ := hrel
          have y0 := (HON.out.block w.heap.size (by have := XS'.out; omega) (by simp; omega)).trans X0'.out
          have x5 := (cell_of_row _ _ 1 _ _ _ y0).trans rfl
          have hbb : Below w.heap.size w wr := XB'.out.trans (HON.out.below XB'.out.size (fun j hj => by
            have : j = w.heap.size + 1 + 1 := by simpa using hj
            omega))
          have hsz := (Array.getElem?_eq_some_iff.1 HBX.out).1
          by_cases hlt : k < nm ∧ k < 10
          · obtain ⟨hlt, hlt10⟩ := hlt
            obtain ⟨g, o, rfl, hg, hcells⟩ := hB.out (by rw [hm.out]; omega)
            obtain ⟨⟨⟨nk, ts⟩, At, ct⟩, hst⟩ : ∃ st, ms[k]? = some st := ⟨_, List.getElem?_eq_getElem (by rw [hm.out]; exact hlt)⟩
            obtain ⟨hnk, hro, hts, htl⟩ := hBs.out _ (List.mem_of_getElem? hst)
            unfold maxLen at hnk htl
            dsimp only at hnk hro hts htl
            have d0 := (hbb.cell (p := ⟨g, o + k * 2, none⟩) hg).trans (hcells k _ hst 0 _ rfl)
            have d1 := (hbb.cell (p := ⟨g, o + k * 2 + 1, none⟩) hg).trans (hcells k _ hst 1 _ rfl)
            obtain ⟨tn, htn⟩ : ∃ tn, ts.length = tn := ⟨_, rfl⟩
            dsimp only at d1
            rw [htn] at d1 htl
            have D1 := Lib.hid d1
            have HTN := Lib.hid htn
            have HRO := Lib.hid hro
            have HTS := Lib.hid hts
            obtain ⟨n', hn'⟩ : ∃ s', nk.extract 0 (min (nk.size : Int) 40).toNat = s' := ⟨_, rfl⟩
            have HNX : Hid ((ms.take (k + 1)).map (fun v => cutM v.m) = (ms.take k).map (fun v => cutM v.m) ++ [⟨n', (ts.take 10).map cutS⟩]) := Lib.hid (by rw [take_map hst, ← hn']; rfl)
            have HBB := Lib.hid hbb
            have HSZ := Lib.hid hsz
            have Y0 := Lib.hid y0
            have k0 : (0 : Int) ≤ (k : Int) := by omega
            have k1 : (k : Int) < (nm : Int) := by omega
            have k2 : (k : Int) < 10 := by omega
            have m0 : 0 ≤ min (nk.size : Int) 40 := by omega
            have m1 : min (nk.size : Int) 40 ≤ (nk.size : Int) := by omega
            have z0 : w.heap.size < wr.heap.size := by have := hbb.size; omega
            have z1 : g < wr.heap.size := Nat.lt_trans hg z0
            clear hst hcells hbb hro hts htn y0 hsz
            go_wp2_with fail
            go_region
            obtain ⟨W3, hW3⟩ : ∃ W3, (wr.alloc (.cells #[.string n', .slice none 0 0] 40)).drew = W3 := ⟨_, rfl⟩
            have HB3 : Hid (Below wr.heap.size wr W3) := Lib.hid (by rw [← hW3]; exact (one_box' _).drew)
            have HR3 : Hid (W3.heap[wr.heap.size]? = some (.cells #[.string n', .slice none 0 0] 40 (0, 0))) := Lib.hid (by rw [← hW3]; exact heap_alloc_new wr _)
            have HL3 : Hid (wr.heap.size < W3.heap.size) := Lib.hid (Array.getElem?_eq_some_iff.1 HR3.out).1
            have HL4 : Hid (w.heap.size < wr.heap.size) := Lib.hid z0
            have Y3 : Hid (W3.heap[w.heap.size]? = _) := Lib.hid ((HB3.out.block _ z0).trans Y0.out)
            have HBB3 : Hid (Below w.heap.size w W3) := Lib.hid (HBB.out.trans (HB3.out.mono (Nat.le_of_lt z0)))
            have D3 := Lib.hid ((HB3.out.cell (p := ⟨g, o + k * 2 + 1, none⟩) z1).trans d1)
            have HGZ := Lib.hid hg
            obtain ⟨b6, hb6⟩ : ∃ b6, wr.heap.size = b6 := ⟨_, rfl⟩
            have HWR : Hid (∃ wo : World, wo.heap.size = b6 ∧ wo = wr) := Lib.hid ⟨wr, hb6, rfl⟩
            have HBXW := HBX
            rw [hb6] at HR3 HL3 HL4 HB3 ⊢
            rw [hW3]
            clear hW3 x5 d0 d1 z0 z1 m0 m1 hb6
            go_wp2_with fail
            obtain ⟨wo, hwo⟩ : ∃ wo, wo = wr := ⟨_, rfl⟩
            rw [← hwo] at HON HBX HMR HWR HB3 HBXW HBB HSZ Y0
            clear hwo
            obtain ⟨i1, hi1, hy0, hy1, hy2⟩ := info_parts strInfo
            go_loopw [7] (fun i wr => ∃ (q : Nat) (V3 : Value), q ≤ tn ∧ q ≤ 10 ∧ i = .int .i64 q ∧ Hid (Only [b6] W3 wr) ∧ Hid (wr.heap[b6]? = some (.cells #[.string n', V3] 40 (0, 0))) ∧ Hid (wr.ownsRow W3.heap.size 9 1 V3 q (rowT ((ts.take q).map cutS)))) (fun i _ => tn - (intOf i).toNat)
            case atStart => exact ⟨0, .slice none 0 0, by omega, by omega, rfl, Lib.hid (Only.refl _ _), HR3, Lib.hid (World.ownsRow_nil _ _ _ _)⟩
            case round =>
              obtain ⟨q, V3, hq, hq10, rfl, HOQ, HBQ, HOS⟩ := hrel
              have y0 := (HOQ.out.block w.heap.size (by have := HL3.out; have := HL4.out; omega) (by have := HL4.out; simp; omega)).trans Y3.out
              have x5 := (cell_of_row _ _ 1 _ _ _ y0).trans rfl
              have hno : ∀ b, b < b6 → b ∉ [b6] := fun b h1 h2 => by
                have : b = b6 := by simpa using h2
                omega
              have d1 := HOQ.out.cell D3.out (hno _ (by have := HGZ.out; have := HL4.out; show g < b6; omega))
              have hq6 := (Array.getElem?_eq_some_iff.1 HBQ.out).1
              by_cases hqt : q < tn ∧ q < 10
              · obtain ⟨hqt, hqt10⟩ := hqt
                obtain ⟨gt, ot, rfl, hgt, hct⟩ := HRO.out (by rw [HTN.out]; omega)
                obtain ⟨s, hs⟩ : ∃ s, ts[q]? = some s := ⟨_, List.getElem?_eq_getElem (by rw [HTN.out]; exact hqt)⟩
                have hss := HTS.out s (List.mem_of_getElem? hs)
                unfold maxLen at hss
                have e0 := HOQ.out.cell ((HBB3.out.cell (p := ⟨gt, ot + q, none⟩) hgt).trans (by have := hct q s hs 0 _ rfl; rwa [Nat.mul_one, Nat.add_zero] at this)) (hno _ (by have := HL4.out; show gt < b6; omega))
                have v6 := (cell_of_row _ _ 1 _ _ _ HBQ.out).trans rfl
                obtain ⟨s', hs'⟩ : ∃ s', s.extract 0 (min (s.size : Int) 40).toNat = s' := ⟨_, rfl⟩
                have HNQ : Hid (rowT ((ts.take (q + 1)).map cutS) = rowT ((ts.take q).map cutS) ++ [.string s']) := Lib.hid (by
                  rw [take_map hs, ← hs']; simp [rowT, cutS])
                obtain ⟨A3, c3, rfl⟩ := own_len HOS.out
                have HO := HOS
                have hT : ∀ w', Only (b6 :: bk A3) wr w' → (w'.cell? ⟨w.heap.size, 1, none⟩ = some (.slice (some ⟨g, o, none⟩) nm cm) ∧ w'.cell? ⟨g, o + k * 2 + 1, none⟩ = some (.slice (some ⟨gt, ot, none⟩) tn ct) ∧ w'.cell? ⟨gt, ot + q, none⟩ = some (.string s)) ∧ Only (b6 :: bk A3) wr w' := fun w' r => by
                  have hno2 : ∀ b, b < b6 → b ∉ b6 :: bk A3 := fun b hb e => by
                    rcases List.mem_cons.1 e with e | e
                    · omega
                    · obtain ⟨_, z, _⟩ := own_bk HO.out b e
                      have := HL3.out; omega
                  exact ⟨⟨r.cell x5 (hno2 _ HL4.out), r.cell d1 (hno2 _ (Nat.lt_trans HGZ.out HL4.out)), r.cell e0 (hno2 _ (Nat.lt_trans hgt HL4.out))⟩, r⟩
                have HT := Lib.hid hT
                have HGR : Hid (∀ (o' : Obj) (w2 : World), (wr.drew.alloc o').grownBy w2 (Value.slice A3 q c3).ownBlock → w2.heap[b6]? = some (.cells #[.string n', .slice A3 q c3] 40 (0, 0))) := Lib.hid (fun o' w2 hgrow =>
                  (hgrow.block _ (by simp; omega) (fun e => by obtain ⟨_, z, _⟩ := own_bk HO.out _ (mem_bk.2 (by rw [blk_own] at e; exact e.symm)); have := HL3.out; omega)).trans ((Below.heap_alloc _ _ _ hq6).trans HBQ.out))
                have HBL : Hid (W3.heap.size ≤ wr.heap.size) := Lib.hid HOQ.out.size
                have j0 : (0 : Int) ≤ (q : Int) := by omega
                have j1 : (q : Int) < (tn : Int) := by omega
                have j2 : (q : Int) < 10 := by omega
                have m0 : 0 ≤ min (s.size : Int) 40 := by omega
                have m1 : min (s.size : Int) 40 ≤ (s.size : Int) := by omega
                clear hs hct hT y0
                go_wp2_with fail
                refine wp_region_held_drew (S := fun w' => (w'.cell? ⟨w.heap.size, 1, none⟩ = some (.slice (some ⟨g, o, none⟩) nm cm) ∧ w'.cell? ⟨g, o + k * 2 + 1, none⟩ = some (.slice (some ⟨gt, ot, none⟩) tn ct) ∧ w'.cell? ⟨gt, ot + q, none⟩ = some (.string s)) ∧ Only (b6 :: bk A3) wr w') (by kernel_rfl) (HT.out _ (Only.refl _ _).drew) (fun hHeld => ?_)
                refine wpAnyH_take (i := 0) (oi := ?o66) (v := ?v66) ?a66 (by kernel_rfl) (by kernel_rfl) (by kernel_rfl) ?q66 (Or.inl ⟨?g66, ?y66⟩) (by assumption) ?r66; (case' a66 => (simp only [List.getElem?_toArray, List.getElem?_cons_zero]; rfl)); (case' q66 => (exact fun _ _ _ h => h)); (case' g66 => rfl); (case' y66 => (intro w hSw; (try dsimp only at hSw); go_simp; try with_reducible rfl)); (case' r66 => (try simp only [Act.put, List.setIfInBounds_toArray, List.set_cons_zero, List.set_cons_succ]))
                refine wpAnyH_take (i := 2) (oi := ?o67) (v := ?v67) ?a67 (by kernel_rfl) (by kernel_rfl) (by kernel_rfl) ?q67 (Or.inl ⟨?g67, ?y67⟩) (by assumption) ?r67; (case' a67 => (simp only [List.getElem?_toArray, List.getElem?_cons_zero, List.getElem?_cons_succ]; rfl)); (case' q67 => (exact fun _ _ _ h => h)); (case' g67 => rfl); (case' y67 => (intro w hSw; (try dsimp only at hSw); go_simp; try with_reducible rfl)); (case' r67 => (try simp only [Act.put, List.setIfInBounds_toArray, List.set_cons_zero, List.set_cons_succ]))
                refine wpAnyH_take (i := 3) (oi := ?o68) (v := ?v68) ?a68 (by kernel_rfl) (by kernel_rfl) (by kernel_rfl) ?q68 (Or.inl ⟨?g68, ?y68⟩) (by assumption) ?r68; (case' a68 => (simp only [List.getElem?_toArray, List.getElem?_cons_zero, List.getElem?_cons_succ]; rfl)); (case' q68 => (exact fun _ _ _ h => h)); (case' g68 => rfl); (case' y68 => (intro w hSw; (try dsimp only at hSw); go_simp; try with_reducible rfl)); (case' r68 => (try simp only [Act.put, List.setIfInBounds_toArray, List.set_cons_zero, List.set_cons_succ]))
                refine wpAnyH_take (i := 4) (oi := ?o69) (v := ?v69) ?a69 (by kernel_rfl) (by kernel_rfl) (by kernel_rfl) ?q69 (Or.inl ⟨?g69, ?y69⟩) (by assumption) ?r69; (case' a69 => (simp only [List.getElem?_toArray, List.getElem?_cons_zero, List.getElem?_cons_succ]; rfl)); (case' q69 => (exact fun _ _ _ h => h)); (case' g69 => rfl); (case' y69 => (intro w hSw; (try dsimp only at hSw); go_simp; try with_reducible rfl)); (case' r69 => (try simp only [Act.put, List.setIfInBounds_toArray, List.set_cons_zero, List.set_cons_succ]))
                refine wpAnyH_take (i := 5) (oi := ?o70) (v := ?v70) ?a70 (by kernel_rfl) (by kernel_rfl) (by kernel_rfl) ?q70 (Or.inl ⟨?g70, ?y70⟩) (by assumption) ?r70; (case' a70 => (simp only [List.getElem?_toArray, List.getElem?_cons_zero, List.getElem?_cons_succ]; rfl)); (case' q70 => (exact fun _ _ _ h => h)); (case' g70 => rfl); (case' y70 => (intro w hSw; (try dsimp only at hSw); go_simp; try with_reducible rfl)); (case' r70 => (try simp only [Act.put, List.setIfInBounds_toArray, List.set_cons_zero, List.set_cons_succ]))
                refine wpAnyH_take (i := 6) (oi := ?o71) (v := ?v71) ?a71 (by kernel_rfl) (by kernel_rfl) (by kernel_rfl) ?q71 (Or.inl ⟨?g71, ?y71⟩) (by assumption) ?r71; (case' a71 => (simp only [List.getElem?_toArray, List.getElem?_cons_zero, List.getElem?_cons_succ]; rfl)); (case' q71 => (exact fun _ _ _ h => h)); (case' g71 => rfl); (case' y71 => (intro w hSw; (try dsimp only at hSw); go_simp; try with_reducible rfl)); (case' r71 => (try simp only [Act.put, List.setIfInBounds_toArray, List.set_cons_zero, List.set_cons_succ]))
                refine wpAnyH_take (i := 7) (oi := ?o72) (v := ?v72) ?a72 (by kernel_rfl) (by kernel_rfl) (by kernel_rfl) ?q72 (Or.inl ⟨?g72, ?y72⟩) (by assumption) ?r72; (case' a72 => (simp only [List.getElem?_toArray, List.getElem?_cons_zero, List.getElem?_cons_succ]; rfl)); (case' q72 => (exact fun _ _ _ h => h)); (case' g72 => rfl); (case' y72 => (intro w hSw; (try dsimp only at hSw); go_simp; try with_reducible rfl)); (case' r72 => (try simp only [Act.put, List.setIfInBounds_toArray, List.set_cons_zero, List.set_cons_succ]))
                refine wpAnyH_take (i := 8) (oi := ?o73) (v := ?v73) ?a73 (by kernel_rfl) (by kernel_rfl) (by kernel_rfl) ?q73 (Or.inl ⟨?g73, ?y73⟩) (by assumption) ?r73; (case' a73 => (simp only [List.getElem?_toArray, List.getElem?_cons_zero, List.getElem?_cons_succ]; rfl)); (case' q73 => (exact fun _ _ _ h => h)); (case' g73 => rfl); (case' y73 => (intro w hSw; (try dsimp only at hSw); go_simp; try with_reducible rfl)); (case' r73 => (try simp only [Act.put, List.setIfInBounds_toArray, List.set_cons_zero, List.set_cons_succ]))
                refine wpAnyH_take (i := 9) (oi := ?o74) (v := ?v74) ?a74 (by kernel_rfl) (by kernel_rfl) (by kernel_rfl) ?q74 (Or.inl ⟨?g74, ?y74⟩) (by assumption) ?r74; (case' a74 => (simp only [List.getElem?_toArray, List.getElem?_cons_zero, List.getElem?_cons_succ]; rfl)); (case' q74 => (exact fun _ _ _ h => h)); (case' g74 => rfl); (case' y74 => (intro w hSw; (try dsimp only at hSw); go_simp; try with_reducible rfl)); (case' r74 => (try simp only [Act.put, List.setIfInBounds_toArray, List.set_cons_zero, List.set_cons_succ]))
                refine wpAnyH_take (i := 10) (oi := ?o75) (v := ?v75) ?a75 (by kernel_rfl) (by kernel_rfl) (by kernel_rfl) ?q75 (Or.inl ⟨?g75, ?y75⟩) (by assumption) ?r75; (case' a75 => (simp only [List.getElem?_toArray, List.getElem?_cons_zero, List.getElem?_cons_succ]; rfl)); (case' q75 => (exact fun _ _ _ h => h)); (case' g75 => rfl); (case' y75 => (intro w hSw; (try dsimp only at hSw); go_simp; try with_reducible rfl)); (case' r75 => (try simp only [Act.put, List.setIfInBounds_toArray, List.set_cons_zero, List.set_cons_succ]))
                refine wpAnyH_take (i := 11) (oi := ?o76) (v := ?v76) ?a76 (by kernel_rfl) (by kernel_rfl) (by kernel_rfl) ?q76 (Or.inl ⟨?g76, ?y76⟩) (by assumption) ?r76; (case' a76 => (simp only [List.getElem?_toArray, List.getElem?_cons_zero, List.getElem?_cons_succ]; rfl)); (case' q76 => (exact fun _ _ _ h => h)); (case' g76 => rfl); (case' y76 => (intro w hSw; (try dsimp only at hSw); go_simp; try with_reducible rfl)); (case' r76 => (try simp only [Act.put, List.setIfInBounds_toArray, List.set_cons_zero, List.set_cons_succ]))
                refine wpAnyH_take (i := 12) (oi := ?o77) (v := ?v77) ?a77 (by kernel_rfl) (by kernel_rfl) (by kernel_rfl) ?q77 (Or.inl ⟨?g77, ?y77⟩) (by assumption) ?r77; (case' a77 => (simp only [List.getElem?_toArray, List.getElem?_cons_zero, List.getElem?_cons_succ]; rfl)); (case' q77 => (exact fun _ _ _ h => h)); (case' g77 => rfl); (case' y77 => (intro w hSw; (try dsimp only at hSw); go_simp; try with_reducible rfl)); (case' r77 => (try simp only [Act.put, List.setIfInBounds_toArray, List.set_cons_zero, List.set_cons_succ]))
                refine wpAnyH_take (i := 13) (oi := ?o78) (v := ?v78) ?a78 (by kernel_rfl) (by kernel_rfl) (by kernel_rfl) ?q78 (Or.inl ⟨?g78, ?y78⟩) (by assumption) ?r78; (case' a78 => (simp only [List.getElem?_toArray, List.getElem?_cons_zero, List.getElem?_cons_succ]; rfl)); (case' q78 => (exact fun _ _ _ h => h)); (case' g78 => rfl); (case' y78 => (intro w hSw; (try dsimp only at hSw); go_simp; try with_reducible rfl)); (case' r78 => (try simp only [Act.put, List.setIfInBounds_toArray, List.set_cons_zero, List.set_cons_succ]))
                refine wpAnyH_take (i := 14) (oi := ?o79) (v := ?v79) ?a79 (by kernel_rfl) (by kernel_rfl) (by kernel_rfl) ?q79 (Or.inl ⟨?g79, ?y79⟩) (by assumption) ?r79; (case' a79 => (simp only [List.getElem?_toArray, List.getElem?_cons_zero, List.getElem?_cons_succ]; rfl)); (case' q79 => (exact fun _ _ _ h => h)); (case' g79 => rfl); (case' y79 => (intro w hSw; (try dsimp only at hSw); go_simp; try with_reducible rfl)); (case' r79 => (try simp only [Act.put, List.setIfInBounds_toArray, List.set_cons_zero, List.set_cons_succ]))
                refine wpAnyH_take (i := 15) (oi := ?o80) (v := ?v80) ?a80 (by kernel_rfl) (by kernel_rfl) (by kernel_rfl) ?q80 (Or.inl ⟨?g80, ?y80⟩) (by assumption) ?r80; (case' a80 => (simp only [List.getElem?_toArray, List.getElem?_cons_zero, List.getElem?_cons_succ]; rfl)); (case' q80 => (exact fun _ _ _ h => h)); (case' g80 => rfl); (case' y80 => (intro w hSw; (try dsimp only at hSw); go_simp; try with_reducible rfl)); (case' r80 => (try simp only [Act.put, List.setIfInBounds_toArray, List.set_cons_zero, List.set_cons_succ]))
                refine wpAnyH_take (i := 16) (oi := ?o81) (v := ?v81) ?a81 (by kernel_rfl) (by kernel_rfl) (by kernel_rfl) ?q81 (Or.inl ⟨?g81, ?y81⟩) (by assumption) ?r81; (case' a81 => (simp only [List.getElem?_toArray, List.getElem?_cons_zero, List.getElem?_cons_succ]; rfl)); (case' q81 => (exact fun _ _ _ h => h)); (case' g81 => rfl); (case' y81 => (intro w hSw; (try dsimp only at hSw); go_simp; try with_reducible rfl)); (case' r81 => (try simp only [Act.put, List.setIfInBounds_toArray, List.set_cons_zero, List.set_cons_succ]))
                refine wpAnyH_take (i := 17) (oi := ?o82) (v := ?v82) ?a82 (by kernel_rfl) (by kernel_rfl) (by kernel_rfl) ?q82 (Or.inl ⟨?g82, ?y82⟩) (by assumption) ?r82; (case' a82 => (simp only [List.getElem?_toArray, List.getElem?_cons_zero, List.getElem?_cons_succ]; rfl)); (case' q82 => (exact fun _ _ _ h => h)); (case' g82 => rfl); (case' y82 => (intro w hSw; (try dsimp only at hSw); go_simp; try with_reducible rfl)); (case' r82 => (try simp only [Act.put, List.setIfInBounds_toArray, List.set_cons_zero, List.set_cons_succ]))
                refine wpAnyH_take (i := 18) (oi := ?o83) (v := ?v83) ?a83 (by kernel_rfl) (by kernel_rfl) (by kernel_rfl) ?q83 (Or.inl ⟨?g83, ?y83⟩) (by assumption) ?r83; (case' a83 => (simp only [List.getElem?_toArray, List.getElem?_cons_zero, List.getElem?_cons_succ]; rfl)); (case' q83 => (exact fun _ _ _ h => h)); (case' g83 => rfl); (case' y83 => (intro w hSw; (try dsimp only at hSw); go_simp; try with_reducible rfl)); (case' r83 => (try simp only [Act.put, List.setIfInBounds_toArray, List.set_cons_zero, List.set_cons_succ]))
                refine wpAnyH_take (i := 19) (oi := ?o84) (v := ?v84) ?a84 (by kernel_rfl) (by kernel_rfl) (by kernel_rfl) ?q84 (Or.inl ⟨?g84, ?y84⟩) (by assumption) ?r84; (case' a84 => (simp only [List.getElem?_toArray, List.getElem?_cons_zero, List.getElem?_cons_succ]; rfl)); (case' q84 => (exact fun _ _ _ h => h)); (case' g84 => rfl); (case' y84 => (intro w hSw; (try dsimp only at hSw); go_simp; try with_reducible rfl)); (case' r84 => (try simp only [Act.put, List.setIfInBounds_toArray, List.set_cons_zero, List.set_cons_succ]))
                refine wpAnyH_take (i := 20) (oi := ?o85) (v := ?v85) ?a85 (by kernel_rfl) (by kernel_rfl) (by kernel_rfl) ?q85 (Or.inl ⟨?g85, ?y85⟩) (by assumption) ?r85; (case' a85 => (simp only [List.getElem?_toArray, List.getElem?_cons_zero, List.getElem?_cons_succ]; rfl)); (case' q85 => (exact fun _ _ _ h => h)); (case' g85 => rfl); (case' y85 => (intro w hSw; (try dsimp only at hSw); go_simp; try with_reducible rfl)); (case' r85 => (try simp only [Act.put, List.setIfInBounds_toArray, List.set_cons_zero, List.set_cons_succ]))
                refine wpAnyH_take (i := 21) (oi := ?o86) (v := ?v86) ?a86 (by kernel_rfl) (by kernel_rfl) (by kernel_rfl) ?q86 (Or.inl ⟨?g86, ?y86⟩) (by assumption) ?r86; (case' a86 => (simp only [List.getElem?_toArray, List.getElem?_cons_zero, List.getElem?_cons_succ]; rfl)); (case' q86 => (exact fun _ _ _ h => h)); (case' g86 => rfl); (case' y86 => (intro w hSw; (try dsimp only at hSw); go_simp; try with_reducible rfl)); (case' r86 => (try simp only [Act.put, List.setIfInBounds_toArray, List.set_cons_zero, List.set_cons_succ]))
                refine wpAnyH_take (i := 22) (oi := ?o87) (v := ?v87) ?a87 (by kernel_rfl) (by kernel_rfl) (by kernel_rfl) ?q87 (Or.inl ⟨?g87, ?y87⟩) (by assumption) ?r87; (case' a87 => (simp only [List.getElem?_toArray, List.getElem?_cons_zero, List.getElem?_cons_succ]; rfl)); (case' q87 => (exact fun _ _ _ h => h)); (case' g87 => rfl); (case' y87 => (intro w hSw; (try dsimp only at hSw); go_simp; try with_reducible rfl)); (case' r87 => (try simp only [Act.put, List.setIfInBounds_toArray, List.set_cons_zero, List.set_cons_succ]))
                refine wpAnyH_ready (rs := [1, 23]) (by kernel_rfl) (by simp) ?_
                refine AllReadyH.cons (o := ?o88) ?a88 (fun K hK => ?s88) ?m88; (case' a88 => (simp only [List.getElem?_toArray, List.getElem?_cons_zero, List.getElem?_cons_succ]; rfl))
                case s88 =>
                  go_simp
                  refine hK.out _ _ (hHeld) (fun hHeld => ?_)
                  clear hK K
                  (try simp only [Act.put, List.setIfInBounds_toArray, List.set_cons_zero, List.set_cons_succ])
                  refine wpAnyH_ready (rs := [23]) (by kernel_rfl) (by simp) ?_
                  refine AllReadyH.cons (o := ?o89) ?a89 (fun K hK => ?s89) ?m89; (case' a89 => (simp only [List.getElem?_toArray, List.getElem?_cons_zero, List.getElem?_cons_succ]; rfl))
                  case s89 =>
                    go_simp
                    refine hK.out _ _ (HT.out _ (hHeld.2.alloc _)) (fun hHeld => ?_)
                    clear hK K
                    (try simp only [Act.put, List.setIfInBounds_toArray, List.set_cons_zero, List.set_cons_succ])
                    refine wpAnyH_ready (rs := [24]) (by kernel_rfl) (by simp) ?_
                    refine AllReadyH.cons (o := ?o90) ?a90 (fun K hK => ?s90) ?m90; (case' a90 => (simp only [List.getElem?_toArray, List.getElem?_cons_zero, List.getElem?_cons_succ]; rfl))
                    case s90 =>
                      refine step_append_lies _ (by rfl) _ _ _ (by rfl) W3.heap.size 9 i1 _ 1 16 Try.underlying38 hi1 hy0 hy1 hy2 rfl (by omega) (.slice A3 q c3) q (rowT ((ts.take q).map cutS)) (by rfl) ((own_below HO.out (Below.refl _ _).drew).alloc _) ⟨wr.heap.size, 0, none⟩ 1 1 [.string s'] (by rfl) (by rfl) (World.news_of_block (cs := #[.string s']) (t := 9) (fr := (0, 0)) (heap_alloc_new wr.drew _)) (by simp [Value.oneCell']) (by omega) (by unfold maxLen; omega) (by omega) (by have := HBL.out; simp; omega) (wr.heap.size + 1) (by simp) ?_
                      intro gg cc w2 hown2 hgrow hat hltg
                      have hrow := HGR.out _ _ hgrow
                      have x2 := (cell_of_row _ _ 1 _ _ _ hrow).trans rfl
                      have y2 := frozen_of_row _ _ 1 _ _ hrow
                      have HROW := Lib.hid hrow
                      clear hrow
                      refine hK.out _ _ (HT.out _ (only_grown hgrow)) (fun hHeld => ?_)
                      clear hK K
                      (try simp only [Act.put, List.setIfInBounds_toArray, List.set_cons_zero, List.set_cons_succ])
                      refine wpAnyH_take (i := 25) (oi := ?o91) (v := ?v91) ?a91 (by kernel_rfl) (by kernel_rfl) (by kernel_rfl) ?q91 (Or.inl ⟨?g91, ?y91⟩) (by assumption) ?r91; (case' a91 => (simp only [List.getElem?_toArray, List.getElem?_cons_zero, List.getElem?_cons_succ]; rfl)); (case' q91 => (exact fun _ _ _ h => h)); (case' g91 => rfl); (case' y91 => (intro w hSw; (try dsimp only at hSw); go_simp; try with_reducible rfl)); (case' r91 => (try simp only [Act.put, List.setIfInBounds_toArray, List.set_cons_zero, List.set_cons_succ]))
                      refine wpAnyH_ready (rs := [26]) (by kernel_rfl) (by simp) ?_
                      refine AllReadyH.cons (o := ?o92) ?a92 (fun K hK => ?s92) ?m92; (case' a92 => (simp only [List.getElem?_toArray, List.getElem?_cons_zero, List.getElem?_cons_succ]; rfl))
                      case s92 =>
                        go_simp
                        refine hK.out _ _ (HT.out _ (hHeld.2.setCell (.inl (by simp)) _)) (fun hHeld => ?_)
                        clear hK K
                        (try simp only [Act.put, List.setIfInBounds_toArray, List.set_cons_zero, List.set_cons_succ])
                        refine wpAnyH_done (by kernel_rfl) ?_ _
                        have HH := Lib.hid hHeld.2
                        clear hHeld
                        go_wp2_with fail
                        go_roundw
                        case rel =>
                          refine ⟨q + 1, _, by omega, by omega, by go_num, Lib.hid ?_, Lib.hid (heap_setCell_same _ _ 1 _ _ _ HROW.out), Lib.hid ?_⟩
                          · exact HOQ.out.trans HH.out (fun j hj => by
                              rcases List.mem_cons.1 hj with e | e
                              · exact .inl (by simp [e])
                              · exact .inr (by obtain ⟨_, z, _⟩ := own_bk HO.out j e; exact z))
                          · rw [HNQ.out]; exact own_at hown2 (fun j e => Below.heap_setCell _ _ _ _ (fun e' => by have h1 := (hown2.lt j e).1; have h2 := HL3.out; have e2 : j = b6 := e'; omega))
                        case measure => simp [intOf]; omega
                      exact AllReadyH.nil
                    exact AllReadyH.nil
                  exact AllReadyH.nil
                refine AllReadyH.cons (o := ?o93) ?a93 (fun K hK => ?s93) ?m93; (case' a93 => (simp only [List.getElem?_toArray, List.getElem?_cons_zero, List.getElem?_cons_succ]; rfl))
                case s93 =>
                  go_simp
                  refine hK.out _ _ (HT.out _ (hHeld.2.alloc _)) (fun hHeld => ?_)
                  clear hK K
                  (try simp only [Act.put, List.setIfInBounds_toArray, List.set_cons_zero, List.set_cons_succ])
                  refine wpAnyH_ready (rs := [1]) (by kernel_rfl) (by simp) ?_
                  refine AllReadyH.cons (o := ?o94) ?a94 (fun K hK => ?s94) ?m94; (case' a94 => (simp only [List.getElem?_toArray, List.getElem?_cons_zero, List.getElem?_cons_succ]; rfl))
                  case s94 =>
                    go_simp
                    refine hK.out _ _ (hHeld) (fun hHeld => ?_)
                    clear hK K
                    (try simp only [Act.put, List.setIfInBounds_toArray, List.set_cons_zero, List.set_cons_succ])
                    refine wpAnyH_ready (rs := [24]) (by kernel_rfl) (by simp) ?_
                    refine AllReadyH.cons (o := ?o95) ?a95 (fun K hK => ?s95) ?m95; (case' a95 => (simp only [List.getElem?_toArray, List.getElem?_cons_zero, List.getElem?_cons_succ]; rfl))
                    case s95 =>
                      refine step_append_lies _ (by rfl) _ _ _ (by rfl) W3.heap.size 9 i1 _ 1 16 Try.underlying38 hi1 hy0 hy1 hy2 rfl (by omega) (.slice A3 q c3) q (rowT ((ts.take q).map cutS)) (by rfl) ((own_below HO.out (Below.refl _ _).drew).alloc _) ⟨wr.heap.size, 0, none⟩ 1 1 [.string s'] (by rfl) (by rfl) (World.news_of_block (cs := #[.string s']) (t := 9) (fr := (0, 0)) (heap_alloc_new wr.drew _)) (by simp [Value.oneCell']) (by omega) (by unfold maxLen; omega) (by omega) (by have := HBL.out; simp; omega) (wr.heap.size + 1) (by simp) ?_
                      intro gg cc w2 hown2 hgrow hat hltg
                      have hrow := HGR.out _ _ hgrow
                      have x2 := (cell_of_row _ _ 1 _ _ _ hrow).trans rfl
                      have y2 := frozen_of_row _ _ 1 _ _ hrow
                      have HROW := Lib.hid hrow
                      clear hrow
                      refine hK.out _ _ (HT.out _ (only_grown hgrow)) (fun hHeld => ?_)
                      clear hK K
                      (try simp only [Act.put, List.setIfInBounds_toArray, List.set_cons_zero, List.set_cons_succ])
                      refine wpAnyH_take (i := 25) (oi := ?o96) (v := ?v96) ?a96 (by kernel_rfl) (by kernel_rfl) (by kernel_rfl) ?q96 (Or.inl ⟨?g96, ?y96⟩) (by assumption) ?r96; (case' a96 => (simp only [List.getElem?_toArray, List.getElem?_cons_zero, List.getElem?_cons_succ]; rfl)); (case' q96 => (exact fun _ _ _ h => h)); (case' g96 => rfl); (case' y96 => (intro w hSw; (try dsimp only at hSw); go_simp; try with_reducible rfl)); (case' r96 => (try simp only [Act.put, List.setIfInBounds_toArray, List.set_cons_zero, List.set_cons_succ]))
                      refine wpAnyH_ready (rs := [26]) (by kernel_rfl) (by simp) ?_
                      refine AllReadyH.cons (o := ?o97) ?a97 (fun K hK => ?s97) ?m97; (case' a97 => (simp only [List.getElem?_toArray, List.getElem?_cons_zero, List.getElem?_cons_succ]; rfl))
                      case s97 =>
                        go_simp
                        refine hK.out _ _ (HT.out _ (hHeld.2.setCell (.inl (by simp)) _)) (fun hHeld => ?_)
                        clear hK K
                        (try simp only [Act.put, List.setIfInBounds_toArray, List.set_cons_zero, List.set_cons_succ])
                        refine wpAnyH_done (by kernel_rfl) ?_ _
                        have HH := Lib.hid hHeld.2
                        clear hHeld
                        go_wp2_with fail
                        go_roundw
                        case rel =>
                          refine ⟨q + 1, _, by omega, by omega, by go_num, Lib.hid ?_, Lib.hid (heap_setCell_same _ _ 1 _ _ _ HROW.out), Lib.hid ?_⟩
                          · exact HOQ.out.trans HH.out (fun j hj => by
                              rcases List.mem_cons.1 hj with e | e
                              · exact .inl (by simp [e])
                              · exact .inr (by obtain ⟨_, z, _⟩ := own_bk HO.out j e; exact z))
                          · rw [HNQ.out]; exact own_at hown2 (fun j e => Below.heap_setCell _ _ _ _ (fun e' => by have h1 := (hown2.lt j e).1; have h2 := HL3.out; have e2 : j = b6 := e'; omega))
                        case measure => simp [intOf]; omega
                      exact AllReadyH.nil
                    exact AllReadyH.nil
                  exact AllReadyH.nil
                exact AllReadyH.nil
              · obtain ⟨hq1, hq2⟩ := cut10 (f := cutS) HTN.out hq hq10 hqt rfl
                have hos := HOS.out
                obtain ⟨A3, c3, rfl⟩ := own_len hos
                have HOS' := Lib.hid hos
                obtain ⟨T, hT⟩ : ∃ T, (ts.take 10).map cutS = T := ⟨_, rfl⟩
                rw [hT] at hq1 hq2
                have HTT := Lib.hid hq1
                have HTL := Lib.hid hq2
                have HNX' := HNX
                rw [hT] at HNX'
                have hqd : tn ≤ q ∨ (q < tn ∧ 10 ≤ q) := by omega
                have hrb : wr.heap[w.heap.size + 1 + 1]? = some (.cells #[.slice A' L.length c', V] 25 (0, 0)) := by
                  have h1 : w.heap.size + 1 + 1 < b6 := by
                    obtain ⟨wx, hx, rfl⟩ := HWR.out
                    rw [← hx]; exact HSZ.out
                  refine ((HOQ.out.block _ (by have := HL3.out; omega) (by simp; omega)).trans (HB3.out.block _ (by obtain ⟨wx, hx, rfl⟩ := HWR.out; omega))).trans HBXW.out
                obtain ⟨A2, c2, hV⟩ := HMR.out.len
                subst hV
                rw [hsl] at hrb HMR
                have x6 := (cell_of_row _ _ 1 _ _ _ hrb).trans rfl
                have HRB := Lib.hid hrb
                have v0 := (cell_of_row _ _ 0 _ _ _ HBQ.out).trans rfl
                have v1 := (cell_of_row _ _ 1 _ _ _ HBQ.out).trans rfl
                have HM5 : Hid (MRow wr W2.heap.size (.slice A2 k c2) sl) := Lib.hid (HMR.out.at (fun j cs T' fr hj hT' => by
                  obtain ⟨wx, hx, rfl⟩ := HWR.out
                  have hj1 := (Array.getElem?_eq_some_iff.1 hj).1
                  exact ((HOQ.out.block j (by have := HL3.out; omega) (by simp; omega)).trans (HB3.out.block j (by omega))).trans hj))
                have HM51 : Hid (wr.ownsRow W2.heap.size 40 2 (.slice A2 k c2) k (rowE sl)) := Lib.hid (by have := HM5.out.1; rwa [hsl] at this)
                have HWZ : Hid (W2.heap.size ≤ b6) := Lib.hid (by obtain ⟨wx, hx, rfl⟩ := HWR.out; rw [← hx]; exact HON.out.size)
                have HW3 : Hid (W2.heap.size ≤ wr.heap.size) := Lib.hid (by have h1 := HWZ.out; have h2 := HL3.out; have h3 := HOQ.out.size; omega)
                have HO36 : Hid (Only [w.heap.size + 1 + 1] W2 wr) := Lib.hid (by
                  obtain ⟨wx, hx, rfl⟩ := HWR.out
                  exact HON.out.trans ((Only.ofBelow (S := [b6]) (by rw [hx]; exact HB3.out)).trans HOQ.out (fun j hj => .inl hj)) (fun j hj => .inr (by have e : j = b6 := (by simpa using hj); have h1 := HWZ.out; omega)))
                clear y0 hrb hT hq1 hq2 hq hq10 hqt hos hno hi1 hy0 hy1 hy2
                rcases hqd with hqd | ⟨hqd1, hqd2⟩
                all_goals
                  go_wp2_with (at_builtin; refine wpList_append_lies _ rfl _ _ 23 (by rfl) W2.heap.size 40 i0 _ 2 40 Try.underlying23 hi0 hz0 hz1 hz2 rfl (by decide) (.slice A2 k c2) k (rowE sl) (by rfl) (HM51.out.alloc _) ⟨wr.heap.size, 0, none⟩ 1 1 [.string n', .slice A3 q c3] (by rfl) (by rfl) (World.news_of_block (cs := #[.string n', .slice A3 q c3]) (t := 40) (fr := (0, 0)) (heap_alloc_new wr _)) (by simp [Value.oneCell']) (by decide) (by unfold maxLen; omega) (by omega) (by have := HW3.out; simp; omega) (wr.heap.size + 1) (by simp) ?_; intro g5 c5 w5 hown5 hgrow5 hat5 hlt5; have hr5 : w5.heap[w.heap.size + 1 + 1]? = some (.cells #[.slice A' L.length c', .slice A2 k c2] 25 (0, 0)) := (hgrow5.block _ (by have := XS'.out; have := HW3.out; simp; omega) (fun e => by obtain ⟨_, z, _⟩ := own_bk HM5.out.1 _ (mem_bk.2 (by rw [blk_own] at e; exact e.symm)); have := XS'.out; omega)).trans ((Below.heap_alloc _ _ _ (by have := XS'.out; have := HW3.out; omega)).trans HRB.out); have e5 := (cell_of_row _ _ 1 _ _ _ hr5).trans rfl; have f5 := frozen_of_row _ _ 1 _ _ hr5; have HR5 := Lib.hid hr5; have HO5 := Lib.hid hown5; have HG5 := Lib.hid hgrow5; clear hr5 hown5 hgrow5 hat5 hlt5)
                  go_roundw
                  case rel =>
                    refine ⟨k + 1, _, sl ++ [⟨⟨n', T⟩, A3, c3⟩], by omega, by omega, by go_num, by rw [List.length_append, hsl]; rfl, Lib.hid ?_, Lib.hid ?_, Lib.hid (heap_setCell_same _ _ 1 _ _ _ HR5.out), Lib.hid ?_⟩
                    · rw [List.map_append, HSL.out, HNX'.out]; rfl
                    · exact ((HO36.out.alloc _).grown HG5.out (fun j e => .inr (by obtain ⟨_, z, _⟩ := own_bk HM5.out.1 j (mem_bk.2 (by rw [blk_own] at e; exact e)); exact z))).setCell (.inl (by simp)) _
                    · have hos2 := HOS'.out
                      rw [HTT.out] at hos2
                      exact HM5.out.push (ts := T) hos2 (by have h1 := HWZ.out; have h2 := HL3.out; omega) HTL.out HO5.out HG5.out XS'.out hsl
                  case measure => simp [intOf]; omega
          · have hln := cut10 hm.out hk hk10 hlt HM.out
            obtain ⟨hm1, hm2⟩ := hln
            subst hm2
            have y1 := (HON.out.block (w.heap.size + 1) (by have := XS'.out; omega) (by simp)).trans X1'.out
            obtain ⟨A2, c2, hV⟩ := HMR.out.len
            subst hV
            rw [hsl] at HBX HMR
            have p := HBX.out
            have z0 := (cell_of_row _ _ 0 _ _ _ p).trans rfl
            have z1 := (cell_of_row _ _ 1 _ _ _ p).trans rfl
            have q0 := frozen_of_row _ _ 0 _ _ y1
            have q1 := frozen_of_row _ _ 1 _ _ y1
            have c0 := (cell_of_row _ _ 0 _ _ _ y1).trans rfl
            have c1 := (cell_of_row _ _ 1 _ _ _ y1).trans rfl
            have RZ := Lib.hid y1
            have HFB := Lib.hid hbb
            have hmap : sl.map (·.m) = M := HSL.out.trans hm1
            have HMAP := Lib.hid hmap
            have HZW : Hid (W2.heap.size ≤ wr.heap.size) := Lib.hid HON.out.size
            have HOVW : Hid (wr.ownsRow W1.heap.size 44 2 (.slice A' L.length c') L.length (rowP L)) := Lib.hid (own_at HOV'.out (fun j e => HON.out.block j (HOV'.out.lt j e).2 (fun e2 => by
              have h1 := (HOV'.out.lt j e).1
              have e3 : j = w.heap.size + 1 + 1 := by simpa using e2
              have := XS.out; omega)))
            have hdd : nm ≤ M.length ∨ (M.length < nm ∧ 10 ≤ M.length) := by omega
            clear y1 p hbb y0 hk hk10 hlt hm1 hmap hsz
            rcases hdd with hdd | ⟨hdd1, hdd2⟩
            all_goals
              go_wp2_with fail
              refine bodyPost_ret (v := .agg #[.slice A' L.length c', .slice A2 M.length c2]) (results_cell_row (p := 2) (ty := 25) Try.results4 _ _ (w.heap.size + 1) 25 #[.slice A' L.length c', .slice A2 M.length c2] (0, 0) _ rfl (set2 RZ.out) Try.underlying25 rfl (by kernel_rfl)) rfl ?_
              exact cut_end HOVW HMR HMAP HFB (by have := XS.out; omega) (by have := XS'.out; omega) HL10.out HM10.out
end Go.Proofs.Ythongbobopampaa.L10
