/-
  Where members, and lists of partitions, lie in memory.
-/
import Derived.Test.YthongbobopampaaAsMath
import Derived.Test.YthongbobopampaaTpMem
namespace Go.Proofs.Ythongbobopampaa.L10
open Go.RowKit
open L3 L4 L9

/-- a slice that reads as members -/
def ReadsM (w : World) (B : Nat) (A : Option Addr) (l : List Mb) : Prop :=
  0 < l.length → ∃ g, A = some ⟨g, 0, none⟩ ∧ g < B ∧ ∀ i m, l[i]? = some m → w.cell? ⟨g, i * 2, none⟩ = some (.string m.name) ∧ ∃ At ct, w.cell? ⟨g, i * 2 + 1, none⟩ = some (.slice At m.ts.length ct) ∧ ReadsT w B At m.ts
theorem ReadsM.keep {w w' : World} {B B' : Nat} {A : Option Addr} {l : List Mb} (h : ReadsM w B A l) (k : ∀ (a : Addr) (v : Value), w.cell? a = some v → a.block < B → w'.cell? a = some v) (hB : B ≤ B') : ReadsM w' B' A l := fun h0 => by
  obtain ⟨g, e, hg, hc⟩ := h h0
  refine ⟨g, e, by omega, fun i m hm => ?_⟩
  obtain ⟨c0, At, ct, c1, ht⟩ := hc i m hm
  refine ⟨k _ _ c0 hg, At, ct, k _ _ c1 hg, fun h1 => ?_⟩
  obtain ⟨g', e', hg', hc'⟩ := ht h1
  exact ⟨g', e', by omega, fun j s hs => k _ _ (hc' j s hs) hg'⟩
theorem ReadsM.below {w w' : World} {B : Nat} {A : Option Addr} {l : List Mb} (h : ReadsM w B A l) (hb : Below B w w') : ReadsM w' B A l := h.keep (fun _ _ q hq => (hb.cell hq).trans q) (Nat.le_refl _)
theorem ReadsM.mono {w : World} {B B' : Nat} {A : Option Addr} {l : List Mb} (h : ReadsM w B A l) (hB : B ≤ B') : ReadsM w B' A l := h.keep (fun _ _ q _ => q) hB
/-- names and topics are no longer than texts may be -/
def Sized (N : Nat) (ms : List Mb) : Prop := ∀ m ∈ ms, m.name.size ≤ N ∧ m.ts.length ≤ maxLen ∧ ∀ s ∈ m.ts, s.size ≤ N

/-- a list of partitions where it lies -/
structure Sl where
  A : Option Addr
  c : Nat
  x : List Pt
def Sl.v (s : Sl) : Value := .slice s.A s.x.length s.c
/-- lists of partitions of one's own -/
structure Lists (w : World) (B : Nat) (v : Value) (l : List Sl) : Prop where
  out : w.ownsRow B 36 1 v l.length (l.map Sl.v)
  inn : ∀ s ∈ l, w.ownsRow B 27 2 s.v s.x.length (rowP s.x)
  apart : l.Pairwise (fun a b => ∀ k ∈ bk a.A, k ∉ bk b.A)
theorem vs_one (l : List Sl) : ∀ v ∈ l.map Sl.v, v.oneCell' = true := fun v hv => by
  obtain ⟨s, _, rfl⟩ := List.mem_map.1 hv
  rfl
theorem own_bk' {w : World} {base n size : Nat} {E : TypeId} {v : Value} {xs : List Value} (h : w.ownsRow base E size v n xs) {k : Nat} (hk : v.ownBlock = some k) : ∃ cs, base ≤ k ∧ k < w.heap.size ∧ w.heap[k]? = some (.cells cs E (0, 0)) := by
  obtain ⟨A, c, rfl⟩ := own_len h
  rw [blk_own] at hk
  obtain ⟨cs, h1, h2⟩ := own_bk h k (mem_bk.2 hk)
  exact ⟨cs, h1, (Array.getElem?_eq_some_iff.1 h2).1, h2⟩
theorem sl_own (s : Sl) : s.v.ownBlock = s.A.map (·.block) := by unfold Sl.v; exact blk_own
/-- rows of lists, and of partitions, stay -/
def KL (w w' : World) : Prop := ∀ (j : Nat) cs (T : TypeId) fr, w.heap[j]? = some (.cells cs T fr) → (T = 36 ∨ T = 27) → w'.heap[j]? = some (.cells cs T fr)
theorem KL.below {w w' : World} (b : Below w.heap.size w w') : KL w w' := fun j _ _ _ q _ => (b.block j (Array.getElem?_eq_some_iff.1 q).1).trans q
theorem KL.trans {w w1 w2 : World} (h : KL w w1) (h' : KL w1 w2) : KL w w2 := fun j cs T fr q q' => h' j cs T fr (h j cs T fr q q') q'
theorem Lists.kl {w w' : World} {B : Nat} {v : Value} {l : List Sl} (h : Lists w B v l) (k : KL w w') : Lists w' B v l :=
  ⟨own_at h.out (fun b hb => by obtain ⟨cs, _, _, q⟩ := own_bk' h.out hb; rw [q]; exact k _ _ _ _ q (.inl rfl)), fun s hs => own_at (h.inn s hs) (fun b hb => by obtain ⟨cs, _, _, q⟩ := own_bk' (h.inn s hs) hb; rw [q]; exact k _ _ _ _ q (.inr rfl)), h.apart⟩
theorem Lists.below {w w' : World} {B : Nat} {v : Value} {l : List Sl} (h : Lists w B v l) (b : Below w.heap.size w w') : Lists w' B v l := h.kl (KL.below b)
theorem Lists.base {w : World} {B B' : Nat} {v : Value} {l : List Sl} (h : Lists w B v l) (hB : B' ≤ B) : Lists w B' v l := ⟨own_base h.out hB, fun s hs => own_base (h.inn s hs) hB, h.apart⟩
/-- a slice that reads as lists of partitions, none of which lies below -/
def ReadsL (w : World) (lo B : Nat) (A : Option Addr) (L : List (List Pt)) : Prop :=
  0 < L.length → ∃ g, A = some ⟨g, 0, none⟩ ∧ lo ≤ g ∧ g < B ∧ ∀ i x, L[i]? = some x → ∃ Ai ci, w.cell? ⟨g, i, none⟩ = some (.slice Ai x.length ci) ∧ ReadsP w B Ai x ∧ ∀ k ∈ bk Ai, lo ≤ k ∧ k ≠ g
theorem ReadsL.keep {w w' : World} {lo lo' B B' : Nat} {A : Option Addr} {L : List (List Pt)} (h : ReadsL w lo B A L) (k : ∀ (a : Addr) (v : Value), w.cell? a = some v → a.block < B → w'.cell? a = some v) (hB : B ≤ B') (hl : lo' ≤ lo) : ReadsL w' lo' B' A L := fun h0 => by
  obtain ⟨g, e, hl0, hg, hc⟩ := h h0
  refine ⟨g, e, by omega, by omega, fun i m hm => ?_⟩
  obtain ⟨At, ct, c1, ht, hb⟩ := hc i m hm
  refine ⟨At, ct, k _ _ c1 hg, fun h1 => ?_, fun j hj => ⟨by have := (hb j hj).1; omega, (hb j hj).2⟩⟩
  obtain ⟨g', e', hg', hc'⟩ := ht h1
  exact ⟨g', e', by omega, fun j s hs => ⟨k _ _ (hc' j s hs).1 hg', k _ _ (hc' j s hs).2 hg'⟩⟩
theorem ReadsL.below {w w' : World} {lo B : Nat} {A : Option Addr} {L : List (List Pt)} (h : ReadsL w lo B A L) (hb : Below B w w') : ReadsL w' lo B A L := h.keep (fun _ _ q hq => (hb.cell hq).trans q) (Nat.le_refl _) (Nat.le_refl _)
theorem ReadsL.mono {w : World} {lo B B' : Nat} {A : Option Addr} {L : List (List Pt)} (h : ReadsL w lo B A L) (hB : B ≤ B') : ReadsL w lo B' A L := h.keep (fun _ _ q _ => q) hB (Nat.le_refl _)
theorem Lists.reads {w : World} {B n c : Nat} {A : Option Addr} {l : List Sl} {L : List (List Pt)} (h : Lists w B (.slice A n c) l) (e : l.map (·.x) = L) : ReadsL w B w.heap.size A L := fun h0 => by
  subst e
  rw [List.length_map] at h0
  rcases h.out.2 with ⟨_, q⟩ | ⟨g, cap, cur, q, h1, hh, _⟩
  · omega
  · injection q with q1; subst q1
    refine ⟨g, rfl, h1, (Array.getElem?_eq_some_iff.1 hh).1, fun i x hx => ?_⟩
    rw [List.getElem?_map] at hx
    obtain ⟨s, hs, rfl⟩ := Option.map_eq_some_iff.1 hx
    have c := h.out.cells (g := g) rfl i s.v (by rw [List.getElem?_map, hs]; rfl)
    rw [Addr.add_lit, Nat.zero_add] at c
    have hi := h.inn s (List.mem_of_getElem? hs)
    refine ⟨s.A, s.c, c, own_reads hi rfl (own_lt hi), fun k hk => ?_⟩
    obtain ⟨cs, h2, h3⟩ := own_bk hi k hk
    refine ⟨h2, fun e => ?_⟩
    rw [e, hh] at h3
    injection h3 with h3; injection h3 with _ h3
    exact absurd h3 (by decide)
/-- a list's cell -/
theorem Lists.cell {w : World} {B g n c k : Nat} {l : List Sl} {s : Sl} (h : Lists w B (.slice (some ⟨g, 0, none⟩) n c) l) (hs : l[k]? = some s) : w.cell? ⟨g, k, none⟩ = some s.v := by
  have c := h.out.cells (g := g) rfl k s.v (by rw [List.getElem?_map, hs]; rfl)
  rwa [Addr.add_lit, Nat.zero_add] at c
theorem own_setc {w : World} {base g i n m cap : Nat} {T : TypeId} {xs : List Value} {u : Value} (h : w.ownsRow base T 1 (.slice (some ⟨g, 0, none⟩) n cap) m xs) : (w.setCell ⟨g, i, none⟩ u).ownsRow base T 1 (.slice (some ⟨g, 0, none⟩) n cap) m (xs.set i u) := by
  refine ⟨by simpa using h.1, ?_⟩
  rcases h.2 with ⟨e, _⟩ | ⟨k', cap', cur, e, h1, hh, hc, hm, hs, ht⟩
  · cases e
  · injection e with e1 e2 e3; injection e1 with e1; injection e1 with e1 _; subst e1; subst e2; subst e3
    refine .inr ⟨g, cap, cur.setIfInBounds i u, rfl, h1, heap_setCell_same _ _ _ _ _ _ hh, hc, hm, by simpa using hs, ?_⟩
    rw [Array.toList_setIfInBounds, List.take_set, ht]
/-- a block of lists is none of partitions -/
theorem Lists.ne {w : World} {B g n c : Nat} {l : List Sl} {s : Sl} (h : Lists w B (.slice (some ⟨g, 0, none⟩) n c) l) (hs : s ∈ l) : ∀ k, s.v.ownBlock = some k → k ≠ g := fun k hk e => by
  obtain ⟨cs, _, _, q⟩ := own_bk' (h.inn s hs) hk
  obtain ⟨cs', _, _, q'⟩ := own_bk' h.out (k := g) rfl
  rw [e, q'] at q
  injection q with q; injection q with _ q
  exact absurd q (by decide)
/-- one more partition behind a list -/
theorem Lists.put {w w1 : World} {B g n c k g' c' : Nat} {l : List Sl} {s : Sl} {y : Pt} (h : Lists w B (.slice (some ⟨g, 0, none⟩) n c) l) (hs : l[k]? = some s)
    (ho : w1.ownsRow B 27 2 (.slice (some ⟨g', 0, none⟩) (s.x.length + 1) c') (s.x.length + 1) (rowP (s.x ++ [y]))) (hg : w.grownBy w1 s.v.ownBlock) (hn : s.v.ownBlock = some g' ∨ w.heap.size ≤ g') :
    Lists (w1.setCell ⟨g, k, none⟩ (.slice (some ⟨g', 0, none⟩) (s.x.length + 1) c')) B (.slice (some ⟨g, 0, none⟩) n c) (l.set k ⟨some ⟨g', 0, none⟩, c', s.x ++ [y]⟩) := by
  have hk := (List.getElem?_eq_some_iff.1 hs).1
  have hsm := List.mem_of_getElem? hs
  obtain ⟨cs0, _, hgl, hg0⟩ := own_bk' h.out (k := g) rfl
  have hg1 : w1.heap[g]? = w.heap[g]? := hg.block g hgl (fun e => h.ne hsm g e.symm rfl)
  have hne : g' ≠ g := fun e => by
    obtain ⟨cs', _, _, q⟩ := own_bk' ho (k := g') rfl
    rw [e, hg1, hg0] at q
    injection q with q; injection q with _ q
    exact absurd q (by decide)
  have stay : ∀ (t : Sl), t ∈ l → (∀ j ∈ bk t.A, j ∉ bk s.A) → ∀ b, t.v.ownBlock = some b → (w1.setCell ⟨g, k, none⟩ (.slice (some ⟨g', 0, none⟩) (s.x.length + 1) c')).heap[b]? = w.heap[b]? := fun t ht ha b hb => by
    obtain ⟨_, _, hbl, _⟩ := own_bk' (h.inn t ht) hb
    rw [Below.heap_setCell _ _ _ _ (fun e => h.ne ht b hb e)]
    exact hg.block b hbl (fun e => ha b (mem_bk.2 (by rw [sl_own] at hb; exact hb)) (mem_bk.2 (by rw [sl_own] at e; exact e.symm)))
  have hap := List.pairwise_iff_getElem.1 h.apart
  have apart' : ∀ i (hi : i < l.length), i ≠ k → ∀ j ∈ bk l[i].A, j ∉ bk s.A := fun i hi hik => by
    have e : l[k] = s := (List.getElem?_eq_some_iff.1 hs).2
    rcases Nat.lt_or_ge i k with q | q
    · rw [← e]; exact hap i k hi hk q
    · have := hap k i hk hi (by omega)
      rw [e] at this
      exact fun j hj hj' => this j hj' hj
  have other : ∀ i (hi : i < l.length), i ≠ k → g' ∉ bk l[i].A := fun i hi hik hg' => by
    rcases hn with q | q
    · rw [sl_own] at q
      exact apart' i hi hik g' hg' (mem_bk.2 q)
    · obtain ⟨_, _, hlt, _⟩ := own_bk' (h.inn _ (List.getElem_mem hi)) (k := g') (by rw [sl_own]; exact mem_bk.1 hg')
      omega
  refine ⟨?_, fun t ht => ?_, ?_⟩
  · have q1 : w1.ownsRow B 36 1 (.slice (some ⟨g, 0, none⟩) n c) l.length (l.map Sl.v) := own_at h.out (fun b hb => by
      have e : b = g := by injection hb with hb; exact hb.symm
      rw [e]; exact hg1)
    have := own_setc (i := k) (u := .slice (some ⟨g', 0, none⟩) (s.x.length + 1) c') q1
    rw [List.length_set, List.map_set]
    have hv : Sl.v ⟨some ⟨g', 0, none⟩, c', s.x ++ [y]⟩ = .slice (some ⟨g', 0, none⟩) (s.x.length + 1) c' := by simp [Sl.v]
    rw [hv]
    exact this
  · rcases List.mem_iff_getElem.1 ht with ⟨i, hi, rfl⟩
    rw [List.length_set] at hi
    by_cases hik : i = k
    · subst hik
      rw [List.getElem_set_self]
      have hl : (s.x ++ [y]).length = s.x.length + 1 := by simp
      show World.ownsRow _ B _ 2 (.slice _ (s.x ++ [y]).length _) (s.x ++ [y]).length _
      rw [hl]
      exact own_at ho (fun b hb => Below.heap_setCell _ _ _ _ (fun e => by
        have e' : b = g' := by injection hb with hb; exact hb.symm
        exact hne (e'.symm.trans e)))
    · rw [List.getElem_set_ne (fun e => hik e.symm)]
      exact own_at (h.inn _ (List.getElem_mem hi)) (stay _ (List.getElem_mem hi) (apart' i hi hik))
  · refine List.pairwise_iff_getElem.2 fun i j hi hj hij => ?_
    have hi2 : i < l.length := by rwa [List.length_set] at hi
    have hj2 : j < l.length := by rwa [List.length_set] at hj
    by_cases hik : i = k
    · subst hik
      rw [List.getElem_set_self, List.getElem_set_ne (by omega)]
      intro b hb
      have e : b = g' := by simpa [bk] using hb
      rw [e]; exact other j hj2 (by omega)
    · rw [List.getElem_set_ne (fun e => hik e.symm)]
      by_cases hjk : j = k
      · subst hjk
        rw [List.getElem_set_self]
        intro b hb hb'
        have e : b = g' := by simpa [bk] using hb'
        rw [e] at hb; exact other i hi2 hik hb
      · rw [List.getElem_set_ne (fun e => hjk e.symm)]
        exact hap i j hi2 hj2 hij
theorem map_put {l : List Sl} {k g' c' : Nat} {s : Sl} {n : Nat} {S : List (Nat × Pt)} {y : Pt} (e : l.map (·.x) = listsL n S) (hs : l[k]? = some s) : (l.set k ⟨some ⟨g', 0, none⟩, c', s.x ++ [y]⟩).map (·.x) = listsL n (S ++ [(k, y)]) ∧ s.x = ownL S k := by
  have hl : l.length = n := by have := congrArg List.length e; simpa [listsL] using this
  have hk := (List.getElem?_eq_some_iff.1 hs).1
  have hx : s.x = ownL S k := by
    have := congrArg (·[k]?) e
    rw [listsL_at S (by omega), List.getElem?_map, hs] at this
    simpa using this
  refine ⟨?_, hx⟩
  rw [List.map_set, e]
  apply List.ext_getElem
  · simp [listsL]
  · intro i h1 h2
    simp only [listsL, List.length_set, List.length_map, List.length_range] at h1
    by_cases hik : i = k
    · subst hik
      rw [List.getElem_set_self]
      simp [listsL, ownL_app, ownL_one, hx]
    · rw [List.getElem_set_ne (fun e => hik e.symm)]
      simp [listsL, ownL_app, ownL_one, Ne.symm hik]
end Go.Proofs.Ythongbobopampaa.L10
