/-
  Up to where groups have read, as plain data: marks in order, by groups, topics, partitions.
-/
import Derived.Test.YtcpfihagcmadcaaDdMath
import Derived.Test.YtcpfihagcmadcaaMSmall
import Derived.Test.YtcpfihagcmadcaaMRecAll
namespace Go.Proofs.Ytcpfihagcmadcaa.L12
open Go.RowKit
open L3 L4
open L8 (cT cT_refl cT_eq cT_swap cT_trans ci_lt ci_zero)

/-- a mark -/
structure Mr where
  g : ByteArray
  t : ByteArray
  p : Int
  o : Int
/-- of the same group and partition? -/
def SameR (a b : Mr) : Prop := a.g = b.g ∧ a.t = b.t ∧ a.p = b.p
instance (a b : Mr) : Decidable (SameR a b) := inferInstanceAs (Decidable (_ ∧ _ ∧ _))
theorem SameR.symm {a b : Mr} (h : SameR a b) : SameR b a := ⟨h.1.symm, h.2.1.symm, h.2.2.symm⟩
theorem SameR.rfl {a : Mr} : SameR a a := ⟨.refl _, .refl _, .refl _⟩
theorem SameR.trans {a b c : Mr} (h : SameR a b) (k : SameR b c) : SameR a c := ⟨h.1.trans k.1, h.2.1.trans k.2.1, h.2.2.trans k.2.2⟩
/-- what the order says of two -/
def ordR (a b : Mr) : Int := if cT a.g b.g ≠ 0 then cT a.g b.g else if cT a.t b.t ≠ 0 then cT a.t b.t else Lib.compareInt a.p b.p
/-- which stands ahead -/
def befR (a b : Mr) : Bool := decide (ordR a b < 0)
theorem bef_iff (a b : Mr) : befR a b = true ↔ cT a.g b.g < 0 ∨ (a.g = b.g ∧ (cT a.t b.t < 0 ∨ (a.t = b.t ∧ a.p < b.p))) := by
  unfold befR ordR
  rw [decide_eq_true_iff]
  by_cases h : cT a.g b.g = 0
  · rw [if_neg (by simp [h])]
    have e := cT_eq h
    by_cases k : cT a.t b.t = 0
    · rw [if_neg (by simp [k]), ci_lt]
      have e2 := cT_eq k
      constructor
      · intro hp; exact .inr ⟨e, .inr ⟨e2, hp⟩⟩
      · rintro (hp | ⟨_, hp | ⟨_, hp⟩⟩)
        · omega
        · omega
        · exact hp
    · rw [if_pos k]
      constructor
      · intro hp; exact .inr ⟨e, .inl hp⟩
      · rintro (hp | ⟨_, hp | ⟨e', hp⟩⟩)
        · omega
        · exact hp
        · rw [e', cT_refl] at k; exact absurd rfl k
  · rw [if_pos h]
    constructor
    · exact .inl
    · rintro (hp | ⟨e, _⟩)
      · exact hp
      · rw [e, cT_refl] at h; exact absurd rfl h
theorem bef_irrefl (a : Mr) : befR a a = false := by
  cases h : befR a a
  · rfl
  · rcases (bef_iff a a).1 h with q | ⟨_, q | ⟨_, q⟩⟩
    · rw [cT_refl] at q; omega
    · rw [cT_refl] at q; omega
    · omega
theorem bef_trans {a b c : Mr} (h : befR a b = true) (k : befR b c = true) : befR a c = true := by
  rw [bef_iff] at h k ⊢
  rcases h with h | ⟨h, h' | ⟨h', h''⟩⟩
  · rcases k with k | ⟨k, _⟩
    · exact .inl (cT_trans h k)
    · exact .inl (by rw [← k]; exact h)
  · rcases k with k | ⟨k, k' | ⟨k', k''⟩⟩
    · exact .inl (by rw [h]; exact k)
    · exact .inr ⟨h.trans k, .inl (cT_trans h' k')⟩
    · exact .inr ⟨h.trans k, .inl (by rw [← k']; exact h')⟩
  · rcases k with k | ⟨k, k' | ⟨k', k''⟩⟩
    · exact .inl (by rw [h]; exact k)
    · exact .inr ⟨h.trans k, .inl (by rw [h']; exact k')⟩
    · exact .inr ⟨h.trans k, .inr ⟨h'.trans k', by omega⟩⟩
theorem bef_asymm {a b : Mr} (h : befR a b = true) : befR b a = false := by
  cases k : befR b a
  · rfl
  · have := bef_trans h k; rw [bef_irrefl] at this; cases this
theorem ct_tri (a b : ByteArray) : cT a b < 0 ∨ a = b ∨ cT b a < 0 := by
  rcases Int.lt_trichotomy (cT a b) 0 with h | h | h
  · exact .inl h
  · exact .inr (.inl (cT_eq h))
  · exact .inr (.inr (by rw [cT_swap]; omega))
theorem bef_total {a b : Mr} (h : befR a b = false) (k : befR b a = false) : SameR a b := by
  have h' : ¬ befR a b = true := by rw [h]; simp
  have k' : ¬ befR b a = true := by rw [k]; simp
  rw [bef_iff] at h' k'
  rcases ct_tri a.g b.g with q | q | q
  · exact absurd (.inl q) h'
  · rcases ct_tri a.t b.t with r | r | r
    · exact absurd (.inr ⟨q, .inl r⟩) h'
    · refine ⟨q, r, ?_⟩
      rcases Int.lt_trichotomy a.p b.p with s | s | s
      · exact absurd (.inr ⟨q, .inr ⟨r, s⟩⟩) h'
      · exact s
      · exact absurd (.inr ⟨q.symm, .inr ⟨r.symm, s⟩⟩) k'
    · exact absurd (.inr ⟨q.symm, .inl r⟩) k'
  · exact absurd (.inl q) k'
theorem ord_same {a b a' b' : Mr} (ha : SameR a a') (hb : SameR b b') : ordR a b = ordR a' b' := by
  unfold ordR
  rw [ha.1, ha.2.1, ha.2.2, hb.1, hb.2.1, hb.2.2]
theorem bef_same {a b a' b' : Mr} (ha : SameR a a') (hb : SameR b b') : befR a b = befR a' b' := by unfold befR; rw [ord_same ha hb]
theorem bef_off {a b : Mr} (h : befR a b = true) : ¬ SameR a b := fun e => by
  rw [bef_same e (SameR.rfl (a := b)), bef_irrefl] at h; cases h

/-! ### marks in order -/
def SortR (Q : List Mr) : Prop := Q.Pairwise (fun a b => befR a b = true)
def mayR (m : Mr) : Bool := nameB m.g && nameB m.t && numB m.p && numB m.o
structure Good (Q : List Mr) : Prop where
  sorted : SortR Q
  may : ∀ x ∈ Q, mayR x = true
theorem good_nil : Good [] := ⟨List.Pairwise.nil, fun _ h => (nomatch h)⟩
theorem may_fit {m : Mr} (h : mayR m = true) : m.g.size ≤ 16 ∧ m.t.size ≤ 16 ∧ 0 ≤ m.p ∧ m.p ≤ 1099511627776 ∧ 0 ≤ m.o ∧ m.o ≤ 1099511627776 := by
  unfold mayR nameB numB at h
  simp only [Bool.and_eq_true, decide_eq_true_eq] at h
  exact ⟨h.1.1.1.1.2, h.1.1.2.1.2, h.1.2.1, h.1.2.2, h.2.1, h.2.2⟩
theorem may_of {m m' : Mr} (h : mayR m = true) (e : SameR m m') (hn : numB m'.o = true) : mayR m' = true := by
  unfold mayR at h ⊢
  rw [← e.1, ← e.2.1, ← e.2.2, hn]
  simp only [Bool.and_eq_true] at h
  simp [h.1.1.1, h.1.1.2, h.1.2]
theorem SortR.off {Q : List Mr} (h : SortR Q) : Q.Pairwise (fun a b => ¬ SameR a b) := h.imp bef_off
theorem SortR.one {Q : List Mr} (h : SortR Q) {x y : Mr} (hx : x ∈ Q) (hy : y ∈ Q) (e : SameR x y) : x = y := by
  induction Q with
  | nil => cases hx
  | cons a t ih =>
    obtain ⟨h1, h2⟩ := List.pairwise_cons.1 h.off
    rcases List.mem_cons.1 hx with q | q
    · rcases List.mem_cons.1 hy with r | r
      · rw [q, r]
      · exact absurd (q ▸ e) (h1 y r)
    · rcases List.mem_cons.1 hy with r | r
      · exact absurd (r ▸ e).symm (h1 x q)
      · exact ih (List.pairwise_cons.1 h).2 q r
/-- the mark of a group and a partition -/
def isAt (g t : ByteArray) (p : Int) (x : Mr) : Bool := decide (x.g = g ∧ x.t = t ∧ x.p = p)
theorem isAt_iff {g t : ByteArray} {p : Int} {x : Mr} : isAt g t p x = true ↔ x.g = g ∧ x.t = t ∧ x.p = p := by simp [isAt]
theorem isAt_not {g t : ByteArray} {p : Int} {x : Mr} : isAt g t p x = false ↔ ¬ (x.g = g ∧ x.t = t ∧ x.p = p) := by simp [isAt]
def isR (Q : List Mr) (g t : ByteArray) (p : Int) : Bool := Q.any (isAt g t p)
def atR (Q : List Mr) (g t : ByteArray) (p : Int) : Int := ((Q.find? (isAt g t p)).map Mr.o).getD 0
theorem is_mem {Q : List Mr} {g t : ByteArray} {p : Int} : isR Q g t p = true ↔ ∃ x ∈ Q, x.g = g ∧ x.t = t ∧ x.p = p := by simp [isR, isAt]
theorem is_not {Q : List Mr} {g t : ByteArray} {p : Int} : isR Q g t p = false ↔ ∀ x ∈ Q, ¬ (x.g = g ∧ x.t = t ∧ x.p = p) := by simp [isR, isAt]
theorem at_none {Q : List Mr} {g t : ByteArray} {p : Int} (h : isR Q g t p = false) : atR Q g t p = 0 := by
  unfold atR
  rw [List.find?_eq_none.2 (fun x hx => by rw [isAt_iff]; exact is_not.1 h x hx)]
  rfl
theorem at_mem {Q : List Mr} (h : SortR Q) {x : Mr} (hx : x ∈ Q) : atR Q x.g x.t x.p = x.o := by
  unfold atR
  cases e : Q.find? (isAt x.g x.t x.p) with
  | none => exact absurd (isAt_iff.2 ⟨rfl, rfl, rfl⟩) (List.find?_eq_none.1 e x hx)
  | some y =>
    have h1 := isAt_iff.1 (List.find?_some e)
    have h2 := List.mem_of_find?_eq_some e
    rw [h.one h2 hx h1]
    rfl
theorem at_mem' {Q : List Mr} (h : SortR Q) {x : Mr} {g t : ByteArray} {p : Int} (hx : x ∈ Q) (hg : x.g = g) (ht : x.t = t) (hp : x.p = p) : atR Q g t p = x.o := by
  subst hg; subst ht; subst hp; exact at_mem h hx
theorem Good.at {Q : List Mr} (G : Good Q) (g t : ByteArray) (p : Int) : 0 ≤ atR Q g t p ∧ atR Q g t p ≤ 1099511627776 := by
  cases h : isR Q g t p
  · rw [at_none h]; omega
  · obtain ⟨x, hx, rfl, rfl, rfl⟩ := is_mem.1 h
    rw [at_mem G.sorted hx]
    have := may_fit (G.may x hx)
    exact ⟨this.2.2.2.2.1, this.2.2.2.2.2⟩

/-! ### a mark is put -/
def putE (Q : List Mr) (m : Mr) : Int := if mayR m = false then 1 else if isR Q m.g m.t m.p = true ∧ m.o < atR Q m.g m.t m.p then 120 else 0
def insR : List Mr → Mr → List Mr
  | [], x => [x]
  | y :: t, x => if befR y x = true then y :: insR t x else if SameR y x then x :: t else x :: y :: t
def putQ (Q : List Mr) (m : Mr) : List Mr := if putE Q m = 0 then insR Q m else Q
theorem mem_ins {Q : List Mr} (h : SortR Q) {x y : Mr} : y ∈ insR Q x ↔ y = x ∨ (y ∈ Q ∧ ¬ SameR y x) := by
  induction Q with
  | nil => simp [insR]
  | cons a t ih =>
    obtain ⟨h1, h2⟩ := List.pairwise_cons.1 h
    unfold insR
    split
    · rename_i hb
      rw [List.mem_cons, ih h2, List.mem_cons]
      constructor
      · rintro (e | e | ⟨e, n⟩)
        · exact .inr ⟨.inl e, by rw [e]; exact bef_off hb⟩
        · exact .inl e
        · exact .inr ⟨.inr e, n⟩
      · rintro (e | ⟨e | e, n⟩)
        · exact .inr (.inl e)
        · exact .inl e
        · exact .inr (.inr ⟨e, n⟩)
    · rename_i hb
      have hb' : befR a x = false := by simpa using hb
      split
      · rename_i hs
        rw [List.mem_cons, List.mem_cons]
        constructor
        · rintro (e | e)
          · exact .inl e
          · exact .inr ⟨.inr e, fun n => bef_off (h1 y e) (hs.trans n.symm)⟩
        · rintro (e | ⟨e | e, n⟩)
          · exact .inl e
          · exact absurd (e ▸ hs) n
          · exact .inr e
      · rename_i hs
        have hxa : befR x a = true := by
          cases q : befR x a
          · exact absurd (bef_total hb' q) hs
          · rfl
        rw [List.mem_cons]
        constructor
        · rintro (e | e)
          · exact .inl e
          · refine .inr ⟨e, fun n => ?_⟩
            rcases List.mem_cons.1 e with r | r
            · exact hs (r ▸ n)
            · exact bef_off (bef_trans hxa (h1 y r)) n.symm
        · rintro (e | ⟨e, _⟩)
          · exact .inl e
          · exact .inr e
theorem sort_ins {Q : List Mr} (h : SortR Q) (x : Mr) : SortR (insR Q x) := by
  induction Q with
  | nil => exact List.pairwise_singleton _ _
  | cons a t ih =>
    obtain ⟨h1, h2⟩ := List.pairwise_cons.1 h
    unfold insR
    split
    · rename_i hb
      refine List.pairwise_cons.2 ⟨fun y hy => ?_, ih h2⟩
      rcases (mem_ins h2).1 hy with rfl | ⟨hy, _⟩
      · exact hb
      · exact h1 y hy
    · rename_i hb
      have hb' : befR a x = false := by simpa using hb
      split
      · rename_i hs
        refine List.pairwise_cons.2 ⟨fun y hy => ?_, h2⟩
        rw [← bef_same hs (SameR.rfl (a := y))]; exact h1 y hy
      · rename_i hs
        have hxa : befR x a = true := by
          cases q : befR x a
          · exact absurd (bef_total hb' q) hs
          · rfl
        refine List.pairwise_cons.2 ⟨fun y hy => ?_, h⟩
        rcases List.mem_cons.1 hy with rfl | hy
        · exact hxa
        · exact bef_trans hxa (h1 y hy)
theorem len_ins (Q : List Mr) (x : Mr) : (insR Q x).length ≤ Q.length + 1 := by
  induction Q with
  | nil => simp [insR]
  | cons a t ih =>
    unfold insR
    split
    · simpa using ih
    · split <;> simp
theorem putE_ok {Q : List Mr} {m : Mr} (h : putE Q m = 0) : mayR m = true ∧ (isR Q m.g m.t m.p = true → atR Q m.g m.t m.p ≤ m.o) := by
  unfold putE at h
  split at h
  · cases h
  · split at h
    · cases h
    · rename_i h1 h2
      exact ⟨by simpa using h1, fun hi => by
        have : ¬ m.o < atR Q m.g m.t m.p := fun q => h2 ⟨hi, q⟩
        omega⟩
theorem good_put {Q : List Mr} (G : Good Q) (m : Mr) : Good (putQ Q m) := by
  unfold putQ
  split
  · rename_i h
    refine ⟨sort_ins G.sorted m, fun x hx => ?_⟩
    rcases (mem_ins G.sorted).1 hx with rfl | ⟨hx, _⟩
    · exact (putE_ok h).1
    · exact G.may x hx
  · exact G
theorem len_put (Q : List Mr) (m : Mr) : (putQ Q m).length ≤ Q.length + 1 := by
  unfold putQ
  split
  · exact len_ins Q m
  · omega
/-- the place where a mark goes -/
def plIns (Q : List Mr) (m : Mr) : Nat := (Q.takeWhile (fun y => befR y m)).length
theorem plIns_le (Q : List Mr) (m : Mr) : plIns Q m ≤ Q.length := by
  unfold plIns
  induction Q with
  | nil => simp
  | cons a t ih => rw [List.takeWhile_cons]; split <;> simp; exact ih
theorem ins_at {Q : List Mr} (h : SortR Q) (x : Mr) : insR Q x = Q.take (plIns Q x) ++ x :: Q.drop (plIns Q x + (if isR Q x.g x.t x.p = true then 1 else 0)) := by
  induction Q with
  | nil => simp [insR, plIns, isR]
  | cons a t ih =>
    obtain ⟨h1, h2⟩ := List.pairwise_cons.1 h
    unfold insR plIns
    by_cases hb : befR a x = true
    · have hna : isAt x.g x.t x.p a = false := isAt_not.2 (bef_off hb)
      have e : isR (a :: t) x.g x.t x.p = isR t x.g x.t x.p := by simp [isR, hna]
      rw [if_pos hb, ih h2, e, List.takeWhile_cons, if_pos hb]
      simp only [List.length_cons, List.take_succ_cons, List.cons_append, plIns]
      rw [show (t.takeWhile fun y => befR y x).length + 1 + (if isR t x.g x.t x.p = true then 1 else 0) = ((t.takeWhile fun y => befR y x).length + (if isR t x.g x.t x.p = true then 1 else 0)) + 1 by omega, List.drop_succ_cons]
    · rw [if_neg hb, List.takeWhile_cons, if_neg hb]
      by_cases hs : SameR a x
      · have e : isR (a :: t) x.g x.t x.p = true := is_mem.2 ⟨a, List.mem_cons_self, hs⟩
        rw [if_pos hs, if_pos e]
        simp
      · have hb' : befR a x = false := by simpa using hb
        have hxa : befR x a = true := by
          cases q : befR x a
          · exact absurd (bef_total hb' q) hs
          · rfl
        have e : isR (a :: t) x.g x.t x.p = false := is_not.2 fun y hy => by
          rcases List.mem_cons.1 hy with rfl | hy
          · exact hs
          · exact fun n => bef_off (bef_trans hxa (h1 y hy)) (SameR.symm n)
        rw [if_neg hs, if_neg (by rw [e]; simp)]
        simp

/-! ### marks are raised; a group's go -/
def raiseB (t : ByteArray) (p least : Int) (y : Mr) : Bool := decide (y.t = t ∧ y.p = p) && decide (y.o < least)
def upTo (y : Mr) (least : Int) : Mr := ⟨y.g, y.t, y.p, least⟩
def raiseQ0 (Q : List Mr) (t : ByteArray) (p least : Int) : List Mr := Q.map (fun y => if raiseB t p least y = true then upTo y least else y)
def raiseQ (Q : List Mr) (t : ByteArray) (p least : Int) : List Mr := if least ≤ 1099511627776 then raiseQ0 Q t p least else Q
def raiseN (Q : List Mr) (t : ByteArray) (p least : Int) : Int := if least ≤ 1099511627776 then ((Q.filter (raiseB t p least)).length : Int) else 0
theorem upTo_same (y : Mr) (l : Int) : SameR (upTo y l) y := ⟨rfl, rfl, rfl⟩
theorem good_raise0 {Q : List Mr} (G : Good Q) (t : ByteArray) (p least : Int) (hl : least ≤ 1099511627776) : Good (raiseQ0 Q t p least) := by
  have hs : ∀ y : Mr, SameR (if raiseB t p least y = true then upTo y least else y) y := fun y => by
    split
    · exact upTo_same _ _
    · exact SameR.rfl
  refine ⟨?_, fun x hx => ?_⟩
  · unfold SortR raiseQ0
    rw [List.pairwise_map]
    exact G.sorted.imp (fun {a b} h => by rw [bef_same (hs a) (hs b)]; exact h)
  · obtain ⟨y, hy, rfl⟩ := List.mem_map.1 hx
    split
    · rename_i hr
      refine may_of (G.may y hy) (upTo_same _ _).symm ?_
      have := may_fit (G.may y hy)
      unfold raiseB at hr
      simp only [Bool.and_eq_true, decide_eq_true_eq] at hr
      exact decide_eq_true (show 0 ≤ least ∧ least ≤ 1099511627776 by omega)
    · exact G.may y hy
theorem good_raise {Q : List Mr} (G : Good Q) (t : ByteArray) (p least : Int) : Good (raiseQ Q t p least) := by
  unfold raiseQ
  split
  · exact good_raise0 G t p least ‹_›
  · exact G
theorem len_raise (Q : List Mr) (t : ByteArray) (p least : Int) : (raiseQ Q t p least).length = Q.length := by
  unfold raiseQ raiseQ0
  split <;> simp
theorem raiseN_le (Q : List Mr) (t : ByteArray) (p least : Int) : 0 ≤ raiseN Q t p least ∧ raiseN Q t p least ≤ Q.length := by
  unfold raiseN
  have := List.length_filter_le (raiseB t p least) Q
  split <;> omega
def dropQ (Q : List Mr) (g : ByteArray) : List Mr := Q.filter (fun y => !decide (y.g = g))
def dropN (Q : List Mr) (g : ByteArray) : Int := (Q.length : Int) - (dropQ Q g).length
theorem mem_drop {Q : List Mr} {g : ByteArray} {x : Mr} : x ∈ dropQ Q g ↔ x ∈ Q ∧ x.g ≠ g := by simp [dropQ]
theorem good_drop {Q : List Mr} (G : Good Q) (g : ByteArray) : Good (dropQ Q g) :=
  ⟨List.Pairwise.filter _ G.sorted, fun x hx => G.may x (mem_drop.1 hx).1⟩
theorem len_drop (Q : List Mr) (g : ByteArray) : (dropQ Q g).length ≤ Q.length := List.length_filter_le _ _
theorem dropN_eq (Q : List Mr) (g : ByteArray) : dropN Q g = ((Q.filter (fun y => decide (y.g = g))).length : Int) := by
  unfold dropN dropQ
  induction Q with
  | nil => simp
  | cons a t ih =>
    by_cases h : a.g = g
    · simp [h]; omega
    · simp [h]; omega

/-! ### how far behind -/
def behindR (Q : List Mr) (g t : ByteArray) (p e : Int) : Int := if numB e = true then max 0 (e - atR Q g t p) else 0

/-! ### Load -/
def okAt (l : List Mr) (i : Nat) : Prop := ∀ x, l[i]? = some x → mayR x = true ∧ (0 < i → ∀ y, l[i - 1]? = some y → befR y x = true)
def OkTo (l : List Mr) (k : Nat) : Prop := ∀ i, i < k → okAt l i
/-- what loading tells: x is the error -/
def loadE (l : List Mr) (x : Int) : Prop := (x = 0 ∧ OkTo l l.length) ∨ (x = 1 ∧ ¬ OkTo l l.length)
theorem loadE_one {l : List Mr} {x y : Int} (h : loadE l x) (k : loadE l y) : x = y := by
  rcases h with ⟨h, h'⟩ | ⟨h, h'⟩ <;> rcases k with ⟨k, k'⟩ | ⟨k, k'⟩
  · omega
  · exact absurd h' k'
  · exact absurd k' h'
  · omega
theorem OkTo.next {l : List Mr} {k : Nat} (h : OkTo l k) (h' : okAt l k) : OkTo l (k + 1) := fun i hi => by
  by_cases e : i = k
  · subst e; exact h'
  · exact h i (by omega)
theorem OkTo.good {l : List Mr} : ∀ {k : Nat}, OkTo l k → k ≤ l.length → Good (l.take k)
  | 0, _, _ => ⟨by simp [SortR], fun x hx => by simp at hx⟩
  | k + 1, h, hk => by
    obtain ⟨h1, h2⟩ := OkTo.good (k := k) (fun i hi => h i (by omega)) (by omega)
    obtain ⟨x, hx⟩ : ∃ x, l[k]? = some x := ⟨l[k], List.getElem?_eq_getElem (by omega)⟩
    obtain ⟨h3, h4⟩ := h k (by omega) x hx
    rw [List.take_add_one, hx]
    refine ⟨List.pairwise_append.2 ⟨h1, List.pairwise_singleton _ _, fun y hy z hz => ?_⟩, fun y hy => ?_⟩
    · have : z = x := by simpa using hz
      subst this
      have hk0 : 0 < k := by
        rcases Nat.eq_zero_or_pos k with e | e
        · subst e; simp at hy
        · exact e
      obtain ⟨u, hu⟩ : ∃ u, l[k - 1]? = some u := ⟨l[k - 1], List.getElem?_eq_getElem (by omega)⟩
      have hux := h4 hk0 u hu
      have e : l.take k = l.take (k - 1) ++ [u] := by
        have := List.take_add_one (l := l) (i := k - 1)
        rw [hu, show k - 1 + 1 = k by omega] at this
        simpa using this
      rw [e] at hy
      rcases List.mem_append.1 hy with hy | hy
      · have hp := h1
        rw [e] at hp
        exact bef_trans ((List.pairwise_append.1 hp).2.2 y hy u (by simp)) hux
      · have : y = u := by simpa using hy
        subst this; exact hux
    · rcases List.mem_append.1 hy with hy | hy
      · exact h2 y hy
      · have : y = x := by simpa using hy
        subst this; exact h3
theorem good_ok {l : List Mr} (G : Good l) : OkTo l l.length := fun i hi x hx => by
  refine ⟨G.may x (List.mem_of_getElem? hx), fun h0 y hy => ?_⟩
  have hp := List.pairwise_iff_getElem.1 G.sorted (i - 1) i (by omega) hi (by omega)
  rw [(List.getElem?_eq_some_iff.1 hx).2, (List.getElem?_eq_some_iff.1 hy).2] at hp
  exact hp
end Go.Proofs.Ytcpfihagcmadcaa.L12
