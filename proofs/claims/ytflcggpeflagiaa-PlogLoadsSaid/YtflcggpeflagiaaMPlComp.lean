/-
  What Compact keeps, plain.
-/
import Derived.Test.YtflcggpeflagiaaPlLaws
import Derived.Test.YtflcggpeflagiaaMPlRef
namespace Go.Proofs.Ytflcggpeflagiaa.L6
open L3 L4 L5

theorem lastL_cons (f : L4.Fd) (t : List L4.Fd) (ks : List (List UInt8)) : lastL (f :: t) ks = stepL (lastL t ks) f := by
  unfold lastL
  rw [List.reverse_cons, List.foldl_append]; rfl
theorem last_keys {k : List UInt8} : ∀ (L : List L4.Fd) (ks : List (List UInt8)), k ∈ (lastL L ks).1 ↔ k ∈ ks ∨ ∃ f ∈ L, f.r.hk = true ∧ kb f.r.key = k
  | [], ks => by simp [lastL]
  | f :: t, ks => by
    rw [lastL_cons]
    have ih := last_keys (k := k) t ks
    by_cases h : f.r.hk = true
    · by_cases hm : kb f.r.key ∈ (lastL t ks).1
      · rw [show stepL (lastL t ks) f = lastL t ks from by unfold stepL; rw [if_pos h, if_pos hm], ih]
        constructor
        · rintro (h1 | ⟨g, hg, h2⟩)
          · exact .inl h1
          · exact .inr ⟨g, List.mem_cons_of_mem _ hg, h2⟩
        · rintro (h1 | ⟨g, hg, h2⟩)
          · exact .inl h1
          · rcases List.mem_cons.1 hg with rfl | hg
            · have q := (last_keys (k := kb g.r.key) t ks).1 hm
              rw [h2.2] at q; exact q
            · exact .inr ⟨g, hg, h2⟩
      · rw [show (stepL (lastL t ks) f).1 = (lastL t ks).1 ++ [kb f.r.key] from by unfold stepL; rw [if_pos h, if_neg hm], List.mem_append, ih, List.mem_singleton]
        constructor
        · rintro ((h1 | ⟨g, hg, h2⟩) | h1)
          · exact .inl h1
          · exact .inr ⟨g, List.mem_cons_of_mem _ hg, h2⟩
          · exact .inr ⟨f, List.mem_cons_self, h, h1.symm⟩
        · rintro (h1 | ⟨g, hg, h2⟩)
          · exact .inl (.inl h1)
          · rcases List.mem_cons.1 hg with rfl | hg
            · exact .inr h2.2.symm
            · exact .inl (.inr ⟨g, hg, h2⟩)
    · rw [show (stepL (lastL t ks) f).1 = (lastL t ks).1 from by unfold stepL; rw [if_neg h], ih]
      constructor
      · rintro (h1 | ⟨g, hg, h2⟩)
        · exact .inl h1
        · exact .inr ⟨g, List.mem_cons_of_mem _ hg, h2⟩
      · rintro (h1 | ⟨g, hg, h2⟩)
        · exact .inl h1
        · rcases List.mem_cons.1 hg with rfl | hg
          · exact absurd h2.1 h
          · exact .inr ⟨g, hg, h2⟩
theorem last_offs {o : Int} : ∀ (L : List L4.Fd) (ks : List (List UInt8)), o ∈ (lastL L ks).2 → ∃ f ∈ L, f.o = o
  | [], ks, h => by simp [lastL] at h
  | f :: t, ks, h => by
    rw [lastL_cons] at h
    have key : o ∈ (lastL t ks).2 ∨ o = f.o := by
      unfold stepL at h
      split at h
      · split at h
        · exact .inl h
        · exact (List.mem_append.1 h).imp id List.mem_singleton.1
      · exact (List.mem_append.1 h).imp id List.mem_singleton.1
    rcases key with h1 | h1
    · obtain ⟨g, hg, e⟩ := last_offs t ks h1
      exact ⟨g, List.mem_cons_of_mem _ hg, e⟩
    · exact ⟨f, List.mem_cons_self, h1.symm⟩
/-- is a record's key a later one's, or among these? -/
def late (ks : List (List UInt8)) (f : L4.Fd) (t : List L4.Fd) : Prop := f.r.hk = true ∧ (kb f.r.key ∈ ks ∨ ∃ g ∈ t, g.r.hk = true ∧ kb g.r.key = kb f.r.key)
open Classical in
/-- what is kept of closed ones -/
noncomputable def kept (ks : List (List UInt8)) : List L4.Fd → List L4.Fd
  | [] => []
  | f :: t => (if late ks f t then [] else [f]) ++ kept ks t
theorem keep_kept {a n : Int} (ks : List (List UInt8)) : ∀ {L : List L4.Fd}, riseB a n L = true → keepL L (lastL L ks).2 = kept ks L
  | [], _ => rfl
  | f :: t, h => by
    obtain ⟨h1, h2, h3⟩ := rise_cons.1 h
    have hgt : ∀ g ∈ t, f.o < g.o := fun g hg => by have := rise_mem h3 g hg; omega
    have hno : f.o ∉ (lastL t ks).2 := fun e => by
      obtain ⟨g, hg, e⟩ := last_offs t ks e
      have := hgt g hg; omega
    have hcong : ∀ s : List Int, keepL t ((lastL t ks).2 ++ [f.o]) = keepL t (lastL t ks).2 := fun _ => by
      unfold keepL
      refine List.filter_congr fun g hg => ?_
      have := hgt g hg
      have e : g.o ∈ (lastL t ks).2 ++ [f.o] ↔ g.o ∈ (lastL t ks).2 := by
        rw [List.mem_append, List.mem_singleton]
        exact ⟨fun q => q.elim id (fun q => by omega), .inl⟩
      simp only [e]
    have hl : late ks f t ↔ f.r.hk = true ∧ kb f.r.key ∈ (lastL t ks).1 := by unfold late; rw [last_keys]
    rw [kept, ← keep_kept ks h3, lastL_cons]
    by_cases hk : f.r.hk = true
    · by_cases hm : kb f.r.key ∈ (lastL t ks).1
      · rw [if_pos (hl.2 ⟨hk, hm⟩)]
        unfold stepL
        rw [if_pos hk, if_pos hm]
        unfold keepL
        rw [List.filter_cons_of_neg (by simpa using hno)]; rfl
      · rw [if_neg (fun e => hm (hl.1 e).2), ← hcong []]
        unfold stepL
        rw [if_pos hk, if_neg hm]
        unfold keepL
        rw [List.filter_cons_of_pos (by simp)]; rfl
    · rw [if_neg (fun e => hk (hl.1 e).1), ← hcong []]
      unfold stepL
      rw [if_neg hk]
      unfold keepL
      rw [List.filter_cons_of_pos (by simp)]; rfl
theorem kept_congr {ks ks' : List (List UInt8)} (h : ∀ k, k ∈ ks ↔ k ∈ ks') : ∀ L : List L4.Fd, kept ks L = kept ks' L
  | [] => rfl
  | f :: t => by
    have e : late ks f t = late ks' f t := by unfold late; rw [h]
    rw [kept, kept, kept_congr h t, e]
theorem kept_app (ks : List (List UInt8)) (b : List L4.Fd) : ∀ a : List L4.Fd, kept ks (a ++ b) = kept (lastL b ks).1 a ++ kept ks b
  | [] => rfl
  | f :: t => by
    have e : late ks f (t ++ b) = late (lastL b ks).1 f t := by
      unfold late
      rw [last_keys]
      refine propext (and_congr_right fun _ => ⟨?_, ?_⟩)
      · rintro (h | ⟨g, hg, h⟩)
        · exact .inl (.inl h)
        · rcases List.mem_append.1 hg with hg | hg
          · exact .inr ⟨g, hg, h⟩
          · exact .inl (.inr ⟨g, hg, h⟩)
      · rintro ((h | ⟨g, hg, h⟩) | ⟨g, hg, h⟩)
        · exact .inl h
        · exact .inr ⟨g, List.mem_append.2 (.inr hg), h⟩
        · exact .inr ⟨g, List.mem_append.2 (.inl hg), h⟩
    rw [List.cons_append, kept, kept, kept_app ks b t, e, List.append_assoc]
theorem kept_mem {ks : List (List UInt8)} {f : L4.Fd} : ∀ {L : List L4.Fd}, f ∈ kept ks L → f ∈ L
  | [], h => h
  | g :: t, h => by
    rw [kept] at h
    rcases List.mem_append.1 h with h | h
    · split at h
      · cases h
      · rw [List.mem_singleton] at h; subst h; exact List.mem_cons_self
    · exact List.mem_cons_of_mem _ (kept_mem h)
theorem kept_twice (ks : List (List UInt8)) : ∀ L : List L4.Fd, kept ks (kept ks L) = kept ks L
  | [] => rfl
  | f :: t => by
    rw [kept]
    by_cases h : late ks f t
    · rw [if_pos h]; exact kept_twice ks t
    · rw [if_neg h]
      show kept ks (f :: kept ks t) = _
      have h' : ¬ late ks f (kept ks t) := fun ⟨h1, h2⟩ => h ⟨h1, h2.imp id fun ⟨g, hg, q⟩ => ⟨g, kept_mem hg, q⟩⟩
      rw [kept, if_neg h', kept_twice ks t]
theorem kept_len (ks : List (List UInt8)) : ∀ L : List L4.Fd, (kept ks L).length ≤ L.length
  | [] => Nat.le_refl _
  | f :: t => by
    have ih := kept_len ks t
    rw [kept, List.length_append, List.length_cons]
    split <;> simp <;> omega

/-! ### Compact, segment by segment -/
theorem stepC_next (N i : Nat) (s : Sg) (d : List Sg × List (List UInt8) × Nat) : stepC (N + 1) (s :: d.1, d.2) (i + 1) = (s :: (stepC N d i).1, (stepC N d i).2) := by
  unfold stepC
  rw [List.getElem?_cons_succ]
  split
  · rfl
  · by_cases h : i + 1 < N
    · rw [if_pos h, if_pos (by omega)]; rfl
    · rw [if_neg h, if_neg (by omega)]
theorem foldC_next (N : Nat) (s : Sg) : ∀ (js : List Nat) (d : List Sg × List (List UInt8) × Nat), (js.map (· + 1)).foldl (stepC (N + 1)) (s :: d.1, d.2) = (s :: (js.foldl (stepC N) d).1, (js.foldl (stepC N) d).2)
  | [], _ => rfl
  | j :: js, d => by
    rw [List.map_cons, List.foldl_cons, List.foldl_cons, stepC_next]
    exact foldC_next N s js (stepC N d j)
theorem comp_one (s : Sg) : comp [s] = ([s], (lastL s.L []).1, 0) := rfl
theorem comp_cons (s : Sg) (t : List Sg) (h : 0 < t.length) : comp (s :: t) = (⟨s.b, s.n, keepL s.L (lastL s.L (comp t).2.1).2⟩ :: (comp t).1, (lastL s.L (comp t).2.1).1, (comp t).2.2 + (s.L.length - (keepL s.L (lastL s.L (comp t).2.1).2).length)) := by
  have e : (List.range (t.length + 1)).reverse = (List.range t.length).reverse.map (· + 1) ++ [0] := by
    rw [List.range_succ_eq_map, List.reverse_cons, List.map_reverse]
  show (List.range (t.length + 1)).reverse.foldl (stepC (t.length + 1)) (s :: t, [], 0) = _
  rw [e, List.foldl_append, foldC_next t.length s _ (t, [], 0)]
  show stepC (t.length + 1) (s :: (comp t).1, (comp t).2) 0 = _
  unfold stepC
  simp only [List.getElem?_cons_zero]
  rw [if_pos (by omega)]
  rfl
/-- closed ones are kept by their keys, the open one as it is -/
theorem comp_form (o : Sg) : ∀ i : List Sg, (∀ s ∈ i, L5.Good s.b s.n s.L) → (∃ i', (comp (i ++ [o])).1 = i' ++ [o] ∧ allL i' = kept (lastL o.L []).1 (allL i) ∧ (∀ s ∈ i', L5.Good s.b s.n s.L)) ∧ (∀ k : List UInt8, k ∈ (comp (i ++ [o])).2.1 ↔ k ∈ (lastL (allL i) (lastL o.L []).1).1) ∧ (comp (i ++ [o])).2.2 + (kept (lastL o.L []).1 (allL i)).length = (allL i).length
  | [], _ => ⟨⟨[], rfl, rfl, fun s h => by cases h⟩, fun k => Iff.rfl, rfl⟩
  | s :: i, hg => by
    obtain ⟨⟨i', e1, e2, e3⟩, hk, hc⟩ := comp_form o i (fun s hs => hg s (List.mem_cons_of_mem _ hs))
    have gs := hg s List.mem_cons_self
    have ec := comp_cons s (i ++ [o]) (by simp)
    have ek : keepL s.L (lastL s.L (comp (i ++ [o])).2.1).2 = kept (lastL (allL i) (lastL o.L []).1).1 s.L := (keep_kept _ gs.rise).trans (kept_congr hk _)
    have ea : kept (lastL o.L []).1 (allL (s :: i)) = kept (lastL (allL i) (lastL o.L []).1).1 s.L ++ kept (lastL o.L []).1 (allL i) := kept_app _ (allL i) s.L
    rw [List.cons_append, ec, ea, ek]
    refine ⟨⟨⟨s.b, s.n, kept (lastL (allL i) (lastL o.L []).1).1 s.L⟩ :: i', by rw [e1]; rfl, by rw [← e2]; rfl, fun x hx => ?_⟩, fun k => ?_, ?_⟩
    · rcases List.mem_cons.1 hx with rfl | hx
      · show L5.Good s.b s.n (kept _ s.L)
        rw [← ek]; exact keep_good gs _
      · exact e3 x hx
    · show k ∈ (lastL s.L (comp (i ++ [o])).2.1).1 ↔ _
      rw [last_keys, hk k, last_keys]
      refine Iff.trans ?_ (last_keys (allL (s :: i)) _).symm
      show _ ↔ k ∈ (lastL o.L []).1 ∨ ∃ f ∈ s.L ++ allL i, f.r.hk = true ∧ kb f.r.key = k
      constructor
      · rintro ((h | ⟨g, h1, h2⟩) | ⟨g, h1, h2⟩)
        · exact .inl h
        · exact .inr ⟨g, List.mem_append.2 (.inr h1), h2⟩
        · exact .inr ⟨g, List.mem_append.2 (.inl h1), h2⟩
      · rintro (h | ⟨g, h1, h2⟩)
        · exact .inl (.inl h)
        · rcases List.mem_append.1 h1 with h1 | h1
          · exact .inr ⟨g, h1, h2⟩
          · exact .inl (.inr ⟨g, h1, h2⟩)
    · have hl := kept_len (lastL (allL i) (lastL o.L []).1).1 s.L
      show (comp (i ++ [o])).2.2 + (s.L.length - _) + _ = (s.L ++ allL i).length
      rw [List.length_append, List.length_append]
      omega
/-- compacted again nothing goes -/
theorem comp_twice {l : List Sg} {room : Nat} (g : GoodL room l) : (comp (comp l).1).2.2 = 0 := by
  have hn := g.ne
  obtain ⟨i, o, rfl⟩ : ∃ i o, l = i ++ [o] := ⟨l.dropLast, l.getLast (by intro e; subst e; simp at hn), (List.dropLast_concat_getLast _).symm⟩
  obtain ⟨⟨i', e1, e2, e3⟩, _, _⟩ := comp_form o i (fun s hs => g.good s (List.mem_append.2 (.inl hs)))
  obtain ⟨_, _, hc⟩ := comp_form o i' e3
  rw [e1]
  rw [e2, kept_twice] at hc
  omega

/-! ### the law's own choice -/
/-- is no later one of its key? -/
def lst (f : L4.Fd) (t : List L4.Fd) : Bool := t.all fun g => !(f.r.hk && g.r.hk && decide (f.r.key = g.r.key))
def pick (x : Int) : List L4.Fd → List L4.Fd
  | [] => []
  | f :: t => (if (lst f t || decide (x ≤ f.o)) = true then [f] else []) ++ pick x t
theorem pick_at {x : Int} {M : List L4.Fd} {i : Nat} {f : L4.Fd} (h : M[i]? = some f) : pick x (M.drop i) = (if (lst f (M.drop (i + 1)) || decide (x ≤ f.o)) = true then [f] else []) ++ pick x (M.drop (i + 1)) := by
  obtain ⟨hlt, hl⟩ := List.getElem?_eq_some_iff.1 h
  rw [List.drop_eq_getElem_cons hlt, hl]; rfl
theorem lst_at {f g : L4.Fd} {M : List L4.Fd} {j : Nat} (h : M[j]? = some g) : lst f (M.drop j) = (!(f.r.hk && g.r.hk && decide (f.r.key = g.r.key)) && lst f (M.drop (j + 1))) := by
  obtain ⟨hlt, hl⟩ := List.getElem?_eq_some_iff.1 h
  rw [List.drop_eq_getElem_cons hlt, hl]; rfl
theorem pick_open {x : Int} : ∀ {B : List L4.Fd}, (∀ f ∈ B, x ≤ f.o) → pick x B = B
  | [], _ => rfl
  | f :: t, h => by
    rw [pick, pick_open (fun g hg => h g (List.mem_cons_of_mem _ hg)), if_pos (by rw [Bool.or_eq_true]; exact .inr (decide_eq_true (h f List.mem_cons_self)))]; rfl
theorem lst_late (f : L4.Fd) (A B : List L4.Fd) : lst f (A ++ B) = true ↔ ¬ late (lastL B []).1 f A := by
  unfold lst late
  rw [List.all_eq_true, last_keys]
  constructor
  · rintro h ⟨hk, (h1 | ⟨g, hg, h2, h3⟩) | ⟨g, hg, h2, h3⟩⟩
    · cases h1
    · have q := h g (List.mem_append.2 (.inr hg))
      simp [hk, h2, kb_inj h3] at q
    · have q := h g (List.mem_append.2 (.inl hg))
      simp [hk, h2, kb_inj h3] at q
  · intro h g hg
    cases hc : (f.r.hk && g.r.hk && decide (f.r.key = g.r.key)) with
    | false => rfl
    | true =>
      simp only [Bool.and_eq_true, decide_eq_true_eq] at hc
      obtain ⟨⟨h1, h2⟩, h3⟩ := hc
      refine absurd ⟨h1, ?_⟩ h
      rcases List.mem_append.1 hg with hg | hg
      · exact .inr ⟨g, hg, h2, by rw [h3]⟩
      · exact .inl (.inr ⟨g, hg, h2, by rw [h3]⟩)
theorem pick_is {x : Int} {B : List L4.Fd} (hB : ∀ f ∈ B, x ≤ f.o) : ∀ {A : List L4.Fd}, (∀ f ∈ A, f.o < x) → pick x (A ++ B) = kept (lastL B []).1 A ++ B
  | [], _ => pick_open hB
  | f :: t, h => by
    have hf := h f List.mem_cons_self
    rw [List.cons_append, pick, kept, pick_is hB (fun g hg => h g (List.mem_cons_of_mem _ hg)), List.append_assoc]
    congr 1
    by_cases hl : late (lastL B []).1 f t
    · rw [if_pos hl, if_neg]
      rw [Bool.or_eq_true, lst_late, decide_eq_true_eq]
      rintro (q | q)
      · exact q hl
      · omega
    · rw [if_neg hl, if_pos]
      rw [Bool.or_eq_true, lst_late]
      exact .inl hl
theorem read_whole {room : Nat} {l : List Sg} (g : GoodL room l) (hl : l.length ≤ 1000) : readL (allL l) 0 1048576 = allL l := by
  have h1 : (allL l).length ≤ l.length * 64 := all_len (fun s hs => Nat.le_trans (g.few s hs) g.r64)
  unfold readL
  rw [List.filter_eq_self.2 (fun f hf => ?_), List.take_of_length_le (by show _ ≤ 1048576; omega)]
  obtain ⟨s, hs, hfs⟩ := List.mem_flatMap.1 hf
  have h2 := rise_mem (g.good s hs).rise f hfs
  have := (g.good s hs).b0
  simp; omega
/-- all that the law asks of Compact -/
theorem comp_facts {l : List Sg} {room : Nat} (g : GoodL room l) : ∃ o, l[l.length - 1]? = some o ∧ (comp l).1[l.length - 1]? = some o ∧ pick o.b (allL l) = allL (comp l).1 ∧ (allL (comp l).1).length + (comp l).2.2 = (allL l).length := by
  have hn := g.ne
  obtain ⟨i, o, rfl⟩ : ∃ i o, l = i ++ [o] := ⟨l.dropLast, l.getLast (by intro e; subst e; simp at hn), (List.dropLast_concat_getLast _).symm⟩
  obtain ⟨⟨i', e1, e2, e3⟩, _, hc⟩ := comp_form o i (fun s hs => g.good s (List.mem_append.2 (.inl hs)))
  have hlen := (comp_like (i ++ [o])).len
  rw [e1] at hlen
  have hli : i'.length = i.length := by simpa using hlen
  have ho : allL [o] = o.L := by simp [allL]
  have hB : ∀ f ∈ o.L, o.b ≤ f.o := fun f hf => (rise_mem (g.good o (by simp)).rise f hf).1
  have hA : ∀ f ∈ allL i, f.o < o.b := fun f hf => by
    obtain ⟨s, hs, hfs⟩ := List.mem_flatMap.1 hf
    obtain ⟨k, hk⟩ := List.mem_iff_getElem?.1 hs
    have hlt := (List.getElem?_eq_some_iff.1 hk).1
    have h1 := (rise_mem (g.good s (List.mem_append.2 (.inl hs))).rise f hfs).2
    have hk' : (i ++ [o])[k]? = some s := by rw [List.getElem?_append_left hlt]; exact hk
    obtain ⟨u, hu⟩ : ∃ u, (i ++ [o])[i.length - 1]? = some u := ⟨_, List.getElem?_eq_getElem (by simp; omega)⟩
    have h3 := chained_rise g.chain g.good k (i.length - 1) s u (by omega) hk' hu
    have h4 := chained_at g.chain hu (t := o) (by rw [show i.length - 1 + 1 = i.length by omega]; simp)
    have h2 : s.n ≤ o.b := by omega
    omega
  refine ⟨o, by simp, by rw [e1]; simp [← hli], ?_, ?_⟩
  · rw [e1, all_app, all_app, ho, e2]
    exact pick_is hB hA
  · rw [e1, all_app, all_app, ho, e2, List.length_append, List.length_append]
    omega
end Go.Proofs.Ytflcggpeflagiaa.L6
/-
  What the document keeps when a log is compacted, plain: just what the program does.
-/
namespace Go.Proofs.Ytflcggpeflagiaa.L6
open L3 L4 L5

/-- what the document keeps of a segment -/
def keepD (M : List L4.Fd) (L : List L4.Fd) : List L4.Fd := L.filter fun f => !(f.r.hk && laterB M f.o f.r.key)
theorem later_iff {M : List L4.Fd} {o : Int} {key : ByteArray} : laterB M o key = true ↔ ∃ g ∈ M, o < g.o ∧ g.r.hk = true ∧ g.r.key = key := by
  unfold laterB
  rw [List.any_eq_true]
  refine ⟨fun ⟨g, hg, h⟩ => ⟨g, hg, by simpa using h⟩, fun ⟨g, hg, h⟩ => ⟨g, hg, by simpa using h⟩⟩
theorem kept_keepD {M : List L4.Fd} {ks : List (List UInt8)} : ∀ {L : List L4.Fd}, (∀ P f t, L = P ++ f :: t → (late ks f t ↔ (f.r.hk = true ∧ laterB M f.o f.r.key = true))) → kept ks L = keepD M L
  | [], _ => rfl
  | f :: t, H => by
    have h1 := H [] f t rfl
    have ih := kept_keepD (M := M) (ks := ks) (L := t) (fun P g u e => H (f :: P) g u (by rw [e]; rfl))
    rw [kept, ih]
    unfold keepD
    by_cases h : f.r.hk = true ∧ laterB M f.o f.r.key = true
    · rw [if_pos (h1.2 h), List.filter_cons_of_neg (by simp [h.1, h.2])]; rfl
    · rw [if_neg (fun e => h (h1.1 e)), List.filter_cons_of_pos (by
        cases ha : f.r.hk <;> cases hb : laterB M f.o f.r.key <;> simp_all)]; rfl
/-- a segment's end is no further than a later one's beginning -/
theorem end_begin {room : Nat} {l : List Sg} (G : GoodL room l) {i j : Nat} {u v : Sg} (h : i < j) (hi : l[i]? = some u) (hj : l[j]? = some v) : u.n ≤ v.b := by
  obtain ⟨j, rfl⟩ : ∃ j', j = j' + 1 := ⟨j - 1, by omega⟩
  obtain ⟨x, hx⟩ : ∃ x, l[j]? = some x := ⟨_, List.getElem?_eq_getElem (by have := (List.getElem?_eq_some_iff.1 hj).1; omega)⟩
  rw [chained_at G.chain hx hj]
  exact good_le G (by omega) hi hx
theorem all_at {l : List Sg} {f : L4.Fd} : f ∈ allL l ↔ ∃ (i : Nat) (s : Sg), l[i]? = some s ∧ f ∈ s.L := by
  unfold allL
  rw [List.mem_flatMap]
  refine ⟨fun ⟨s, hs, hf⟩ => ?_, fun ⟨i, s, hs, hf⟩ => ⟨s, List.mem_of_getElem? hs, hf⟩⟩
  obtain ⟨i, hi, e⟩ := List.mem_iff_getElem.1 hs
  exact ⟨i, s, by rw [← e]; exact List.getElem?_eq_getElem _, hf⟩
theorem comp_keys {t : List Sg} (g : ∀ s ∈ t, L5.Good s.b s.n s.L) (h : 0 < t.length) (k : List UInt8) : k ∈ (comp t).2.1 ↔ ∃ f ∈ allL t, f.r.hk = true ∧ kb f.r.key = k := by
  obtain ⟨i, o, rfl⟩ := last_split h
  rw [(comp_form o i (fun s hs => g s (List.mem_append_left _ hs))).2.1 k, last_keys, last_keys, all_app]
  constructor
  · rintro ((h | ⟨f, hf, h⟩) | ⟨f, hf, h⟩)
    · simp at h
    · exact ⟨f, List.mem_append_right _ (by simpa [allL] using hf), h⟩
    · exact ⟨f, List.mem_append_left _ hf, h⟩
  · rintro ⟨f, hf, h⟩
    rcases List.mem_append.1 hf with hf | hf
    · exact .inr ⟨f, hf, h⟩
    · exact .inl (.inr ⟨f, by simpa [allL] using hf, h⟩)
theorem rise_parts {n : Int} : ∀ {a : Int} {P : List L4.Fd} {f : L4.Fd} {t : List L4.Fd}, riseB a n (P ++ f :: t) = true → (∀ g ∈ P, g.o < f.o) ∧ (∀ g ∈ t, f.o < g.o)
  | a, [], f, t, h => by
    obtain ⟨h1, h2, h3⟩ := rise_cons.1 (show riseB _ _ (f :: t) = true from h)
    exact ⟨fun g hg => (by cases hg), fun g hg => (by have := rise_mem h3 g hg; omega)⟩
  | a, p :: P, f, t, h => by
    obtain ⟨h1, h2, h3⟩ := rise_cons.1 (show riseB _ _ (p :: (P ++ f :: t)) = true from h)
    have q := rise_parts (P := P) (f := f) (t := t) h3
    obtain ⟨q1, q2⟩ := q
    refine ⟨fun g hg => ?_, q2⟩
    rcases List.mem_cons.1 hg with rfl | hg
    · have := rise_mem h3 f (by simp); omega
    · exact q1 g hg
theorem comp_head {room : Nat} {l pre t : List Sg} {s : Sg} (G : GoodL room l) (e : l = pre ++ s :: t) (h : 0 < t.length) : keepL s.L (lastL s.L (comp t).2.1).2 = keepD (allL l) s.L := by
  have gs : L5.Good s.b s.n s.L := G.good s (by rw [e]; simp)
  have gt : ∀ u ∈ t, L5.Good u.b u.n u.L := fun u hu => G.good u (by rw [e]; simp [hu])
  have hat : l[pre.length]? = some s := by rw [e, List.getElem?_append_right (Nat.le_refl _), Nat.sub_self]; rfl
  rw [keep_kept _ gs.rise]
  refine kept_keepD (fun P f u hL => ?_)
  obtain ⟨hP, hu⟩ := rise_parts (by rw [← hL]; exact gs.rise)
  have hfm := rise_mem gs.rise f (by rw [hL]; simp)
  unfold late
  refine and_congr_right fun _ => ?_
  rw [comp_keys gt h, later_iff]
  constructor
  · rintro (⟨g, hg, h1, h2⟩ | ⟨g, hg, h1, h2⟩)
    · obtain ⟨i, v, hv, hgv⟩ := all_at.1 hg
      have hv' : l[pre.length + (i + 1)]? = some v := by rw [e, List.getElem?_append_right (by omega), show pre.length + (i + 1) - pre.length = i + 1 by omega]; simpa using hv
      have q1 := end_begin G (by omega : pre.length < pre.length + (i + 1)) hat hv'
      have q2 := rise_mem (gt v (List.mem_of_getElem? hv)).rise g hgv
      exact ⟨g, all_at.2 ⟨_, v, hv', hgv⟩, by omega, h1, kb_inj h2⟩
    · exact ⟨g, all_at.2 ⟨_, s, hat, by rw [hL]; simp [hg]⟩, hu g hg, h1, kb_inj h2⟩
  · rintro ⟨g, hg, h0, h1, h2⟩
    obtain ⟨i, v, hv, hgv⟩ := all_at.1 hg
    have gv := G.good v (List.mem_of_getElem? hv)
    have q2 := rise_mem gv.rise g hgv
    rcases Nat.lt_trichotomy i pre.length with hi | hi | hi
    · have q1 := end_begin G hi hv hat
      omega
    · subst hi
      rw [hat] at hv
      cases hv
      rw [hL] at hgv
      rcases List.mem_append.1 hgv with q | q
      · have := hP g q; omega
      · rcases List.mem_cons.1 q with rfl | q
        · omega
        · exact .inr ⟨g, q, h1, by rw [h2]⟩
    · refine .inl ⟨g, all_at.2 ⟨i - pre.length - 1, v, ?_, hgv⟩, h1, by rw [h2]⟩
      rw [e, List.getElem?_append_right (by omega), show i - pre.length = (i - pre.length - 1) + 1 by omega] at hv
      simpa using hv
theorem comp_at {room : Nat} {l : List Sg} (G : GoodL room l) : ∀ (t pre : List Sg), l = pre ++ t → ∀ (i : Nat) (s : Sg), t[i]? = some s → (comp t).1[i]? = some (if i + 1 < t.length then ⟨s.b, s.n, keepD (allL l) s.L⟩ else s)
  | [], _, _, i, s, h => by simp at h
  | [u], pre, _, i, s, h => by
    cases i with
    | zero =>
      have : u = s := by simpa using h
      subst this
      rw [comp_one]; rfl
    | succ i => simp at h
  | u :: v :: t, pre, e, i, s, h => by
    rw [comp_cons u (v :: t) (by simp)]
    cases i with
    | zero =>
      have : u = s := by simpa using h
      subst this
      rw [comp_head G e (by simp), if_pos (by simp)]; rfl
    | succ i =>
      have := comp_at G (v :: t) (pre ++ [u]) (by rw [e, List.append_assoc]; rfl) i s (by simpa using h)
      show (comp (v :: t)).1[i]? = _
      rw [this]
      congr 1
      simp
theorem comp_len (l : List Sg) : (comp l).1.length = l.length := (comp_like l).len
/-- one round of the document's -/
theorem comp_round {room : Nat} {l : List Sg} {i : Nat} {s : Sg} (G : GoodL room l) (h : l[i]? = some s) (hi : i + 1 < l.length) : (comp l).1.take (i + 1) = (comp l).1.take i ++ [⟨s.b, s.n, keepD (allL l) s.L⟩] := by
  rw [List.take_add_one, comp_at G l [] rfl i s h, if_pos hi]; rfl
theorem comp_all {room : Nat} {l : List Sg} {N : Nat} (G : GoodL room l) (hN : l.length = N + 1) : (comp l).1.take N ++ l.drop N = (comp l).1 ∧ (allL l).length = (allL ((comp l).1.take N)).length + (allL (l.drop N)).length + (comp l).2.2 := by
  obtain ⟨o, ho, hc, _, hcnt⟩ := comp_facts G
  have e1 : l.length - 1 = N := by omega
  rw [e1] at ho hc
  have hd : l.drop N = [o] := by
    obtain ⟨hlt, hl⟩ := List.getElem?_eq_some_iff.1 ho
    rw [List.drop_eq_getElem_cons hlt, hl, List.drop_of_length_le (by omega)]
  have hfull : (comp l).1.take N ++ [o] = (comp l).1 := by
    have : (comp l).1.take (N + 1) = (comp l).1 := List.take_of_length_le (by rw [comp_len]; omega)
    conv => rhs; rw [← this]
    rw [List.take_add_one, hc]; rfl
  refine ⟨by rw [hd]; exact hfull, ?_⟩
  rw [← hcnt, hd]
  conv => lhs; rw [← hfull]
  rw [all_app, List.length_append]
end Go.Proofs.Ytflcggpeflagiaa.L6
