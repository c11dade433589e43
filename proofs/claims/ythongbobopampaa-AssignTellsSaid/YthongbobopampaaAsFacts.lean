/-
  Plain: what follows for whoever has which partitions.
-/
import Derived.Test.YthongbobopampaaAsMath
namespace Go.Proofs.Ythongbobopampaa.L10
open L3 L4 L9

/-! ### each partition is one member's -/
def partsT (x : Pt) : List Pt := (List.range x.n.toNat).map (fun i : Nat => (⟨x.t, (i : Int)⟩ : Pt))
def someL (l : List Pt) (ms : List Mb) : List Pt := l.flatMap (fun x => if able ms x.t = [] then [] else partsT x)
/-- whoever is chosen is able -/
def ChOk (ch : Ch) : Prop := ∀ p ab i n, ab ≠ [] → i < n → (ch p ab i n).1 ∈ ab
theorem chR_ok : ChOk chR := fun _ _ _ _ h hi => pickR_mem h hi
theorem chB_ok : ChOk chB := fun p _ _ _ h _ => pick_mem h p
theorem one_snd (ch : Ch) (ab : List Nat) (t : ByteArray) (n p : Nat) : ∀ i, (oneT ch ab t n p i).1.map (·.2) = (List.range i).map (fun i : Nat => (⟨t, (i : Int)⟩ : Pt))
  | 0 => rfl
  | i + 1 => by
    show List.map (fun y : Nat × Pt => y.2) ((oneT ch ab t n p i).1 ++ [_]) = _
    rw [List.map_append, one_snd ch ab t n p i, List.range_succ, List.map_append]; rfl
theorem one_able {ch : Ch} (hc : ChOk ch) {ab : List Nat} (h : ab ≠ []) (t : ByteArray) (n p : Nat) : ∀ i, i ≤ n → ∀ y ∈ (oneT ch ab t n p i).1, y.1 ∈ ab ∧ y.2.t = t
  | 0, _, y, hy => by cases hy
  | i + 1, hi, y, hy => by
    have hy' : y ∈ (oneT ch ab t n p i).1 ++ [((ch (oneT ch ab t n p i).2 ab i n).1, ⟨t, (i : Int)⟩)] := hy
    rcases List.mem_append.1 hy' with hy' | hy'
    · exact one_able hc h t n p i (by omega) y hy'
    · rw [List.mem_singleton.1 hy']; exact ⟨hc _ _ _ _ h (by omega), rfl⟩
theorem top_snd (ch : Ch) (ms : List Mb) (x : Pt) (p : Nat) : (topT ch ms x p).1.map (·.2) = if able ms x.t = [] then [] else partsT x := by
  unfold topT
  split
  · rfl
  · exact one_snd _ _ _ _ _ _
theorem top_able {ch : Ch} (hc : ChOk ch) (ms : List Mb) (x : Pt) (p : Nat) : ∀ y ∈ (topT ch ms x p).1, y.1 ∈ able ms y.2.t := fun y hy => by
  unfold topT at hy
  split at hy
  · cases hy
  · rename_i h
    obtain ⟨h1, h2⟩ := one_able hc h x.t _ p _ (Nat.le_refl _) y hy
    rw [h2]; exact h1
theorem seq_snd (ch : Ch) (ms : List Mb) : ∀ (l : List Pt) (p : Nat), (seqT ch ms l p).1.map (·.2) = someL l ms
  | [], _ => rfl
  | x :: l, p => by
    show ((topT ch ms x p).1 ++ (seqT ch ms l (topT ch ms x p).2).1).map (·.2) = _
    rw [List.map_append, top_snd, seq_snd ch ms l]
    unfold someL
    rw [List.flatMap_cons]
theorem seq_able {ch : Ch} (hc : ChOk ch) (ms : List Mb) : ∀ (l : List Pt) (p : Nat), ∀ y ∈ (seqT ch ms l p).1, y.1 ∈ able ms y.2.t
  | [], _, y, hy => by cases hy
  | x :: l, p, y, hy => by
    rcases List.mem_append.1 (show y ∈ (topT ch ms x p).1 ++ (seqT ch ms l (topT ch ms x p).2).1 from hy) with hy | hy
    · exact top_able hc ms x p y hy
    · exact seq_able hc ms l _ y hy
theorem mem_parts {x y : Pt} : y ∈ partsT x ↔ y.t = x.t ∧ 0 ≤ y.n ∧ y.n < (x.n.toNat : Int) := by
  unfold partsT
  rw [List.mem_map]
  constructor
  · rintro ⟨i, hi, rfl⟩
    have := List.mem_range.1 hi
    exact ⟨rfl, Int.natCast_nonneg i, Int.ofNat_lt.2 this⟩
  · rintro ⟨h1, h2, h3⟩
    refine ⟨y.n.toNat, List.mem_range.2 (by omega), ?_⟩
    cases y
    simp at h1 h2 ⊢
    exact ⟨h1.symm, by omega⟩
theorem mem_some {l : List Pt} {ms : List Mb} {y : Pt} : y ∈ someL l ms ↔ ∃ x ∈ l, able ms x.t ≠ [] ∧ y.t = x.t ∧ 0 ≤ y.n ∧ y.n < (x.n.toNat : Int) := by
  unfold someL
  rw [List.mem_flatMap]
  constructor
  · rintro ⟨x, hx, hy⟩
    split at hy
    · cases hy
    · rename_i h
      exact ⟨x, hx, h, mem_parts.1 hy⟩
  · rintro ⟨x, hx, h, hy⟩
    exact ⟨x, hx, by rw [if_neg h]; exact mem_parts.2 hy⟩
theorem parts_nodup (x : Pt) : (partsT x).Nodup := by
  unfold partsT
  refine List.Pairwise.map _ ?_ List.nodup_range
  intro a b h e
  injection e with _ e
  omega
theorem some_nodup {l : List Pt} (h : Rise l) (ms : List Mb) : (someL l ms).Nodup := by
  induction l with
  | nil => exact List.nodup_nil
  | cons x l ih =>
    obtain ⟨h1, h2⟩ := List.pairwise_cons.1 h
    unfold someL
    rw [List.flatMap_cons]
    refine List.nodup_append.2 ⟨by split; exact List.nodup_nil; exact parts_nodup x, ih h2, fun y hy z hz e => ?_⟩
    subst e
    split at hy
    · cases hy
    · obtain ⟨w, hw, _, e, _⟩ := mem_some.1 hz
      have hx := (mem_parts.1 hy).1
      exact less_ne (h1 w hw) (by rw [← hx, e])
theorem mem_own {s : List (Nat × Pt)} {k : Nat} {y : Pt} : y ∈ ownL s k ↔ (k, y) ∈ s := by
  unfold ownL
  rw [List.mem_map]
  constructor
  · rintro ⟨⟨a, b⟩, h, rfl⟩
    obtain ⟨h1, h2⟩ := List.mem_filter.1 h
    have : a = k := by simpa using h2
    rw [← this]; exact h1
  · intro h
    exact ⟨(k, y), List.mem_filter.2 ⟨h, by simp⟩, rfl⟩
/-- one owner at most -/
theorem own_one {s : List (Nat × Pt)} (h : (s.map (·.2)).Nodup) {j k : Nat} {y : Pt} (hj : y ∈ ownL s j) (hk : y ∈ ownL s k) : j = k := by
  rw [mem_own] at hj hk
  induction s with
  | nil => cases hj
  | cons a t ih =>
    rw [List.map_cons, List.nodup_cons] at h
    obtain ⟨h1, h2⟩ := h
    rcases List.mem_cons.1 hj with e | e
    · rcases List.mem_cons.1 hk with f | f
      · rw [← e] at f; injection f with f; exact f.symm
      · exact absurd (List.mem_map.2 ⟨_, f, by rw [← e]⟩) h1
    · rcases List.mem_cons.1 hk with f | f
      · exact absurd (List.mem_map.2 ⟨_, e, by rw [← f]⟩) h1
      · exact ih h2 e f
/-- how many there are -/
def sumL : List (List Pt) → Nat
  | [] => 0
  | x :: L => x.length + sumL L
theorem sum_app (a b : List (List Pt)) : sumL (a ++ b) = sumL a + sumL b := by
  induction a with
  | nil => simp [sumL]
  | cons x a ih => simp [sumL, ih]; omega
theorem own_len {s : List (Nat × Pt)} {k : Nat} (a : Nat × Pt) : (ownL (a :: s) k).length = (ownL s k).length + if a.1 = k then 1 else 0 := by
  have e : ownL (a :: s) k = ownL [a] k ++ ownL s k := ownL_app [a] s k
  rw [e, List.length_append]
  obtain ⟨j, y⟩ := a
  rw [ownL_one]
  split <;> simp <;> omega
theorem sum_lists (n : Nat) : ∀ {s : List (Nat × Pt)}, (∀ y ∈ s, y.1 < n) → sumL (listsL n s) = s.length
  | [], h => by
    clear h
    unfold listsL
    induction n with
    | zero => rfl
    | succ n ih => rw [List.range_succ, List.map_append, sum_app, ih]; rfl
  | a :: s, h => by
    have ih := sum_lists n (s := s) (fun y hy => h y (List.mem_cons_of_mem _ hy))
    have ha := h a List.mem_cons_self
    have key : ∀ m, sumL ((List.range m).map (ownL (a :: s))) = sumL ((List.range m).map (ownL s)) + if a.1 < m then 1 else 0 := by
      intro m
      induction m with
      | zero => rfl
      | succ m ihm =>
        rw [List.range_succ, List.map_append, List.map_append, sum_app, sum_app, ihm]
        simp only [List.map_cons, List.map_nil, sumL, own_len]
        split <;> split <;> split <;> omega
    unfold listsL at ih ⊢
    rw [key n, ih, if_pos ha, List.length_cons]
end Go.Proofs.Ythongbobopampaa.L10
