/-
  Plain: by stretches, member by member.
-/
import Derived.Test.YthongbobopampaaAsFacts
import Derived.Test.YthongbobopampaaAsProg
import Derived.Test.YthongbobopampaaAsShare
namespace Go.Proofs.Ythongbobopampaa.L10
open L3 L4 L9

/-- what a member has of a topic -/
def cntA (ms : List Mb) (t : ByteArray) (a : Nat) : Nat := (ableTo ms t a).length
def rngT (ms : List Mb) (a : Nat) (x : Pt) : List Pt :=
  if wantAt ms a x.t = true then (List.range (fromR (able ms x.t).length x.n.toNat (cntA ms x.t a + 1) - fromR (able ms x.t).length x.n.toNat (cntA ms x.t a))).map (fun d : Nat => (⟨x.t, ((fromR (able ms x.t).length x.n.toNat (cntA ms x.t a) + d : Nat) : Int)⟩ : Pt)) else []
def rngL (l : List Pt) (ms : List Mb) (a : Nat) : List Pt := l.flatMap (rngT ms a)
theorem filter_range {a b N : Nat} (h : a ≤ b) (hb : b ≤ N) : (List.range N).filter (fun i => decide (a ≤ i ∧ i < b)) = (List.range (b - a)).map (fun d => a + d) := by
  have e : List.range N = List.range' 0 a ++ (List.range' a (b - a) ++ List.range' b (N - b)) := by
    have h1 := List.range'_append_1 (s := a) (m := b - a) (n := N - b)
    rw [show a + (b - a) = b by omega] at h1
    rw [h1]
    have h2 := List.range'_append_1 (s := 0) (m := a) (n := b - a + (N - b))
    rw [Nat.zero_add] at h2
    rw [h2, List.range_eq_range']
    congr 1
    omega
  rw [e, List.filter_append, List.filter_append]
  have f1 : (List.range' 0 a).filter (fun i => decide (a ≤ i ∧ i < b)) = [] := by
    rw [List.filter_eq_nil_iff]
    intro x hx
    have := List.mem_range'_1.1 hx
    simp; omega
  have f2 : (List.range' a (b - a)).filter (fun i => decide (a ≤ i ∧ i < b)) = List.range' a (b - a) := by
    rw [List.filter_eq_self]
    intro x hx
    have := List.mem_range'_1.1 hx
    simp; omega
  have f3 : (List.range' b (N - b)).filter (fun i => decide (a ≤ i ∧ i < b)) = [] := by
    rw [List.filter_eq_nil_iff]
    intro x hx
    have := List.mem_range'_1.1 hx
    simp; omega
  rw [f1, f2, f3, List.nil_append, List.append_nil, List.range'_eq_map_range]
theorem able_at {ms : List Mb} {t : ByteArray} {a : Nat} (h : wantAt ms a t = true) : (able ms t)[cntA ms t a]? = some a ∧ cntA ms t a < (able ms t).length := by
  have ha := wantAt_lt h
  have key : ∀ k, k ≤ ms.length → a < k → (ableTo ms t k)[cntA ms t a]? = some a := by
    intro k
    induction k with
    | zero => intro _ h; omega
    | succ k ih =>
      intro hk hak
      rw [ableTo_next]
      rcases Nat.lt_or_ge a k with q | q
      · have := ih (by omega) q
        rw [List.getElem?_append_left (List.getElem?_eq_some_iff.1 this).1]; exact this
      · obtain rfl : a = k := by omega
        rw [if_pos h]
        unfold cntA
        rw [List.getElem?_append_right (Nat.le_refl _), Nat.sub_self]
        rfl
  have := key ms.length (Nat.le_refl _) ha
  exact ⟨this, (List.getElem?_eq_some_iff.1 this).1⟩
theorem oneR (ab : List Nat) (t : ByteArray) (n p : Nat) : ∀ i, (oneT chR ab t n p i).1 = (List.range i).map (fun i : Nat => (pickR ab i n, (⟨t, (i : Int)⟩ : Pt)))
  | 0 => rfl
  | i + 1 => by
    show (oneT chR ab t n p i).1 ++ [(pickR ab i n, _)] = _
    rw [oneR ab t n p i, List.range_succ, List.map_append]; rfl
theorem own_top {ms : List Mb} (a : Nat) (x : Pt) (p : Nat) : ownL (topT chR ms x p).1 a = rngT ms a x := by
  unfold topT
  split
  · rename_i h
    unfold rngT
    rw [if_neg (fun q => by have := mem_able.2 q; rw [h] at this; cases this)]
    rfl
  · rename_i h
    rw [oneR]
    unfold ownL
    rw [List.filter_map, List.map_map]
    obtain ⟨N, hN⟩ : ∃ N, x.n.toNat = N := ⟨_, rfl⟩
    rw [hN]
    have hpos := List.length_pos_iff.2 h
    by_cases hw : wantAt ms a x.t = true
    · obtain ⟨hab, hlt⟩ := able_at hw
      unfold rngT
      rw [if_pos hw, hN]
      have hto : fromR (able ms x.t).length N (cntA ms x.t a + 1) ≤ N := by
        have := from_mono (able ms x.t).length N (show cntA ms x.t a + 1 ≤ (able ms x.t).length from hlt)
        rwa [from_all N hpos] at this
      have hfl := filter_range (from_mono (able ms x.t).length N (Nat.le_succ (cntA ms x.t a))) hto
      have hcong : (List.range N).filter ((fun y : Nat × Pt => decide (y.1 = a)) ∘ fun i : Nat => (pickR (able ms x.t) i N, (⟨x.t, (i : Int)⟩ : Pt))) = (List.range N).filter (fun i => decide (fromR (able ms x.t).length N (cntA ms x.t a) ≤ i ∧ i < fromR (able ms x.t).length N (cntA ms x.t a + 1))) := by
        refine List.filter_congr fun i hi => ?_
        have hi' := List.mem_range.1 hi
        have hr := (rank_in hpos hi').2.2
        show decide (pickR (able ms x.t) i N = a) = _
        rw [decide_eq_decide, ← rank_iff hpos hi']
        unfold pickR
        rw [List.getD_eq_getElem?_getD, List.getElem?_eq_getElem hr]
        constructor
        · intro e
          have e' : (able ms x.t)[rankR (able ms x.t).length i N] = a := e
          obtain ⟨h1, h2⟩ := List.getElem?_eq_some_iff.1 hab
          have hp := List.pairwise_iff_getElem.1 (able_rise ms x.t)
          rcases Nat.lt_trichotomy (rankR (able ms x.t).length i N) (cntA ms x.t a) with q | q | q
          · have := hp _ _ hr h1 q; omega
          · exact q
          · have := hp _ _ h1 hr q; omega
        · intro e
          obtain ⟨h1, h2⟩ := List.getElem?_eq_some_iff.1 hab
          show ((able ms x.t)[rankR (able ms x.t).length i N]) = a
          simp only [e]
          exact h2
      rw [hcong, hfl, List.map_map]
      rfl
    · unfold rngT
      rw [if_neg hw]
      have : (List.range N).filter ((fun y : Nat × Pt => decide (y.1 = a)) ∘ fun i : Nat => (pickR (able ms x.t) i N, (⟨x.t, (i : Int)⟩ : Pt))) = [] := by
        rw [List.filter_eq_nil_iff]
        intro i hi
        have hm := pickR_mem h (List.mem_range.1 hi)
        show ¬ decide (pickR (able ms x.t) i N = a) = true
        rw [decide_eq_true_eq]
        intro e
        rw [e] at hm
        exact hw (mem_able.1 hm)
      rw [this]; rfl
theorem own_seqR {ms : List Mb} (a : Nat) : ∀ (l : List Pt) (p : Nat), ownL (seqT chR ms l p).1 a = rngL l ms a
  | [], _ => rfl
  | x :: l, p => by
    show ownL ((topT chR ms x p).1 ++ (seqT chR ms l (topT chR ms x p).2).1) a = _
    rw [ownL_app, own_top, own_seqR a l]
    unfold rngL
    rw [List.flatMap_cons]
theorem rangeL_eq (l : List Pt) (ms : List Mb) : rangeL l ms = (List.range ms.length).map (rngL l ms) := by
  unfold rangeL listsL
  exact List.map_congr_left fun a _ => own_seqR a l 0
theorem rngT_t {ms : List Mb} {a : Nat} {x y : Pt} (h : y ∈ rngT ms a x) : y.t = x.t := by
  unfold rngT at h
  split at h
  · obtain ⟨d, _, rfl⟩ := List.mem_map.1 h; rfl
  · cases h
/-- one topic grown: the others' are as they were -/
theorem rng_grown {l : List Pt} (ms : List Mb) (a : Nat) {n : Nat} {x : Pt} (hx : l[n]? = some x) (N : Int) :
    (rngL (l.set n ⟨x.t, N⟩) ms a).filter (fun y => !decide (y.t = x.t)) = (rngL l ms a).filter (fun y => !decide (y.t = x.t)) := by
  have key : ∀ z : Pt, (rngT ms a z).filter (fun y => !decide (y.t = x.t)) = if z.t = x.t then [] else rngT ms a z := fun z => by
    split
    · rename_i h
      rw [List.filter_eq_nil_iff]
      intro y hy
      simp [rngT_t hy, h]
    · rename_i h
      rw [List.filter_eq_self]
      intro y hy
      simp [rngT_t hy, h]
  unfold rngL
  rw [List.filter_flatMap, List.filter_flatMap]
  have hlen := (List.getElem?_eq_some_iff.1 hx).1
  have e1 : l = l.take n ++ x :: l.drop (n + 1) := by
    have h := List.take_append_drop n l
    rw [List.drop_eq_getElem_cons hlen, (List.getElem?_eq_some_iff.1 hx).2] at h
    exact h.symm
  have e2 : l.set n ⟨x.t, N⟩ = l.take n ++ ⟨x.t, N⟩ :: l.drop (n + 1) := by rw [List.set_eq_take_append_cons_drop, if_pos hlen]
  rw [e2]
  conv => rhs; rw [e1]
  rw [List.flatMap_append, List.flatMap_append, List.flatMap_cons, List.flatMap_cons]
  rw [key ⟨x.t, N⟩, key x, if_pos rfl, if_pos rfl]
theorem chk_grown {l : List Pt} {ms : List Mb} (h : chkE l ms 0) {n : Nat} {x : Pt} (hx : l[n]? = some x) {N : Int} (hN : 1 ≤ N ∧ N ≤ 8) : chkE (l.set n ⟨x.t, N⟩) ms 0 := by
  obtain ⟨hg, h8, hr⟩ := chk_ok h
  have hgood : L9.Good (l.set n ⟨x.t, N⟩) := by
    refine ⟨?_, fun y hy => ?_, by rw [List.length_set]; exact hg.len⟩
    · rw [rise_map]
      have : (l.set n ⟨x.t, N⟩).map Pt.t = l.map Pt.t := by
        rw [List.map_set]
        show (l.map Pt.t).set n x.t = _
        apply List.ext_getElem?
        intro i
        rw [List.getElem?_set]
        split
        · rename_i e
          subst e
          rw [List.getElem?_map, hx]
          have := (List.getElem?_eq_some_iff.1 hx).1
          simp [this]
        · rfl
      rw [this]
      exact rise_map.1 hg.rise
    · rcases List.mem_or_eq_of_mem_set hy with q | q
      · exact hg.may y q
      · subst q
        have := may_name (hg.may x (List.mem_of_getElem? hx))
        unfold mayB
        dsimp only
        rw [this, decide_eq_true hN]; rfl
  refine ⟨0, ?_, .inr ⟨rfl, .inr (.inl ⟨h8, hr, rfl⟩)⟩⟩
  unfold loadE
  rw [if_neg (by have := hgood.len; omega)]
  exact .inl ⟨rfl, L9.Good.okTo hgood⟩
theorem own_short {n : Nat} {s : List (Nat × Pt)} {x : List Pt} (h : x ∈ listsL n s) : x.length ≤ s.length := by
  unfold listsL at h
  obtain ⟨k, _, rfl⟩ := List.mem_map.1 h
  unfold ownL
  rw [List.length_map]
  exact List.length_filter_le _ _
theorem range_64 {l : List Pt} {ms : List Mb} (h : chkE l ms 0) {x : List Pt} (hx : x ∈ rangeL l ms) : x.length ≤ 64 := by
  have h1 := own_short hx
  have hg := (chk_ok h).1
  have h2 := seq_len chR ms l 0 (fun x hx => (hg.fit x hx).2.2)
  have := hg.len
  omega
theorem robin_64 {l : List Pt} {ms : List Mb} (h : chkE l ms 0) {x : List Pt} (hx : x ∈ robinL l ms) : x.length ≤ 64 := by
  have h1 := own_short hx
  have hg := (chk_ok h).1
  have h2 := seq_len chB ms l 0 (fun x hx => (hg.fit x hx).2.2)
  have := hg.len
  omega
end Go.Proofs.Ythongbobopampaa.L10
