/-
  Plain: how even the parts are.
-/
import Derived.Test.YthogigaepnpmeaaAsRng
namespace Go.Proofs.Ythogigaepnpmeaa.L10
open L3 L4 L9

/-- how many of a topic -/
def cntT (p : List Pt) (t : ByteArray) : Nat := (p.filter (fun y => decide (y.t = t))).length
theorem cnt_next (p : List Pt) (t : ByteArray) {k : Nat} {y : Pt} (h : p[k]? = some y) : cntT (p.take (k + 1)) t = cntT (p.take k) t + if y.t = t then 1 else 0 := by
  unfold cntT
  rw [List.take_add_one, h, List.filter_append, List.length_append]
  show _ + ((List.filter _ [y]).length) = _
  rw [List.filter_cons]
  by_cases q : y.t = t
  · simp [q]
  · simp [q]
theorem cnt_none {p : List Pt} {t : ByteArray} (h : ∀ y ∈ p, y.t ≠ t) : cntT p t = 0 := by
  unfold cntT
  rw [List.length_eq_zero_iff, List.filter_eq_nil_iff]
  intro y hy
  simpa using h y hy
theorem cnt_all {p : List Pt} {t : ByteArray} (h : ∀ y ∈ p, y.t = t) : cntT p t = p.length := by
  unfold cntT
  rw [List.filter_eq_self.2]
  intro y hy
  simpa using h y hy
theorem cnt_app (p q : List Pt) (t : ByteArray) : cntT (p ++ q) t = cntT p t + cntT q t := by
  unfold cntT
  rw [List.filter_append, List.length_append]
/-- a member's parts: those ahead of the topic, the topic's, those behind -/
theorem rng_parts {l : List Pt} (hr : Rise l) (ms : List Mb) (a : Nat) {j : Nat} {x : Pt} (hx : l[j]? = some x) :
    ∃ u v, rngL l ms a = u ++ (rngT ms a x ++ v) ∧ (∀ y ∈ u, y.t ≠ x.t) ∧ (∀ y ∈ v, y.t ≠ x.t) := by
  have hlen := (List.getElem?_eq_some_iff.1 hx).1
  have e1 : l = l.take j ++ x :: l.drop (j + 1) := by
    have h := List.take_append_drop j l
    rw [List.drop_eq_getElem_cons hlen, (List.getElem?_eq_some_iff.1 hx).2] at h
    exact h.symm
  have hp := Rise.ne hr
  rw [e1] at hp
  obtain ⟨_, h2, h3⟩ := List.pairwise_append.1 hp
  obtain ⟨h4, _⟩ := List.pairwise_cons.1 h2
  refine ⟨(l.take j).flatMap (rngT ms a), (l.drop (j + 1)).flatMap (rngT ms a), ?_, ?_, ?_⟩
  · conv => lhs; rw [e1]
    unfold rngL
    rw [List.flatMap_append, List.flatMap_cons]
  · intro y hy
    obtain ⟨z, hz, hy⟩ := List.mem_flatMap.1 hy
    rw [rngT_t hy]
    exact h3 z hz x List.mem_cons_self
  · intro y hy
    obtain ⟨z, hz, hy⟩ := List.mem_flatMap.1 hy
    rw [rngT_t hy]
    exact fun e => h4 z hz e.symm
theorem rngT_at {ms : List Mb} {a : Nat} {x y : Pt} {d : Nat} (h : (rngT ms a x)[d]? = some y) : y.n = ((fromR (able ms x.t).length x.n.toNat (cntA ms x.t a) + d : Nat) : Int) := by
  unfold rngT at h
  split at h
  · rw [List.getElem?_map] at h
    obtain ⟨d', h1, rfl⟩ := Option.map_eq_some_iff.1 h
    have hd := (List.getElem?_eq_some_iff.1 h1)
    obtain ⟨hd1, hd2⟩ := hd
    rw [List.getElem_range] at hd2
    subst hd2; rfl
  · simp at h
/-- one behind the other -/
theorem fair_next {l : List Pt} (hr : Rise l) (ms : List Mb) (a : Nat) {j : Nat} {x : Pt} (hx : l[j]? = some x) {k : Nat} {y : Pt} (hy : (rngL l ms a)[k]? = some y) (ht : y.t = x.t)
    (hc : 0 < cntT ((rngL l ms a).take k) x.t) : ∃ k' z, k = k' + 1 ∧ (rngL l ms a)[k']? = some z ∧ y.n = z.n + 1 := by
  obtain ⟨u, v, e, hu, hv⟩ := rng_parts hr ms a hx
  rw [e] at hy hc ⊢
  rcases Nat.lt_or_ge k u.length with q | q
  · rw [List.getElem?_append_left q] at hy
    exact absurd ht (hu y (List.mem_of_getElem? hy))
  · rw [List.getElem?_append_right q] at hy
    obtain ⟨d, rfl⟩ : ∃ d, k = u.length + d := ⟨k - u.length, by omega⟩
    rw [Nat.add_sub_cancel_left] at hy
    rcases Nat.lt_or_ge d (rngT ms a x).length with q2 | q2
    · rw [List.getElem?_append_left q2] at hy
      match d, hy, q2 with
      | 0, _, _ =>
        rw [Nat.add_zero, List.take_left, cnt_none hu] at hc
        omega
      | d + 1, hy, q2 =>
        obtain ⟨z, hz⟩ : ∃ z, (rngT ms a x)[d]? = some z := ⟨_, List.getElem?_eq_getElem (by omega)⟩
        refine ⟨u.length + d, z, rfl, ?_, ?_⟩
        · rw [List.getElem?_append_right (by omega), Nat.add_sub_cancel_left, List.getElem?_append_left (by omega)]
          exact hz
        · rw [rngT_at hy, rngT_at hz]; push_cast; omega
    · rw [List.getElem?_append_right q2] at hy
      exact absurd ht (hv y (List.mem_of_getElem? hy))
/-- how many a member has of a topic -/
theorem fair_cnt {l : List Pt} (hr : Rise l) (ms : List Mb) (a : Nat) {j : Nat} {x : Pt} (hx : l[j]? = some x) (hw : wantAt ms a x.t = true) :
    x.n.toNat / (able ms x.t).length ≤ cntT (rngL l ms a) x.t ∧ cntT (rngL l ms a) x.t ≤ x.n.toNat / (able ms x.t).length + 1 := by
  obtain ⟨u, v, e, hu, hv⟩ := rng_parts hr ms a hx
  rw [e, cnt_app, cnt_app, cnt_none hu, cnt_none hv, cnt_all (fun y hy => rngT_t hy)]
  unfold rngT
  rw [if_pos hw, List.length_map, List.length_range, from_next]
  generalize x.n.toNat / (able ms x.t).length = e'
  split <;> omega

/-! ### one after the other, when all want all -/
def AllW (l : List Pt) (ms : List Mb) : Prop := ∀ x ∈ l, ∀ k, k < ms.length → wantAt ms k x.t = true
theorem able_all {ms : List Mb} {t : ByteArray} (h : ∀ k, k < ms.length → wantAt ms k t = true) : able ms t = List.range ms.length := by
  unfold able ableTo
  exact List.filter_eq_self.2 fun k hk => h k (List.mem_range.1 hk)
theorem posB_range (m p : Nat) (h : p ≤ m) : posB (List.range m) p = p := by
  unfold posB
  induction m with
  | zero => obtain rfl : p = 0 := by omega
            rfl
  | succ m ih =>
    rw [List.range_succ, List.filter_append, List.length_append]
    rcases Nat.lt_or_ge m p with q | q
    · obtain rfl : p = m + 1 := by omega
      have e : (List.range m).filter (fun x => decide (x < m + 1)) = List.range m := List.filter_eq_self.2 fun x hx => by
        have := List.mem_range.1 hx
        simp; omega
      rw [e, List.length_range]
      simp
    · rw [ih q]
      simp; omega
theorem pickB_range {m p q : Nat} (hm : 0 < m) (hp : p ≤ m) (h : p % m = q % m) : pickB (List.range m) p = q % m := by
  unfold pickB
  rw [posB_range m p hp, List.length_range, h, List.getD_eq_getElem?_getD, List.getElem?_range (Nat.mod_lt _ hm)]
  rfl
/-- the members whose turn it is, one after the other -/
theorem one_turn {m : Nat} (hm : 0 < m) (t : ByteArray) (n : Nat) {p q : Nat} (hp : p ≤ m) (h : p % m = q % m) : ∀ i,
    (oneT chB (List.range m) t n p i).1.map (·.1) = (List.range i).map (fun i => (q + i) % m) ∧ (oneT chB (List.range m) t n p i).2 ≤ m ∧ (oneT chB (List.range m) t n p i).2 % m = (q + i) % m
  | 0 => ⟨rfl, hp, h⟩
  | i + 1 => by
    obtain ⟨h1, h2, h3⟩ := one_turn hm t n hp h i
    have e := pickB_range hm h2 h3
    have hlt : (q + i) % m < m := Nat.mod_lt _ hm
    refine ⟨?_, ?_, ?_⟩
    · show ((oneT chB (List.range m) t n p i).1 ++ [(pickB (List.range m) (oneT chB (List.range m) t n p i).2, (⟨t, (i : Int)⟩ : Pt))]).map Prod.fst = _
      rw [List.map_append, h1, List.range_succ, List.map_append]
      show _ ++ [pickB (List.range m) (oneT chB (List.range m) t n p i).2] = _
      rw [e]; rfl
    · show pickB (List.range m) (oneT chB (List.range m) t n p i).2 + 1 ≤ m
      rw [e]; exact hlt
    · show (pickB (List.range m) (oneT chB (List.range m) t n p i).2 + 1) % m = _
      rw [e, Nat.mod_add_mod]; rfl
def totL (l : List Pt) : Nat := (l.map (fun x => x.n.toNat)).sum
theorem seq_turn {ms : List Mb} (hm : 0 < ms.length) : ∀ (l : List Pt) {p q : Nat}, AllW l ms → p ≤ ms.length → p % ms.length = q % ms.length →
    (seqT chB ms l p).1.map (·.1) = (List.range (totL l)).map (fun i => (q + i) % ms.length)
  | [], _, _, _, _, _ => rfl
  | x :: l, p, q, ha, hp, h => by
    have e := able_all (ha x List.mem_cons_self)
    have hne : able ms x.t ≠ [] := by rw [e]; intro z; have := congrArg List.length z; rw [List.length_range] at this; exact absurd this (by show ¬ ms.length = 0; omega)
    have et : topT chB ms x p = oneT chB (List.range ms.length) x.t x.n.toNat p x.n.toNat := by unfold topT; rw [if_neg hne, e]
    obtain ⟨h1, h2, h3⟩ := one_turn hm x.t x.n.toNat hp h x.n.toNat
    have ih := seq_turn hm l (p := (topT chB ms x p).2) (q := q + x.n.toNat) (fun y hy => ha y (List.mem_cons_of_mem _ hy)) (by rw [et]; exact h2) (by rw [et]; exact h3)
    show ((topT chB ms x p).1 ++ (seqT chB ms l (topT chB ms x p).2).1).map (·.1) = _
    rw [List.map_append, ih, et, h1]
    have e2 : totL (x :: l) = x.n.toNat + totL l := rfl
    rw [e2, List.range_add, List.map_append, List.map_map]
    congr 1
    refine List.map_congr_left fun i _ => ?_
    show _ = (q + (x.n.toNat + i)) % ms.length
    rw [Nat.add_assoc]
theorem own_fst (s : List (Nat × Pt)) (k : Nat) : (ownL s k).length = ((s.map (·.1)).filter (fun i => decide (i = k))).length := by
  unfold ownL
  rw [List.length_map, List.filter_map, List.length_map]
  rfl
theorem turn_cnt {m k : Nat} (hk : k < m) : ∀ T, (((List.range T).map (fun i => i % m)).filter (fun i => decide (i = k))).length = T / m + if k < T % m then 1 else 0
  | 0 => by simp
  | T + 1 => by
    have hm : 0 < m := by omega
    rw [List.range_succ, List.map_append, List.filter_append, List.length_append, turn_cnt hk T]
    have h1 := Nat.div_add_mod T m
    have hlt := Nat.mod_lt T hm
    have e3 : ((List.map (fun i => i % m) [T]).filter (fun i => decide (i = k))).length = if T % m = k then 1 else 0 := by
      by_cases q : T % m = k
      · simp [q]
      · simp [q]
    rw [e3]
    rcases Nat.lt_or_ge (T % m + 1) m with q | q
    · have e1 : (T + 1) / m = T / m := by
        rw [Nat.succ_div, if_neg, Nat.add_zero]
        intro hd
        have := Nat.mod_eq_zero_of_dvd hd
        rw [Nat.add_mod, Nat.mod_eq_of_lt (show 1 < m by omega), Nat.mod_eq_of_lt q] at this
        omega
      have e2 : (T + 1) % m = T % m + 1 := by
        rw [Nat.add_mod, Nat.mod_eq_of_lt (show 1 < m by omega), Nat.mod_eq_of_lt q]
      rw [e1, e2]
      split <;> split <;> split <;> omega
    · have q' : T % m = m - 1 := by omega
      have hs : T + 1 = m * (T / m + 1) := by rw [Nat.mul_add]; omega
      have e1 : (T + 1) / m = T / m + 1 := by rw [hs, Nat.mul_div_cancel_left _ hm]
      have e2 : (T + 1) % m = 0 := by rw [hs, Nat.mul_mod_right]
      rw [e1, e2]
      split <;> split <;> split <;> omega
theorem robin_cnt {l : List Pt} {ms : List Mb} (ha : AllW l ms) {k : Nat} (hk : k < ms.length) :
    totL l / ms.length ≤ (ownL (seqT chB ms l 0).1 k).length ∧ (ownL (seqT chB ms l 0).1 k).length ≤ totL l / ms.length + 1 := by
  have e := seq_turn (by omega) l (p := 0) (q := 0) ha (Nat.zero_le _) rfl
  rw [own_fst, e]
  have e2 : (List.range (totL l)).map (fun i => (0 + i) % ms.length) = (List.range (totL l)).map (fun i => i % ms.length) := List.map_congr_left fun i _ => by rw [Nat.zero_add]
  rw [e2, turn_cnt hk]
  split <;> omega
end Go.Proofs.Ythogigaepnpmeaa.L10
