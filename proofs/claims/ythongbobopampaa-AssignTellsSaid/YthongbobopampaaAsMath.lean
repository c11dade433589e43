/-
  Plain: who has which partitions.
-/
import Derived.Test.YthongbobopampaaTpMath
namespace Go.Proofs.Ythongbobopampaa.L10
open L3 L4 L9

/-- a member: its name, what it wants -/
structure Mb where
  name : ByteArray
  ts : List ByteArray
def wantB (m : Mb) (t : ByteArray) : Bool := m.ts.any (fun s => decide (s = t))
def wantAt (ms : List Mb) (k : Nat) (t : ByteArray) : Bool := match ms[k]? with | none => false | some m => wantB m t
theorem wantAt_at {ms : List Mb} {k : Nat} {m : Mb} (h : ms[k]? = some m) (t : ByteArray) : wantAt ms k t = wantB m t := by unfold wantAt; rw [h]
theorem wantAt_lt {ms : List Mb} {k : Nat} {t : ByteArray} (h : wantAt ms k t = true) : k < ms.length := by
  unfold wantAt at h
  split at h
  · cases h
  · rename_i m hm; exact (List.getElem?_eq_some_iff.1 hm).1
/-- the members that want a topic, of the first so many -/
def ableTo (ms : List Mb) (t : ByteArray) (j : Nat) : List Nat := (List.range j).filter (fun k => wantAt ms k t)
def able (ms : List Mb) (t : ByteArray) : List Nat := ableTo ms t ms.length
theorem ableTo_next (ms : List Mb) (t : ByteArray) (j : Nat) : ableTo ms t (j + 1) = ableTo ms t j ++ (if wantAt ms j t then [j] else []) := by
  unfold ableTo
  rw [List.range_succ, List.filter_append, List.filter_cons]
  rfl
theorem ableTo_len (ms : List Mb) (t : ByteArray) (j : Nat) : (ableTo ms t j).length ≤ j := by
  have := List.length_filter_le (fun k => wantAt ms k t) (List.range j)
  rwa [List.length_range] at this
theorem mem_able {ms : List Mb} {t : ByteArray} {k : Nat} : k ∈ able ms t ↔ wantAt ms k t = true := by
  unfold able ableTo
  rw [List.mem_filter, List.mem_range]
  exact ⟨fun h => h.2, fun h => ⟨wantAt_lt h, h⟩⟩
theorem able_lt {ms : List Mb} {t : ByteArray} {k : Nat} (h : k ∈ able ms t) : k < ms.length := wantAt_lt (mem_able.1 h)
theorem able_rise (ms : List Mb) (t : ByteArray) : (able ms t).Pairwise (· < ·) := List.Pairwise.filter _ List.pairwise_lt_range
theorem range_take (a b : Nat) (h : a ≤ b) : (List.range b).take a = List.range a := by
  rw [List.take_range]; congr 1; omega
theorem ableTo_pre (ms : List Mb) (t : ByteArray) {j k : Nat} (h : j ≤ k) : ableTo ms t j = (ableTo ms t k).filter (fun x => decide (x < j)) := by
  unfold ableTo
  rw [List.filter_filter]
  induction k with
  | zero => obtain rfl : j = 0 := by omega
            rfl
  | succ k ih =>
    rcases Nat.lt_or_ge k j with q | q
    · obtain rfl : j = k + 1 := by omega
      refine List.filter_congr fun x hx => ?_
      have := List.mem_range.1 hx
      simp [this]
    · rw [ih q, List.range_succ, List.filter_append, List.filter_cons]
      simp; omega

/-! ### whoever is chosen: by the place, who is able, which partition of how many -/
abbrev Ch := Nat → List Nat → Nat → Nat → Nat × Nat
/-- the partitions of a topic, up to one: whose they are, and the place behind them -/
def oneT (ch : Ch) (ab : List Nat) (t : ByteArray) (n : Nat) (p : Nat) : Nat → List (Nat × Pt) × Nat
  | 0 => ([], p)
  | i + 1 => ((oneT ch ab t n p i).1 ++ [((ch (oneT ch ab t n p i).2 ab i n).1, ⟨t, (i : Int)⟩)], (ch (oneT ch ab t n p i).2 ab i n).2)
/-- behind a topic -/
def topT (ch : Ch) (ms : List Mb) (x : Pt) (p : Nat) : List (Nat × Pt) × Nat := if able ms x.t = [] then ([], p) else oneT ch (able ms x.t) x.t x.n.toNat p x.n.toNat
/-- behind the first topics -/
def seqT (ch : Ch) (ms : List Mb) : List Pt → Nat → List (Nat × Pt) × Nat
  | [], p => ([], p)
  | x :: l, p => ((topT ch ms x p).1 ++ (seqT ch ms l (topT ch ms x p).2).1, (seqT ch ms l (topT ch ms x p).2).2)
theorem seqT_app (ch : Ch) (ms : List Mb) : ∀ (l l' : List Pt) (p : Nat), seqT ch ms (l ++ l') p = ((seqT ch ms l p).1 ++ (seqT ch ms l' (seqT ch ms l p).2).1, (seqT ch ms l' (seqT ch ms l p).2).2)
  | [], l', p => rfl
  | x :: l, l', p => by
    rw [List.cons_append]
    show ((topT ch ms x p).1 ++ (seqT ch ms (l ++ l') (topT ch ms x p).2).1, (seqT ch ms (l ++ l') (topT ch ms x p).2).2) = ((topT ch ms x p).1 ++ (seqT ch ms l (topT ch ms x p).2).1 ++ (seqT ch ms l' (seqT ch ms l (topT ch ms x p).2).2).1, (seqT ch ms l' (seqT ch ms l (topT ch ms x p).2).2).2)
    rw [seqT_app ch ms l l', List.append_assoc]
theorem seqT_next (ch : Ch) (ms : List Mb) (l : List Pt) (p k : Nat) (x : Pt) (h : l[k]? = some x) : seqT ch ms (l.take (k + 1)) p = ((seqT ch ms (l.take k) p).1 ++ (topT ch ms x (seqT ch ms (l.take k) p).2).1, (topT ch ms x (seqT ch ms (l.take k) p).2).2) := by
  rw [List.take_add_one, h]
  show seqT ch ms (l.take k ++ [x]) p = _
  rw [seqT_app]
  show ((seqT ch ms (l.take k) p).1 ++ ((topT ch ms x _).1 ++ []), (topT ch ms x _).2) = _
  rw [List.append_nil]
/-- a member's own -/
def ownL (s : List (Nat × Pt)) (k : Nat) : List Pt := (s.filter (fun x => decide (x.1 = k))).map (·.2)
theorem ownL_app (a b : List (Nat × Pt)) (k : Nat) : ownL (a ++ b) k = ownL a k ++ ownL b k := by unfold ownL; rw [List.filter_append, List.map_append]
theorem ownL_one (j : Nat) (x : Pt) (k : Nat) : ownL [(j, x)] k = if j = k then [x] else [] := by
  unfold ownL
  by_cases h : j = k
  · simp [h]
  · simp [h]
/-- all lists -/
def listsL (n : Nat) (s : List (Nat × Pt)) : List (List Pt) := (List.range n).map (ownL s)
theorem listsL_len (n : Nat) (s : List (Nat × Pt)) : (listsL n s).length = n := by simp [listsL]
theorem listsL_at {n k : Nat} (s : List (Nat × Pt)) (h : k < n) : (listsL n s)[k]? = some (ownL s k) := by simp [listsL, h]

/-! ### by stretches -/
def rankR (K i n : Nat) : Nat := if i < n % K * (n / K + 1) then i / (n / K + 1) else n % K + (i - n % K * (n / K + 1)) / (n / K)
def pickR (ab : List Nat) (i n : Nat) : Nat := ab.getD (rankR ab.length i n) 0
def chR : Ch := fun p ab i n => (pickR ab i n, p)
def fromR (K n a : Nat) : Nat := a * (n / K) + min a (n % K)
theorem from_next (K n a : Nat) : fromR K n (a + 1) = fromR K n a + (n / K + (if a < n % K then 1 else 0)) := by
  unfold fromR
  rw [Nat.add_mul]
  split <;> omega
theorem from_mono (K n : Nat) {a b : Nat} (h : a ≤ b) : fromR K n a ≤ fromR K n b := by
  induction b with
  | zero => obtain rfl : a = 0 := by omega
            exact Nat.le_refl _
  | succ b ih =>
    rcases Nat.lt_or_ge b a with q | q
    · obtain rfl : a = b + 1 := by omega
      exact Nat.le_refl _
    · have := ih q
      rw [from_next, ← Nat.add_zero (fromR K n a)]
      exact Nat.add_le_add this (Nat.zero_le _)
theorem from_all {K : Nat} (n : Nat) (h : 0 < K) : fromR K n K = n := by
  unfold fromR
  have h1 := Nat.mod_lt n h
  have h2 := Nat.div_add_mod n K
  rw [Nat.min_eq_right (by omega)]
  exact h2
/-- the rank of a partition's owner -/
theorem rank_in {K i n : Nat} (hK : 0 < K) (hi : i < n) : fromR K n (rankR K i n) ≤ i ∧ i < fromR K n (rankR K i n + 1) ∧ rankR K i n < K := by
  have h1 := Nat.mod_lt n hK
  have h2 := Nat.div_add_mod n K
  obtain ⟨e, he⟩ : ∃ e, n / K = e := ⟨_, rfl⟩
  obtain ⟨m, hm⟩ : ∃ m, n % K = m := ⟨_, rfl⟩
  unfold rankR fromR
  rw [hm] at h1
  rw [he, hm] at h2
  rw [he, hm]
  clear he hm
  split
  · rename_i hlt
    have h3 := Nat.div_add_mod i (e + 1)
    have h4 := Nat.mod_lt i (show 0 < e + 1 by omega)
    obtain ⟨a, ha⟩ : ∃ a, i / (e + 1) = a := ⟨_, rfl⟩
    rw [ha] at h3 ⊢
    have ham : a < m := by rw [← ha]; exact Nat.div_lt_of_lt_mul (by rwa [Nat.mul_comm] at hlt)
    rw [Nat.min_eq_left (by omega), Nat.min_eq_left (by omega)]
    have e1 : (e + 1) * a = a * e + a := by rw [Nat.mul_comm, Nat.mul_add, Nat.mul_one]
    have e2 : (a + 1) * e = a * e + e := by rw [Nat.add_mul, Nat.one_mul]
    rw [e1] at h3
    rw [e2]
    exact ⟨by omega, by omega, by omega⟩
  · rename_i hge
    have e3 : m * (e + 1) = m * e + m := by rw [Nat.mul_add, Nat.mul_one]
    have he0 : 0 < e := by
      rcases Nat.eq_zero_or_pos e with q | q
      · rw [q] at h2 hge; simp at h2 hge; omega
      · exact q
    have h3 := Nat.div_add_mod (i - m * (e + 1)) e
    have h4 := Nat.mod_lt (i - m * (e + 1)) he0
    obtain ⟨d, hd⟩ : ∃ d, (i - m * (e + 1)) / e = d := ⟨_, rfl⟩
    rw [hd] at h3 ⊢
    rw [Nat.min_eq_right (by omega), Nat.min_eq_right (by omega)]
    have e4 : (m + d) * e = m * e + e * d := by rw [Nat.add_mul, Nat.mul_comm d e]
    have e5 : (m + d + 1) * e = m * e + e * d + e := by rw [Nat.add_mul, e4, Nat.one_mul]
    have hdK : m + d < K := by
      have hlt : e * d < (K - m) * e := by
        rw [Nat.sub_mul]
        have e6 : K * e = e * K := Nat.mul_comm _ _
        omega
      rw [Nat.mul_comm] at hlt
      have := Nat.lt_of_mul_lt_mul_right hlt
      omega
    rw [e4, e5]
    exact ⟨by omega, by omega, hdK⟩
theorem rank_iff {K i n a : Nat} (hK : 0 < K) (hi : i < n) : rankR K i n = a ↔ fromR K n a ≤ i ∧ i < fromR K n (a + 1) := by
  obtain ⟨h1, h2, _⟩ := rank_in hK hi
  constructor
  · rintro rfl; exact ⟨h1, h2⟩
  · rintro ⟨h3, h4⟩
    rcases Nat.lt_trichotomy (rankR K i n) a with q | q | q
    · have := from_mono K n (show rankR K i n + 1 ≤ a from q); omega
    · exact q
    · have := from_mono K n (show a + 1 ≤ rankR K i n from q); omega

/-! ### one after the other -/
/-- how many stand ahead of the place -/
def posB (ab : List Nat) (p : Nat) : Nat := (ab.filter (fun x => decide (x < p))).length
def pickB (ab : List Nat) (p : Nat) : Nat := ab.getD (posB ab p % ab.length) 0
def chB : Ch := fun p ab _ _ => (pickB ab p, pickB ab p + 1)
theorem posB_le (ab : List Nat) (p : Nat) : posB ab p ≤ ab.length := List.length_filter_le _ _
theorem posB_at : ∀ {ab : List Nat}, ab.Pairwise (· < ·) → ∀ (p i k : Nat), ab[i]? = some k → (k < p ↔ i < posB ab p)
  | [], _, p, i, k, h => by simp at h
  | a :: t, hp, p, i, k, h => by
    obtain ⟨h1, h2⟩ := List.pairwise_cons.1 hp
    unfold posB
    by_cases q : a < p
    · rw [List.filter_cons_of_pos (by simpa using q), List.length_cons]
      match i, h with
      | 0, h => simp at h; subst h; simp [q]
      | i + 1, h =>
        have := posB_at h2 p i k (by simpa using h)
        unfold posB at this
        rw [this]; omega
    · rw [List.filter_cons_of_neg (by simpa using q)]
      have e : t.filter (fun x => decide (x < p)) = [] := by
        rw [List.filter_eq_nil_iff]
        intro x hx
        have := h1 x hx
        simp; omega
      rw [e]
      match i, h with
      | 0, h => simp at h; subst h; simp; omega
      | i + 1, h =>
        have := h1 k (List.mem_of_getElem? (by simpa using h))
        simp; omega
theorem pick_mem {ab : List Nat} (h : ab ≠ []) (p : Nat) : pickB ab p ∈ ab := by
  unfold pickB
  have : posB ab p % ab.length < ab.length := Nat.mod_lt _ (List.length_pos_iff.2 h)
  rw [List.getD_eq_getElem?_getD, List.getElem?_eq_getElem this]
  exact List.getElem_mem _
theorem pickR_mem {ab : List Nat} (h : ab ≠ []) {i n : Nat} (hi : i < n) : pickR ab i n ∈ ab := by
  unfold pickR
  have : rankR ab.length i n < ab.length := (rank_in (List.length_pos_iff.2 h) hi).2.2
  rw [List.getD_eq_getElem?_getD, List.getElem?_eq_getElem this]
  exact List.getElem_mem _

/-! ### whether topics and members may be -/
def riseAt (ms : List Mb) (i : Nat) : Prop := ∀ x y, ms[i]? = some x → ms[i - 1]? = some y → lessB y.name x.name = true
def RiseTo (ms : List Mb) (k : Nat) : Prop := ∀ i, 0 < i → i < k → riseAt ms i
def chkE (l : List Pt) (ms : List Mb) (x : Int) : Prop := ∃ y, loadE l y ∧ ((y ≠ 0 ∧ x = y) ∨ (y = 0 ∧ ((8 < ms.length ∧ x = 2) ∨ (ms.length ≤ 8 ∧ RiseTo ms ms.length ∧ x = 0) ∨ (ms.length ≤ 8 ∧ ¬ RiseTo ms ms.length ∧ x = 100))))
theorem load_is1 (l : List Pt) : ∃ y, loadE l y := by
  unfold loadE
  split
  · exact ⟨2, rfl⟩
  · by_cases h : OkTo l l.length
    · exact ⟨0, .inl ⟨rfl, h⟩⟩
    · exact ⟨1, .inr ⟨rfl, h⟩⟩
theorem load_one {l : List Pt} {x y : Int} (h : loadE l x) (h' : loadE l y) : x = y := by
  unfold loadE at h h'
  split at h
  · rename_i q; rw [if_pos q] at h'; rw [h, h']
  · rename_i q; rw [if_neg q] at h'
    rcases h with ⟨e, h1⟩ | ⟨e, h1⟩ <;> rcases h' with ⟨e', h2⟩ | ⟨e', h2⟩
    · rw [e, e']
    · exact absurd h1 h2
    · exact absurd h2 h1
    · rw [e, e']
theorem chk_is1 (l : List Pt) (ms : List Mb) : ∃ x, chkE l ms x := by
  obtain ⟨y, hy⟩ := load_is1 l
  by_cases h : y = 0
  · by_cases h8 : 8 < ms.length
    · exact ⟨2, y, hy, .inr ⟨h, .inl ⟨h8, rfl⟩⟩⟩
    · by_cases hr : RiseTo ms ms.length
      · exact ⟨0, y, hy, .inr ⟨h, .inr (.inl ⟨by omega, hr, rfl⟩)⟩⟩
      · exact ⟨100, y, hy, .inr ⟨h, .inr (.inr ⟨by omega, hr, rfl⟩)⟩⟩
  · exact ⟨y, y, hy, .inl ⟨h, rfl⟩⟩
theorem chk_one {l : List Pt} {ms : List Mb} {x x' : Int} (h : chkE l ms x) (h' : chkE l ms x') : x = x' := by
  obtain ⟨y, hy, h⟩ := h
  obtain ⟨y', hy', h'⟩ := h'
  obtain rfl := load_one hy hy'
  rcases h with ⟨h1, h2⟩ | ⟨h1, h2⟩ <;> rcases h' with ⟨h3, h4⟩ | ⟨h3, h4⟩
  · rw [h2, h4]
  · exact absurd h3 h1
  · exact absurd h1 h3
  · rcases h2 with ⟨a, b⟩ | ⟨a, b, c⟩ | ⟨a, b, c⟩ <;> rcases h4 with ⟨a', b'⟩ | ⟨a', b', c'⟩ | ⟨a', b', c'⟩ <;> first | omega | exact absurd b b' | exact absurd b' b
theorem chk_ok {l : List Pt} {ms : List Mb} (h : chkE l ms 0) : L9.Good l ∧ ms.length ≤ 8 ∧ RiseTo ms ms.length := by
  obtain ⟨y, hy, h⟩ := h
  rcases h with ⟨h1, h2⟩ | ⟨h1, h2⟩
  · exact absurd h2.symm h1
  · subst h1
    unfold loadE at hy
    split at hy
    · cases hy
    · rename_i q
      rcases hy with ⟨_, hy⟩ | ⟨e, _⟩
      · rcases h2 with ⟨_, e⟩ | ⟨a, b, _⟩ | ⟨_, _, e⟩
        · cases e
        · exact ⟨hy.good (by omega), a, b⟩
        · cases e
      · cases e
end Go.Proofs.Ythongbobopampaa.L10
