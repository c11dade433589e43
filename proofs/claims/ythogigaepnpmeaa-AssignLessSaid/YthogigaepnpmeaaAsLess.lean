/-
  Plain: a member leaves, or wants nothing.
-/
import Derived.Test.YthogigaepnpmeaaAsRng
namespace Go.Proofs.Ythogigaepnpmeaa.L10
open L3 L4 L9

/-- a member's number when one is left out -/
def sh (z k : Nat) : Nat := if k < z then k else k - 1
def outM (ms : List Mb) (z : Nat) : List Mb := ms.take z ++ ms.drop (z + 1)
def idleM (ms : List Mb) (z : Nat) (m : Mb) : List Mb := ms.set z ⟨m.name, []⟩
def Rel (z p p' : Nat) : Prop := ∀ j, j ≠ z → (j < p ↔ sh z j < p')
theorem sh_mono {z j k : Nat} (hj : j ≠ z) (hk : k ≠ z) : j < k ↔ sh z j < sh z k := by
  unfold sh
  split <;> split <;> omega
theorem sh_inj {z j k : Nat} (hj : j ≠ z) (hk : k ≠ z) (h : sh z j = sh z k) : j = k := by
  unfold sh at h
  split at h <;> split at h <;> omega
theorem rel_zero (z : Nat) : Rel z 0 0 := fun j _ => by omega
theorem rel_next {z k : Nat} (hk : k ≠ z) : Rel z (k + 1) (sh z k + 1) := fun j hj => by
  have := sh_mono hk hj
  rw [Nat.lt_succ_iff, Nat.lt_succ_iff]
  constructor
  · intro h; exact Nat.le_of_not_lt fun q => by have := this.2 q; omega
  · intro h; exact Nat.le_of_not_lt fun q => by have := this.1 q; omega
theorem getD_map {ab : List Nat} {f : Nat → Nat} {r : Nat} (h : r < ab.length) : (ab.map f).getD r 0 = f (ab.getD r 0) := by
  rw [List.getD_eq_getElem?_getD, List.getD_eq_getElem?_getD, List.getElem?_map, List.getElem?_eq_getElem h]; rfl
/-- whoever is chosen stays the same one -/
def ChSh (ch : Ch) (z : Nat) : Prop := ∀ p p' ab i n, Rel z p p' → z ∉ ab → ab ≠ [] → i < n → (ch p' (ab.map (sh z)) i n).1 = sh z (ch p ab i n).1 ∧ Rel z (ch p ab i n).2 (ch p' (ab.map (sh z)) i n).2
theorem chR_sh (z : Nat) : ChSh chR z := fun p p' ab i n hr hz hne hi => by
  refine ⟨?_, hr⟩
  show pickR (ab.map (sh z)) i n = sh z (pickR ab i n)
  unfold pickR
  rw [List.length_map]
  exact getD_map (rank_in (List.length_pos_iff.2 hne) hi).2.2
theorem posB_sh {z p p' : Nat} {ab : List Nat} (hr : Rel z p p') (hz : z ∉ ab) : posB (ab.map (sh z)) p' = posB ab p := by
  unfold posB
  rw [List.filter_map, List.length_map]
  congr 1
  refine List.filter_congr fun x hx => ?_
  show decide (sh z x < p') = decide (x < p)
  rw [decide_eq_decide]
  exact (hr x (fun e => hz (e ▸ hx))).symm
theorem chB_sh (z : Nat) : ChSh chB z := fun p p' ab i n hr hz hne hi => by
  have e : pickB (ab.map (sh z)) p' = sh z (pickB ab p) := by
    unfold pickB
    rw [posB_sh hr hz, List.length_map]
    exact getD_map (Nat.mod_lt _ (List.length_pos_iff.2 hne))
  refine ⟨e, ?_⟩
  show Rel z (pickB ab p + 1) (pickB (ab.map (sh z)) p' + 1)
  rw [e]
  exact rel_next (fun q => hz (q ▸ pick_mem hne p))
def shP (z : Nat) (y : Nat × Pt) : Nat × Pt := (sh z y.1, y.2)
theorem one_sh {ch : Ch} {z : Nat} (hc : ChSh ch z) {ab : List Nat} (hz : z ∉ ab) (hne : ab ≠ []) (t : ByteArray) (n : Nat) {p p' : Nat} (hr : Rel z p p') : ∀ i, i ≤ n →
    (oneT ch (ab.map (sh z)) t n p' i).1 = ((oneT ch ab t n p i).1).map (shP z) ∧ Rel z (oneT ch ab t n p i).2 (oneT ch (ab.map (sh z)) t n p' i).2
  | 0, _ => ⟨rfl, hr⟩
  | i + 1, hi => by
    obtain ⟨h1, h2⟩ := one_sh hc hz hne t n hr i (by omega)
    obtain ⟨h3, h4⟩ := hc _ _ ab i n h2 hz hne (by omega)
    refine ⟨?_, h4⟩
    show (oneT ch (ab.map (sh z)) t n p' i).1 ++ [((ch (oneT ch (ab.map (sh z)) t n p' i).2 (ab.map (sh z)) i n).1, _)] = ((oneT ch ab t n p i).1 ++ [_]).map (shP z)
    rw [h1, h3, List.map_append]; rfl
theorem wantAt_idle {ms : List Mb} {z : Nat} {m : Mb} (k : Nat) (t : ByteArray) : wantAt (idleM ms z m) k t = if k = z then false else wantAt ms k t := by
  unfold wantAt idleM
  rw [List.getElem?_set]
  by_cases h : z = k
  · subst h
    rw [if_pos rfl, if_pos rfl]
    split
    · rfl
    · rename_i x hx
      split at hx
      · injection hx with hx; subst hx; rfl
      · cases hx
  · rw [if_neg h, if_neg (fun e => h e.symm)]
theorem wantAt_out {ms : List Mb} {z : Nat} (hz : z < ms.length) (k : Nat) (t : ByteArray) : wantAt (outM ms z) k t = wantAt ms (if k < z then k else k + 1) t := by
  unfold wantAt outM
  have : (ms.take z ++ ms.drop (z + 1))[k]? = ms[if k < z then k else k + 1]? := by
    split
    · rename_i h
      rw [List.getElem?_append_left (by rw [List.length_take]; omega), List.getElem?_take_of_lt h]
    · rename_i h
      rw [List.getElem?_append_right (by rw [List.length_take]; omega), List.length_take, List.getElem?_drop]
      congr 1; omega
  rw [this]
theorem able_sh {ms : List Mb} {z : Nat} {m : Mb} (hz : z < ms.length) (t : ByteArray) : able (outM ms z) t = (able (idleM ms z m) t).map (sh z) := by
  have key : ∀ k, (k ≤ z → ableTo (outM ms z) t k = (ableTo (idleM ms z m) t k).map (sh z)) ∧ (z < k → ableTo (outM ms z) t (k - 1) = (ableTo (idleM ms z m) t k).map (sh z)) := by
    intro k
    induction k with
    | zero => exact ⟨fun _ => rfl, fun h => by omega⟩
    | succ k ih =>
      refine ⟨fun h => ?_, fun h => ?_⟩
      · have e1 : wantAt (outM ms z) k t = wantAt ms k t := by rw [wantAt_out hz, if_pos (show k < z by omega)]
        have e2 : wantAt (idleM ms z m) k t = wantAt ms k t := by rw [wantAt_idle, if_neg (show ¬ k = z by omega)]
        rw [ableTo_next, ableTo_next, ih.1 (by omega), List.map_append, e1, e2]
        congr 1
        by_cases hw : wantAt ms k t = true
        · rw [if_pos hw]
          show [k] = [sh z k]
          unfold sh; rw [if_pos (show k < z by omega)]
        · rw [if_neg hw]; rfl
      · rw [Nat.add_sub_cancel, ableTo_next (idleM ms z m), List.map_append]
        by_cases e : k = z
        · have e2 : wantAt (idleM ms z m) k t = false := by rw [wantAt_idle, if_pos e]
          rw [e2, ih.1 (by omega)]
          simp
        · have hk : z < k := by omega
          obtain ⟨j, rfl⟩ : ∃ j, k = j + 1 := ⟨k - 1, by omega⟩
          have h2 := ih.2 hk
          rw [Nat.add_sub_cancel] at h2
          have e1 : wantAt (outM ms z) j t = wantAt ms (j + 1) t := by rw [wantAt_out hz, if_neg (show ¬ j < z by omega)]
          have e2 : wantAt (idleM ms z m) (j + 1) t = wantAt ms (j + 1) t := by rw [wantAt_idle, if_neg e]
          rw [ableTo_next, h2, e1, e2]
          congr 1
          by_cases hw : wantAt ms (j + 1) t = true
          · rw [if_pos hw, if_pos hw]
            show [j] = [sh z (j + 1)]
            unfold sh; rw [if_neg (show ¬ j + 1 < z by omega)]; rfl
          · rw [if_neg hw, if_neg hw]; rfl
  have hl1 : (outM ms z).length = ms.length - 1 := by unfold outM; rw [List.length_append, List.length_take, List.length_drop]; omega
  have hl2 : (idleM ms z m).length = ms.length := List.length_set
  unfold able
  rw [hl1, hl2]
  exact (key ms.length).2 hz
theorem idle_not {ms : List Mb} {z : Nat} {m : Mb} (t : ByteArray) : z ∉ able (idleM ms z m) t := fun h => by
  have := mem_able.1 h
  rw [wantAt_idle, if_pos rfl] at this
  cases this
theorem seq_sh {ch : Ch} {z : Nat} (hc : ChSh ch z) {ms : List Mb} {m : Mb} (hz : z < ms.length) : ∀ (l : List Pt) {p p' : Nat}, Rel z p p' → (seqT ch (outM ms z) l p').1 = ((seqT ch (idleM ms z m) l p).1).map (shP z)
  | [], _, _, _ => rfl
  | x :: l, p, p', hr => by
    have htop : (topT ch (outM ms z) x p').1 = ((topT ch (idleM ms z m) x p).1).map (shP z) ∧ Rel z (topT ch (idleM ms z m) x p).2 (topT ch (outM ms z) x p').2 := by
      unfold topT
      rw [able_sh hz (m := m)]
      by_cases h : able (idleM ms z m) x.t = []
      · rw [h]; exact ⟨rfl, hr⟩
      · rw [if_neg h, if_neg (fun e => h (List.map_eq_nil_iff.1 e))]
        exact one_sh hc (idle_not _) h _ _ hr _ (Nat.le_refl _)
    have ih := seq_sh hc (m := m) hz l htop.2
    show (topT ch (outM ms z) x p').1 ++ (seqT ch (outM ms z) l (topT ch (outM ms z) x p').2).1 = ((topT ch (idleM ms z m) x p).1 ++ (seqT ch (idleM ms z m) l (topT ch (idleM ms z m) x p).2).1).map (shP z)
    rw [htop.1, ih, List.map_append]
theorem own_sh {z i : Nat} (hi : i ≠ z) {s : List (Nat × Pt)} (h : ∀ y ∈ s, y.1 ≠ z) : ownL (s.map (shP z)) (sh z i) = ownL s i := by
  unfold ownL
  rw [List.filter_map, List.map_map]
  have : s.filter ((fun x : Nat × Pt => decide (x.1 = sh z i)) ∘ shP z) = s.filter (fun x => decide (x.1 = i)) := by
    refine List.filter_congr fun y hy => ?_
    show decide (sh z y.1 = sh z i) = decide (y.1 = i)
    rw [decide_eq_decide]
    exact ⟨fun e => sh_inj (h y hy) hi e, fun e => by rw [e]⟩
  rw [this]; rfl
/-- the lists with one left out, and with an idle one -/
theorem lists_sh {ch : Ch} (hok : ChOk ch) {z : Nat} (hc : ChSh ch z) {ms : List Mb} {m : Mb} (hz : z < ms.length) (l : List Pt) :
    ownL (seqT ch (idleM ms z m) l 0).1 z = [] ∧ ∀ i, i ≠ z → ownL (seqT ch (outM ms z) l 0).1 (sh z i) = ownL (seqT ch (idleM ms z m) l 0).1 i := by
  have hno : ∀ y ∈ (seqT ch (idleM ms z m) l 0).1, y.1 ≠ z := fun y hy e => by
    have := seq_able hok _ l 0 y hy
    rw [e] at this
    exact idle_not _ this
  refine ⟨?_, fun i hi => ?_⟩
  · unfold ownL
    rw [List.filter_eq_nil_iff.2 (fun y hy => by simpa using hno y hy)]; rfl
  · rw [seq_sh hc (m := m) hz l (rel_zero z), own_sh hi hno]
theorem rise_all {ms : List Mb} (h : RiseTo ms ms.length) : ms.Pairwise (fun a b => lessB a.name b.name = true) := by
  have key : ∀ k, k ≤ ms.length → (ms.take k).Pairwise (fun a b => lessB a.name b.name = true) := by
    intro k
    induction k with
    | zero => intro _; simp
    | succ k ih =>
      intro hk
      obtain ⟨x, hx⟩ : ∃ x, ms[k]? = some x := ⟨_, List.getElem?_eq_getElem (by omega)⟩
      rw [List.take_add_one, hx]
      refine List.pairwise_append.2 ⟨ih (by omega), List.pairwise_singleton _ _, fun y hy w hw => ?_⟩
      have : w = x := by simpa using hw
      subst this
      obtain ⟨j, hj, rfl⟩ := List.mem_iff_getElem.1 hy
      rw [List.length_take] at hj
      have hprev : ∀ d i, i + 1 + d ≤ k → ∀ a b, ms[i]? = some a → ms[i + 1 + d]? = some b → lessB a.name b.name = true := by
        intro d
        induction d with
        | zero =>
          intro i hi a b ha hb
          exact h (i + 1) (by omega) (by omega) b a hb (by rw [Nat.add_sub_cancel]; exact ha)
        | succ d ihd =>
          intro i hi a b ha hb
          obtain ⟨c, hc⟩ : ∃ c, ms[i + 1 + d]? = some c := ⟨_, List.getElem?_eq_getElem (by omega)⟩
          have h1 := ihd i (by omega) a c ha hc
          have h2 := h (i + 1 + (d + 1)) (by omega) (by omega) b c hb (by rw [show i + 1 + (d + 1) - 1 = i + 1 + d by omega]; exact hc)
          exact less_trans h1 h2
      refine hprev (k - (j + 1)) j (by omega) _ _ ?_ (by rw [show j + 1 + (k - (j + 1)) = k by omega]; exact hx)
      rw [List.getElem_take]
      exact List.getElem?_eq_getElem (by omega)
  have := key ms.length (Nat.le_refl _)
  rwa [List.take_length] at this
theorem rise_of {ms : List Mb} (h : ms.Pairwise (fun a b => lessB a.name b.name = true)) : RiseTo ms ms.length := fun i h0 hi x y hx hy => by
  obtain ⟨a, rfl⟩ := List.getElem?_eq_some_iff.1 hx
  obtain ⟨b, rfl⟩ := List.getElem?_eq_some_iff.1 hy
  exact List.pairwise_iff_getElem.1 h _ _ b a (by omega)
theorem chk_of {l : List Pt} {ms ms' : List Mb} (h : chkE l ms 0) (hl : ms'.length ≤ 8) (hp : ms'.Pairwise (fun a b => lessB a.name b.name = true)) : chkE l ms' 0 := by
  obtain ⟨y, hy, h⟩ := h
  rcases h with ⟨h1, h2⟩ | ⟨h1, _⟩
  · exact absurd h2.symm h1
  · exact ⟨y, hy, .inr ⟨h1, .inr (.inl ⟨hl, rise_of hp, rfl⟩)⟩⟩
theorem chk_out {l : List Pt} {ms : List Mb} (h : chkE l ms 0) (z : Nat) : chkE l (outM ms z) 0 := by
  obtain ⟨_, h8, hr⟩ := chk_ok h
  refine chk_of h ?_ ?_
  · unfold outM; rw [List.length_append, List.length_take, List.length_drop]; omega
  · have hs : (outM ms z).Sublist ms := by
      unfold outM
      have h1 : (ms.drop (z + 1)).Sublist (ms.drop z) := by
        rw [← List.drop_drop]; exact List.drop_sublist _ _
      have h2 := (List.Sublist.refl (ms.take z)).append h1
      rwa [List.take_append_drop] at h2
    exact (rise_all hr).sublist hs
theorem chk_idle {l : List Pt} {ms : List Mb} (h : chkE l ms 0) {z : Nat} {m : Mb} (hm : ms[z]? = some m) : chkE l (idleM ms z m) 0 := by
  obtain ⟨_, h8, hr⟩ := chk_ok h
  refine chk_of h (by unfold idleM; rw [List.length_set]; exact h8) ?_
  have hmap : (idleM ms z m).map Mb.name = ms.map Mb.name := by
    unfold idleM
    rw [List.map_set]
    apply List.ext_getElem?
    intro i
    rw [List.getElem?_set]
    split
    · rename_i e
      subst e
      rw [List.getElem?_map, hm]
      have := (List.getElem?_eq_some_iff.1 hm).1
      simp [this]
    · rfl
  have h1 : (ms.map Mb.name).Pairwise (fun a b => lessB a b = true) := List.pairwise_map.2 (rise_all hr)
  rw [← hmap] at h1
  exact List.pairwise_map.1 h1
end Go.Proofs.Ythogigaepnpmeaa.L10
