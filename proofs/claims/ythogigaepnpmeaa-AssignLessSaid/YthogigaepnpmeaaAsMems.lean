/-
  Members in a row of one's own whose topics lie elsewhere.
-/
import Derived.Test.YthogigaepnpmeaaAsWords
import Derived.Test.YthogigaepnpmeaaAsLess
import Derived.Test.YthogigaepnpmeaaTpRdrop
namespace Go.Proofs.Ythogigaepnpmeaa.L10
open Go.RowKit
open L3 L4 L9

theorem rowE_len (l : List Me) : (rowE l).length = l.length * 2 := by
  induction l with
  | nil => rfl
  | cons d t ih => rw [rowE, List.flatMap_cons, List.length_append, ← rowE, ih]; simp [meC]; omega
theorem rowE_one (l : List Me) : ∀ v ∈ rowE l, v.oneCell' = true := fun v hv => by
  simp only [rowE, List.mem_flatMap] at hv
  obtain ⟨d, _, hd⟩ := hv
  simp [meC] at hd
  rcases hd with rfl | rfl <;> rfl
theorem rowE_get : ∀ (l : List Me) (t : Nat) (u : Value), (rowE l)[t]? = some u → ∃ i j d, t = i * 2 + j ∧ l[i]? = some d ∧ (meC d)[j]? = some u
  | [], t, u, h => by simp [rowE] at h
  | a :: l, t, u, h => by
    rw [rowE, List.flatMap_cons, ← rowE] at h
    by_cases ht : t < 2
    · rw [List.getElem?_append_left (by simpa [meC] using ht)] at h
      exact ⟨0, t, a, by omega, rfl, h⟩
    · rw [List.getElem?_append_right (by simp [meC]; omega)] at h
      obtain ⟨i, j, d, e, h1, h2⟩ := rowE_get l _ u h
      have e3 : (meC a).length = 2 := rfl
      exact ⟨i + 1, j, d, by omega, by simpa using h1, h2⟩
theorem rowE_set : ∀ {Q : List Me} {j : Nat} {s : Me}, Q[j]? = some s → rowE (Q.set j ⟨⟨s.m.name, []⟩, none, 0⟩) = ((rowE Q).set (j * 2) (.string s.m.name)).set (j * 2 + 1) (.slice none 0 0)
  | [], _, _, h => by simp at h
  | a :: t, 0, s, h => by
    simp at h
    subst h
    simp [rowE, meC]
  | a :: t, j + 1, s, h => by
    have ih := rowE_set (Q := t) (j := j) (by simpa using h)
    have e1 : rowE (a :: t.set j ⟨⟨s.m.name, []⟩, none, 0⟩) = meC a ++ rowE (t.set j ⟨⟨s.m.name, []⟩, none, 0⟩) := rfl
    have e2 : rowE (a :: t) = meC a ++ rowE t := rfl
    rw [List.set_cons_succ, e1, e2, ih, show (j + 1) * 2 + 1 = (j * 2 + 1) + 2 by omega, show (j + 1) * 2 = j * 2 + 2 by omega]
    simp [meC]
/-- a row reads as these, each with its topics -/
def MeR (w : World) (B : Nat) (sl : List Me) : Prop := ∀ s ∈ sl, ReadsT w B s.A s.m.ts
theorem MeR.below {w w' : World} {B : Nat} {sl : List Me} (h : MeR w B sl) (b : Below B w w') : MeR w' B sl := fun s hs => (h s hs).below b
theorem mes_of {w : World} {B n c : Nat} {A : Option Addr} {ms : List Mb} (h : IsM w B A n c ms) (h0 : 0 < n) : ∃ (sl : List Me) (g : Nat), sl.map (·.m) = ms ∧ A = some ⟨g, 0, none⟩ ∧ g < B ∧ (∀ t u, (rowE sl)[t]? = some u → w.cell? ⟨g, t, none⟩ = some u) ∧ MeR w B sl := by
  obtain ⟨g, e, hg, hc⟩ := h.rd (by rw [h.len]; exact h0)
  have hch : ∀ i : Nat, ∃ s : Me, i < ms.length → (∃ m, ms[i]? = some m ∧ s.m = m ∧ w.cell? ⟨g, i * 2, none⟩ = some (.string m.name) ∧ w.cell? ⟨g, i * 2 + 1, none⟩ = some (.slice s.A m.ts.length s.c) ∧ ReadsT w B s.A m.ts) := fun i => by
    by_cases hi : i < ms.length
    · obtain ⟨c0, At, ct, c1, ht⟩ := hc i _ (List.getElem?_eq_getElem hi)
      exact ⟨⟨ms[i], At, ct⟩, fun _ => ⟨_, List.getElem?_eq_getElem hi, rfl, c0, c1, ht⟩⟩
    · exact ⟨⟨⟨⟨#[]⟩, []⟩, none, 0⟩, fun q => absurd q hi⟩
  obtain ⟨f, hf⟩ := Classical.axiomOfChoice hch
  have hat : ∀ i s, ((List.range ms.length).map f)[i]? = some s → i < ms.length ∧ f i = s := fun i s hs => by
    rw [List.getElem?_map] at hs
    obtain ⟨a, h1, h2⟩ := Option.map_eq_some_iff.1 hs
    obtain ⟨h3, h4⟩ := List.getElem?_eq_some_iff.1 h1
    rw [List.length_range] at h3
    rw [List.getElem_range] at h4
    subst h4
    exact ⟨h3, h2⟩
  refine ⟨(List.range ms.length).map f, g, ?_, e, hg, fun t u hu => ?_, fun s hs => ?_⟩
  · apply List.ext_getElem?
    intro i
    rw [List.map_map, List.getElem?_map]
    by_cases hi : i < ms.length
    · obtain ⟨m, h1, h2, _⟩ := hf i hi
      rw [List.getElem?_range hi, h1]
      show some (f i).m = some m
      rw [h2]
    · rw [List.getElem?_eq_none (by rw [List.length_range]; omega), List.getElem?_eq_none (by omega)]; rfl
  · obtain ⟨i, j, d, rfl, h1, h2⟩ := rowE_get _ t u hu
    obtain ⟨hi, rfl⟩ := hat i d h1
    obtain ⟨m, h3, h4, c0, c1, _⟩ := hf i hi
    match j, h2 with
    | 0, h2 => simp [meC] at h2; subst h2; rw [h4]; exact c0
    | 1, h2 => simp [meC] at h2; subst h2; rw [h4]; exact c1
    | j + 2, h2 => simp [meC] at h2
  · obtain ⟨i, hi, rfl⟩ := List.mem_iff_getElem.1 hs
    have h1 := hat i _ (List.getElem?_eq_getElem hi)
    obtain ⟨m, _, h4, _, _, ht⟩ := hf i h1.1
    rw [h1.2] at h4 ht
    rw [h4]; exact ht
theorem src_mes {w : World} {g : Nat} {sl : List Me} (h : ∀ t u, (rowE sl)[t]? = some u → w.cell? ⟨g, t, none⟩ = some u) : Src w (some ⟨g, 0, none⟩) (rowE sl) :=
  ⟨(fun e => by cases e), fun ad e j u hu => by injection e with e; subst e; rw [Addr.add_lit, Nat.zero_add]; exact h j u hu⟩
theorem rowE_take (sl : List Me) (z : Nat) : rowE (sl.take z) = (rowE sl).take (z * 2) := by
  induction sl generalizing z with
  | nil => simp [rowE]
  | cons a t ih =>
    cases z with
    | zero => simp [rowE]
    | succ z =>
      have e1 : rowE (a :: t) = meC a ++ rowE t := rfl
      have e2 : rowE (a :: t.take z) = meC a ++ rowE (t.take z) := rfl
      rw [List.take_succ_cons, e2, e1, ih, show (z + 1) * 2 = z * 2 + 2 by omega]
      simp [meC]
theorem rowE_drop (sl : List Me) (z : Nat) : rowE (sl.drop z) = (rowE sl).drop (z * 2) := by
  induction sl generalizing z with
  | nil => simp [rowE]
  | cons a t ih =>
    cases z with
    | zero => simp [rowE]
    | succ z =>
      have e1 : rowE (a :: t) = meC a ++ rowE t := rfl
      rw [List.drop_succ_cons, e1, ih, show (z + 1) * 2 = z * 2 + 2 by omega]
      simp [meC]
theorem src_take' {w : World} {g : Nat} {sl : List Me} (h : ∀ t u, (rowE sl)[t]? = some u → w.cell? ⟨g, t, none⟩ = some u) (z : Nat) : Src w (some ⟨g, 0, none⟩) (rowE (sl.take z)) :=
  ⟨(fun e => by cases e), fun ad e j u hu => by
    injection e with e; subst e
    rw [Addr.add_lit, Nat.zero_add]
    rw [rowE_take] at hu
    exact h j u (by rw [List.getElem?_take] at hu; split at hu; exact hu; cases hu)⟩
theorem src_drop' {w : World} {g : Nat} {sl : List Me} (h : ∀ t u, (rowE sl)[t]? = some u → w.cell? ⟨g, t, none⟩ = some u) (z : Nat) : Src w (some ⟨g, z * 2, none⟩) (rowE (sl.drop z)) :=
  ⟨(fun e => by cases e), fun ad e j u hu => by
    injection e with e; subst e
    rw [Addr.add_lit]
    rw [rowE_drop, List.getElem?_drop] at hu
    exact h _ u hu⟩
/-- such a row is members -/
theorem rows_isM {w : World} {base n c B : Nat} {A : Option Addr} {sl : List Me} (h : w.ownsRow base 40 2 (.slice A n c) n (rowE sl)) (hn : sl.length = n) (hr : MeR w B sl) (hB : B ≤ w.heap.size) (hs : ∀ s ∈ sl, s.m.name.size ≤ 281474976710656 ∧ s.m.ts.length ≤ 1000000 ∧ ∀ t ∈ s.m.ts, t.size ≤ 281474976710656) (h1 : n ≤ 1000000) : IsM w w.heap.size A n c (sl.map (·.m)) := by
  refine ⟨fun h0 => ?_, by rw [List.length_map, hn], fun m hm => ?_, h1, ?_⟩
  · rw [List.length_map] at h0
    rcases h.2 with ⟨_, q⟩ | ⟨g, cap, cur, q, _, hh, _⟩
    · omega
    · injection q with q1; subst q1
      refine ⟨g, rfl, (Array.getElem?_eq_some_iff.1 hh).1, fun i m hm => ?_⟩
      rw [List.getElem?_map] at hm
      obtain ⟨s, hs', rfl⟩ := Option.map_eq_some_iff.1 hm
      have c0 := h.cells (g := g) rfl (i * 2 + 0) _ (rowE_at hs' 0 _ rfl)
      have c1 := h.cells (g := g) rfl (i * 2 + 1) _ (rowE_at hs' 1 _ rfl)
      rw [Addr.add_lit, Nat.zero_add] at c0 c1
      exact ⟨c0, s.A, s.c, c1, (hr s (List.mem_of_getElem? hs')).mono hB⟩
  · obtain ⟨s, hs', rfl⟩ := List.mem_map.1 hm
    exact hs s hs'
  · rcases h.2 with ⟨q, q0⟩ | ⟨g, cap, cur, q, _, _, hc, _⟩
    · omega
    · injection q with _ _ q2; omega
end Go.Proofs.Ythogigaepnpmeaa.L10
