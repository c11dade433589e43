/-
  What the document's joiner has, held against what a joiner has: plain.
-/
import Derived.Test.YtlemcijgjebekaaChMath
namespace Go.Proofs.Ytlemcijgjebekaa.L7
open L3

/-- the body of the first chunk with a number -/
def findB (l : List Ck) (i : Int) : Option ByteArray := (l.find? fun x => decide (x.i = i)).map (·.b)
theorem findB_none {l : List Ck} {i : Int} (h : ∀ x ∈ l, x.i ≠ i) : findB l i = none := by
  unfold findB
  rw [List.find?_eq_none.2 (fun x hx => by simpa using h x hx)]; rfl
theorem findB_some {l : List Ck} {i : Int} {k : Nat} {x : Ck} (h : ∀ y ∈ l.take k, y.i ≠ i) (hx : l[k]? = some x) (he : x.i = i) : findB l i = some x.b := by
  obtain ⟨hlt, hl⟩ := List.getElem?_eq_some_iff.1 hx
  have e : l = l.take k ++ x :: l.drop (k + 1) := by
    conv => lhs; rw [← List.take_append_drop k l, List.drop_eq_getElem_cons hlt, hl]
  unfold findB
  rw [e, List.find?_append, List.find?_eq_none.2 (fun y hy => by simpa using h y hy)]
  simp [he]
theorem findB_mem {l : List Ck} {i : Int} {b : ByteArray} (h : findB l i = some b) : ∃ x ∈ l, x.i = i ∧ x.b = b := by
  unfold findB at h
  rw [Option.map_eq_some_iff] at h
  obtain ⟨x, hx, rfl⟩ := h
  exact ⟨x, List.mem_of_find?_eq_some hx, by simpa using List.find?_some hx, rfl⟩
theorem findB_snoc (l : List Ck) (c : Ck) (i : Int) : findB (l ++ [c]) i = match findB l i with | some b => some b | none => if c.i = i then some c.b else none := by
  unfold findB
  rw [List.find?_append]
  cases l.find? fun x => decide (x.i = i) with
  | some x => rfl
  | none =>
    by_cases h : c.i = i <;> simp [h]
/-- the same joiner, told by its chunks in the order in which they were taken -/
structure Rel (m : Js) (l : List Ck) : Prop where
  nil : m = [] ↔ l = []
  num : ∀ x ∈ l, x.n = m.length ∧ 0 ≤ x.i
  val : ∀ i : Int, valM m i = findB l i
  uni : ∀ x ∈ l, findB l x.i = some x.b
theorem rel_nil : Rel [] [] := ⟨by simp, by simp, fun i => by rw [findB_none (by simp)]; unfold valM; split <;> rfl, by simp⟩
theorem Rel.take {m : Js} {l : List Ck} {c : Ck} (h : Rel m l) (hr : right c = true) (hz : m = [] ∨ c.n = m.length) (hv : valM m c.i = none) : Rel ((baseM m c.n).set c.i.toNat (some c.b)) (l ++ [c]) := by
  obtain ⟨h0, h1, _⟩ := right_parts hr
  have hbl : ((baseM m c.n).length : Int) = c.n := by
    unfold baseM
    rcases hz with rfl | hz
    · rw [if_pos rfl, List.length_replicate]; omega
    · split
      · rw [List.length_replicate]; omega
      · exact hz.symm
  have hbv : ∀ i, valM (baseM m c.n) i = valM m i := fun i => by
    unfold baseM
    split
    · rename_i e
      subst e
      unfold valM
      split
      · rfl
      · rw [List.getElem?_replicate]; split <;> rfl
    · rfl
  refine ⟨?_, ?_, ?_, ?_⟩
  · constructor
    · intro e
      have := congrArg List.length e
      rw [List.length_set] at this
      have h2 : ((baseM m c.n).length : Int) = 0 := by rw [this]; rfl
      omega
    · intro e; simp at e
  · intro x hx
    rw [List.length_set, hbl]
    rcases List.mem_append.1 hx with hx | hx
    · have := h.num x hx
      rcases hz with rfl | hz
      · have := h.nil.1 rfl; subst this; simp at hx
      · exact ⟨this.1.trans hz.symm, this.2⟩
    · rw [List.mem_singleton.1 hx]; exact ⟨rfl, h0⟩
  · intro i
    rw [findB_snoc, ← h.val i]
    have hlt : c.i.toNat < (baseM m c.n).length := by omega
    by_cases e : i = c.i
    · subst e
      rw [hv]
      rw [if_pos rfl]
      unfold valM
      rw [if_neg (by omega), List.getElem?_set_self hlt]; rfl
    · have : valM ((baseM m c.n).set c.i.toNat (some c.b)) i = valM (baseM m c.n) i := by
        unfold valM
        split
        · rfl
        · rw [List.getElem?_set_ne (by omega)]
      rw [this, hbv]
      cases valM m i with
      | some b => rfl
      | none => rw [if_neg (fun q => e q.symm)]
  · intro x hx
    rw [findB_snoc]
    rcases List.mem_append.1 hx with hx | hx
    · rw [h.uni x hx]
    · rw [List.mem_singleton.1 hx, ← h.val, hv]; simp
theorem Rel.head {m : Js} {l : List Ck} {c : Ck} (h : Rel m l) (hc : l[0]? = some c) : c.n = m.length := (h.num c (List.mem_of_getElem? hc)).1
theorem Rel.pos {m : Js} {l : List Ck} (h : Rel m l) (hm : m ≠ []) : ∃ c, l[0]? = some c := by
  have : l ≠ [] := fun e => hm (h.nil.2 e)
  cases l with
  | nil => exact absurd rfl this
  | cons c t => exact ⟨c, rfl⟩
theorem val_at (m : Js) (k : Nat) (hk : k < m.length) : ∃ v, m[k]? = some v ∧ valM m (k : Int) = v := by
  obtain ⟨v, hv⟩ : ∃ v, m[k]? = some v := ⟨_, List.getElem?_eq_getElem hk⟩
  exact ⟨v, hv, by rw [valM_nat, hv]; rfl⟩
end Go.Proofs.Ytlemcijgjebekaa.L7
