/-
  Plain facts: the batch at a place.
-/
import Derived.Test.YtinhinghakkfoaaRecMath
namespace Go.Proofs.Ytinhinghakkfoaa.L3

/-- how many records may be -/
def cnt (n : Int) : Int := if n = 0 then 30 else if 16 < n then 2 else 0

/-- what is wrong with four numbers -/
def numE (x0 x1 x2 x3 : Nat) : Int :=
  if 1099511627776 < x0 ∨ 1099511627776 < x1 ∨ 1099511627776 < x2 then 1 else cnt x3
/-- a batch's numbers at a place -/
def numP (s : ByteArray) (a : Int) : (Nat × Nat × Nat × Nat) × Int × Int :=
  match run (V.get s) a 4 with
  | ([x0, x1, x2, x3], to, e) => if e ≠ 0 then ((0, 0, 0, 0), 0, e) else if numE x0 x1 x2 x3 ≠ 0 then ((0, 0, 0, 0), 0, numE x0 x1 x2 x3) else ((x0, x1, x2, x3), to, 0)
  | (_, _, e) => ((0, 0, 0, 0), 0, e)
theorem numP_err {s : ByteArray} {a to e : Int} {l : List Nat} (h : run (V.get s) a 4 = (l, to, e)) (he : e ≠ 0) : numP s a = ((0, 0, 0, 0), 0, e) := by
  obtain ⟨rfl, rfl⟩ := run_no h he
  unfold numP
  rw [h]
theorem numP_bad {s : ByteArray} {a to x : Int} {x0 x1 x2 x3 : Nat} (h : run (V.get s) a 4 = ([x0, x1, x2, x3], to, 0)) (hx : numE x0 x1 x2 x3 = x) (h0 : x ≠ 0) : numP s a = ((0, 0, 0, 0), 0, x) := by
  subst hx
  unfold numP
  rw [h]
  simp [h0]
theorem numP_ok {s : ByteArray} {a to : Int} {x0 x1 x2 x3 : Nat} (h : run (V.get s) a 4 = ([x0, x1, x2, x3], to, 0)) (hx : numE x0 x1 x2 x3 = 0) : numP s a = ((x0, x1, x2, x3), to, 0) := by
  unfold numP
  rw [h]
  simp [hx]
theorem numE_ok {x0 x1 x2 x3 : Nat} (h : numE x0 x1 x2 x3 = 0) : x0 ≤ 1099511627776 ∧ x1 ≤ 1099511627776 ∧ x2 ≤ 1099511627776 ∧ 0 < x3 ∧ x3 ≤ 16 := by
  unfold numE cnt at h
  split at h
  · omega
  · split at h
    · omega
    · split at h <;> omega

/-- a batch -/
structure Bt where
  p : Nat
  e : Nat
  q : Nat
  l : List R
def Bt.zero : Bt := ⟨0, 0, 0, []⟩

/-- the batch at a place -/
def parse (s : ByteArray) (a : Int) : Bt × Int × Int :=
  if (numP s a).2.2 ≠ 0 then (Bt.zero, 0, (numP s a).2.2)
  else if (run (getR s) (numP s a).2.1 (numP s a).1.2.2.2).2.2 ≠ 0 then (Bt.zero, 0, (run (getR s) (numP s a).2.1 (numP s a).1.2.2.2).2.2)
  else (⟨(numP s a).1.1, (numP s a).1.2.1, (numP s a).1.2.2.1, (run (getR s) (numP s a).2.1 (numP s a).1.2.2.2).1⟩, (run (getR s) (numP s a).2.1 (numP s a).1.2.2.2).2.1, 0)

theorem parse_num {s : ByteArray} {a to x : Int} {n : Nat × Nat × Nat × Nat} (h : numP s a = (n, to, x)) (hx : x ≠ 0) : parse s a = (Bt.zero, 0, x) := by simp [parse, h, hx]
theorem parse_rec {s : ByteArray} {a to to' x : Int} {x0 x1 x2 x3 : Nat} {l : List R} (h : numP s a = ((x0, x1, x2, x3), to, 0)) (hr : run (getR s) to x3 = (l, to', x)) (hx : x ≠ 0) : parse s a = (Bt.zero, 0, x) := by simp [parse, h, hr, hx]
theorem parse_ok {s : ByteArray} {a to to' : Int} {x0 x1 x2 x3 : Nat} {l : List R} (h : numP s a = ((x0, x1, x2, x3), to, 0)) (hr : run (getR s) to x3 = (l, to', 0)) : parse s a = (⟨x0, x1, x2, l⟩, to', 0) := by simp [parse, h, hr]

theorem numP_err0 {s : ByteArray} {a to x : Int} {n : Nat × Nat × Nat × Nat} (h : numP s a = (n, to, x)) (hx : x ≠ 0) : n = (0, 0, 0, 0) ∧ to = 0 := by
  obtain ⟨l, t, e, hr⟩ : ∃ l t e, run (V.get s) a 4 = (l, t, e) := ⟨_, _, _, rfl⟩
  by_cases he : e = 0
  · subst he
    have hl := run_len hr
    match l, hl with
    | [x0, x1, x2, x3], _ =>
      by_cases hz : numE x0 x1 x2 x3 = 0
      · rw [numP_ok hr hz] at h
        simp only [Prod.mk.injEq] at h
        exact absurd h.2.2.symm hx
      · rw [numP_bad hr rfl hz] at h
        simp only [Prod.mk.injEq] at h
        exact ⟨by simp [← h.1], h.2.1.symm⟩
  · rw [numP_err hr he] at h
    simp only [Prod.mk.injEq] at h
    exact ⟨by simp [← h.1], h.2.1.symm⟩
theorem numP_run {s : ByteArray} {a to : Int} {x0 x1 x2 x3 : Nat} (h : numP s a = ((x0, x1, x2, x3), to, 0)) : run (V.get s) a 4 = ([x0, x1, x2, x3], to, 0) ∧ numE x0 x1 x2 x3 = 0 := by
  obtain ⟨l, t, e, hr⟩ : ∃ l t e, run (V.get s) a 4 = (l, t, e) := ⟨_, _, _, rfl⟩
  by_cases he : e = 0
  · subst he
    have hl := run_len hr
    match l, hl with
    | [y0, y1, y2, y3], _ =>
      by_cases hz : numE y0 y1 y2 y3 = 0
      · rw [numP_ok hr hz] at h
        simp only [Prod.mk.injEq, and_true] at h
        obtain ⟨⟨rfl, rfl, rfl, rfl⟩, rfl⟩ := h
        exact ⟨hr, hz⟩
      · rw [numP_bad hr rfl hz] at h
        simp only [Prod.mk.injEq] at h
        exact absurd h.2.2 hz
  · rw [numP_err hr he] at h
    simp only [Prod.mk.injEq] at h
    exact absurd h.2.2 he
end Go.Proofs.Ytinhinghakkfoaa.L3
