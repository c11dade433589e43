/-
  What producers sent already, as plain data: no program is named here.
-/
import Derived.Test.YtcpfihagcmadcaaMRecMath
import Derived.Below
import Derived.Lib.Bytealg
import Derived.Lib.Small
namespace Go.Proofs.Ytcpfihagcmadcaa.L8
open Go.RowKit

/-! ### texts -/
theorem cb_refl : ∀ l : List UInt8, Lib.compareBytes l l = 0
  | [] => rfl
  | a :: l => by unfold Lib.compareBytes; rw [if_neg (UInt8.lt_irrefl a), if_neg (UInt8.lt_irrefl a)]; exact cb_refl l
theorem cb_eq : ∀ {a b : List UInt8}, Lib.compareBytes a b = 0 → a = b
  | [], [], _ => rfl
  | [], _ :: _, h => by simp [Lib.compareBytes] at h
  | _ :: _, [], h => by simp [Lib.compareBytes] at h
  | x :: a, y :: b, h => by
    unfold Lib.compareBytes at h
    split at h
    · simp at h
    · split at h
      · simp at h
      · rename_i h1 h2
        have : x = y := UInt8.le_antisymm (UInt8.not_lt.1 h2) (UInt8.not_lt.1 h1)
        rw [this, cb_eq h]
theorem cb_swap : ∀ a b : List UInt8, Lib.compareBytes b a = - Lib.compareBytes a b
  | [], [] => rfl
  | [], _ :: _ => rfl
  | _ :: _, [] => rfl
  | x :: a, y :: b => by
    unfold Lib.compareBytes
    by_cases h1 : x < y
    · rw [if_pos h1, if_neg (fun h => UInt8.lt_irrefl _ (UInt8.lt_trans h1 h)), if_pos h1]; rfl
    · by_cases h2 : y < x
      · rw [if_pos h2, if_neg h1, if_pos h2]
      · rw [if_neg h2, if_neg h1, if_neg h1, if_neg h2]; exact cb_swap a b
theorem cb_trans : ∀ {a b c : List UInt8}, Lib.compareBytes a b < 0 → Lib.compareBytes b c < 0 → Lib.compareBytes a c < 0
  | [], [], _, h, _ => by simp [Lib.compareBytes] at h
  | [], _ :: _, [], _, h => by simp [Lib.compareBytes] at h
  | [], _ :: _, _ :: _, _, _ => by simp [Lib.compareBytes]
  | _ :: _, [], _, h, _ => by simp [Lib.compareBytes] at h
  | _ :: _, _ :: _, [], _, h => by simp [Lib.compareBytes] at h
  | x :: a, y :: b, z :: c, h, k => by
    unfold Lib.compareBytes at h k ⊢
    by_cases h1 : x < y
    · by_cases k1 : y < z
      · rw [if_pos (UInt8.lt_trans h1 k1)]; decide
      · by_cases k2 : z < y
        · rw [if_neg k1, if_pos k2] at k; simp at k
        · have e : y = z := UInt8.le_antisymm (UInt8.not_lt.1 k2) (UInt8.not_lt.1 k1)
          subst e
          rw [if_pos h1]; decide
    · by_cases h2 : y < x
      · rw [if_neg h1, if_pos h2] at h; simp at h
      · have e : x = y := UInt8.le_antisymm (UInt8.not_lt.1 h2) (UInt8.not_lt.1 h1)
        subst e
        rw [if_neg h1, if_neg h1] at h
        by_cases k1 : x < z
        · rw [if_pos k1]; decide
        · by_cases k2 : z < x
          · rw [if_neg k1, if_pos k2] at k; simp at k
          · rw [if_neg k1, if_neg k2] at k ⊢
            exact cb_trans h k
/-- which text stands ahead -/
def cT (a b : ByteArray) : Int := Lib.compareBytes a.data.toList b.data.toList
theorem cT_refl (a : ByteArray) : cT a a = 0 := cb_refl _
theorem cT_eq {a b : ByteArray} (h : cT a b = 0) : a = b := by
  have := cb_eq h
  cases a with | mk x => cases b with | mk y => simp at this; rw [this]
theorem cT_swap (a b : ByteArray) : cT b a = - cT a b := cb_swap _ _
theorem cT_trans {a b c : ByteArray} (h : cT a b < 0) (k : cT b c < 0) : cT a c < 0 := cb_trans h k

/-! ### what is remembered -/
/-- a batch that is remembered -/
structure Did where
  s : Int
  n : Int
  o : Int
/-- what is remembered of a producer and a partition -/
structure Mk where
  id : Int
  ep : Int
  t : ByteArray
  p : Int
  l : List Did
/-- of the same producer and partition? -/
def Same (a b : Mk) : Prop := a.id = b.id ∧ a.t = b.t ∧ a.p = b.p
theorem Same.symm {a b : Mk} (h : Same a b) : Same b a := ⟨h.1.symm, h.2.1.symm, h.2.2.symm⟩
/-- what the order says of two -/
def ordC (a b : Mk) : Int :=
  if Lib.compareInt a.id b.id ≠ 0 then Lib.compareInt a.id b.id else if cT a.t b.t ≠ 0 then cT a.t b.t else Lib.compareInt a.p b.p
/-- which stands ahead -/
def befB (a b : Mk) : Bool := decide (ordC a b < 0)
theorem ci_lt (x y : Int) : Lib.compareInt x y < 0 ↔ x < y := by unfold Lib.compareInt; split <;> (try split) <;> simp <;> omega
theorem ci_zero (x y : Int) : Lib.compareInt x y = 0 ↔ x = y := by unfold Lib.compareInt; split <;> (try split) <;> simp <;> omega
theorem bef_iff (a b : Mk) : befB a b = true ↔ a.id < b.id ∨ (a.id = b.id ∧ (cT a.t b.t < 0 ∨ (a.t = b.t ∧ a.p < b.p))) := by
  unfold befB ordC
  rw [decide_eq_true_iff]
  by_cases h : a.id = b.id
  · rw [if_neg (by simp [ci_zero, h])]
    by_cases k : cT a.t b.t = 0
    · rw [if_neg (by simp [k]), ci_lt]
      have e := cT_eq k
      constructor
      · intro hp; exact .inr ⟨h, .inr ⟨e, hp⟩⟩
      · rintro (hp | ⟨_, hp | ⟨_, hp⟩⟩)
        · omega
        · omega
        · exact hp
    · rw [if_pos k]
      constructor
      · intro hp; exact .inr ⟨h, .inl hp⟩
      · rintro (hp | ⟨_, hp | ⟨e, hp⟩⟩)
        · omega
        · exact hp
        · rw [e, cT_refl] at k; exact absurd rfl k
  · rw [if_pos (by simpa [ci_zero] using h), ci_lt]
    constructor
    · exact .inl
    · rintro (hp | ⟨e, _⟩)
      · exact hp
      · exact absurd e h
theorem bef_irrefl (a : Mk) : befB a a = false := by
  cases h : befB a a
  · rfl
  · rcases (bef_iff a a).1 h with q | ⟨_, q | ⟨_, q⟩⟩
    · omega
    · rw [cT_refl] at q; omega
    · omega
theorem bef_trans {a b c : Mk} (h : befB a b = true) (k : befB b c = true) : befB a c = true := by
  rw [bef_iff] at h k ⊢
  rcases h with h | ⟨h, h' | ⟨h', h''⟩⟩
  · rcases k with k | ⟨k, _⟩
    · exact .inl (by omega)
    · exact .inl (by omega)
  · rcases k with k | ⟨k, k' | ⟨k', k''⟩⟩
    · exact .inl (by omega)
    · exact .inr ⟨by omega, .inl (cT_trans h' k')⟩
    · exact .inr ⟨by omega, .inl (by rw [← k']; exact h')⟩
  · rcases k with k | ⟨k, k' | ⟨k', k''⟩⟩
    · exact .inl (by omega)
    · exact .inr ⟨by omega, .inl (by rw [h']; exact k')⟩
    · exact .inr ⟨by omega, .inr ⟨h'.trans k', by omega⟩⟩
theorem bef_asymm {a b : Mk} (h : befB a b = true) : befB b a = false := by
  cases k : befB b a
  · rfl
  · have := bef_trans h k; rw [bef_irrefl] at this; cases this
theorem bef_total {a b : Mk} (h : befB a b = false) (k : befB b a = false) : Same a b := by
  have h' : ¬ befB a b = true := by simp [h]
  have k' : ¬ befB b a = true := by simp [k]
  rw [bef_iff] at h' k'
  have e1 : a.id = b.id := by omega
  have hc := cT_swap a.t b.t
  have z : cT a.t b.t = 0 := by
    rcases Int.lt_trichotomy (cT a.t b.t) 0 with q | q | q
    · exact absurd (.inr ⟨e1, .inl q⟩) h'
    · exact q
    · exact absurd (.inr ⟨e1.symm, .inl (by omega)⟩) k'
  have e2 := cT_eq z
  refine ⟨e1, e2, ?_⟩
  rcases Int.lt_trichotomy a.p b.p with q | q | q
  · exact absurd (.inr ⟨e1, .inr ⟨e2, q⟩⟩) h'
  · exact q
  · exact absurd (.inr ⟨e1.symm, .inr ⟨e2.symm, q⟩⟩) k'
theorem bef_same {a b a' b' : Mk} (h : Same a a') (k : Same b b') : befB a b = befB a' b' := by
  obtain ⟨h1, h2, h3⟩ := h
  obtain ⟨k1, k2, k3⟩ := k
  unfold befB ordC
  rw [h1, h2, h3, k1, k2, k3]
theorem bef_not_same {a b : Mk} (h : befB a b = true) : ¬ Same a b := fun e => by
  rw [bef_same e ⟨rfl, rfl, rfl⟩, bef_irrefl] at h; cases h
/-- in order, each one once -/
def Sorted (ms : List Mk) : Prop := ms.Pairwise fun a b => befB a b = true
theorem Sorted.unique {ms : List Mk} (h : Sorted ms) : ∀ {a b : Mk}, a ∈ ms → b ∈ ms → Same a b → a = b := by
  induction ms with
  | nil => intro a b ha; simp at ha
  | cons x t ih =>
    intro a b ha hb e
    obtain ⟨h1, h2⟩ := List.pairwise_cons.1 h
    rcases List.mem_cons.1 ha with qa | qa
    · rcases List.mem_cons.1 hb with qb | qb
      · rw [qa, qb]
      · subst qa; exact absurd e (bef_not_same (h1 b qb))
    · rcases List.mem_cons.1 hb with qb | qb
      · subst qb; exact absurd e.symm (bef_not_same (h1 a qa))
      · exact ih h2 qa qb e

/-! ### what is remembered of a producer and a partition -/
def isK (id : Int) (t : ByteArray) (p : Int) (m : Mk) : Bool := decide (m.id = id) && ((m.t.toList == t.toList) && decide (m.p = p))
theorem txt_eq {a b : ByteArray} : (a.toList == b.toList) = true ↔ a = b := by
  rw [beq_iff_eq, ByteArray.toList_eq, ByteArray.toList_eq]
  exact ⟨fun h => ByteArray.ext (Array.toList_inj.1 h), fun h => by rw [h]⟩
theorem isK_iff {id : Int} {t : ByteArray} {p : Int} {m : Mk} : isK id t p m = true ↔ m.id = id ∧ m.t = t ∧ m.p = p := by
  unfold isK
  rw [Bool.and_eq_true, Bool.and_eq_true, txt_eq, decide_eq_true_iff, decide_eq_true_iff]
/-- the batches -/
def lastOf (ms : List Mk) (id : Int) (t : ByteArray) (p : Int) : List Did := ((ms.find? (isK id t p)).map (·.l)).getD []
theorem lastOf_none {ms : List Mk} {id : Int} {t : ByteArray} {p : Int} (h : ∀ m ∈ ms, isK id t p m = false) : lastOf ms id t p = [] := by
  unfold lastOf
  rw [List.find?_eq_none.2 (fun m hm => by simp [h m hm])]; rfl
theorem lastOf_mem {ms : List Mk} (hs : Sorted ms) {m : Mk} (hm : m ∈ ms) : lastOf ms m.id m.t m.p = m.l := by
  unfold lastOf
  cases hf : ms.find? (isK m.id m.t m.p) with
  | none =>
    have := List.find?_eq_none.1 hf m hm
    exact absurd (isK_iff.2 ⟨rfl, rfl, rfl⟩) this
  | some x =>
    have h1 := List.mem_of_find?_eq_some hf
    have h2 := List.find?_some hf
    have h3 := isK_iff.1 h2
    rw [hs.unique h1 hm h3]; rfl
/-- the number that is due -/
def due (l : List Did) : Int := match l.getLast? with | none => 0 | some d => wrap64 (d.s + d.n)

/-! ### what is asked -/
def askP (es : List Int) (ms : List Mk) (t : ByteArray) (p pr ep sq : Int) (n : Nat) : Int × Bool × Int :=
  if pr = 0 then (0, false, 0) else if ¬ (1 ≤ pr ∧ pr ≤ es.length) then (0, false, 80)
  else if ep < es.getD (pr - 1).toNat 0 then (0, false, 81) else if es.getD (pr - 1).toNat 0 < ep then (0, false, 80)
  else if sq = due (lastOf ms pr t p) then (0, false, 0)
  else match (lastOf ms pr t p).find? (fun d => decide (d.s = sq) && decide (d.n = (n : Int))) with | some d => (d.o, true, 0) | none => (0, false, 82)
def numB8 (n : Int) : Bool := decide (0 ≤ n) && decide (n ≤ 1099511627776)
/-- what Done says -/
def doneE (es : List Int) (ms : List Mk) (t : ByteArray) (p pr ep sq : Int) (n : Nat) (off : Int) : Int :=
  if (askP es ms t p pr ep sq n).2.2 ≠ 0 then (askP es ms t p pr ep sq n).2.2 else if (askP es ms t p pr ep sq n).2.1 = true then 82
  else if n = 0 ∨ numB8 off = false then 1 else 0
/-- another one in its place -/
def putM (m : Mk) : Bool → List Mk → List Mk
  | put, [] => if put then [] else [m]
  | put, x :: t => (if !put && !befB x m then [m] else []) ++ ((if befB x m || befB m x then [x] else []) ++ putM m (put || !befB x m) t)
theorem putM_true (m : Mk) : ∀ {l : List Mk}, Sorted (m :: l) → putM m true l = l
  | [], _ => rfl
  | x :: t, h => by
    obtain ⟨h1, h2⟩ := List.pairwise_cons.1 h
    have hx := h1 x (by simp)
    have h3 : Sorted (m :: t) := List.pairwise_cons.2 ⟨fun y hy => h1 y (by simp [hy]), (List.pairwise_cons.1 h2).2⟩
    show (if (!true && !befB x m) = true then [m] else []) ++ ((if (befB x m || befB m x) = true then [x] else []) ++ putM m (true || !befB x m) t) = _
    rw [hx]
    simp [putM_true m h3]
theorem putM_mem (m : Mk) : ∀ {l : List Mk}, Sorted l → Sorted (putM m false l) ∧ ∀ x, x ∈ putM m false l ↔ x = m ∨ (x ∈ l ∧ ¬ Same x m)
  | [], _ => ⟨by simp [putM, Sorted], fun x => by simp [putM]⟩
  | y :: t, h => by
    obtain ⟨h1, h2⟩ := List.pairwise_cons.1 h
    cases hy : befB y m
    · cases hz : befB m y
      · -- in its place
        have e := bef_total hy hz
        have h3 : Sorted (m :: t) := List.pairwise_cons.2 ⟨fun x hx => by rw [bef_same e.symm ⟨rfl, rfl, rfl⟩]; exact h1 x hx, h2⟩
        have e2 : putM m false (y :: t) = m :: t := by
          show (if (!false && !befB y m) = true then [m] else []) ++ ((if (befB y m || befB m y) = true then [y] else []) ++ putM m (false || !befB y m) t) = _
          rw [hy, hz]; simp [putM_true m h3]
        rw [e2]
        refine ⟨h3, fun x => ?_⟩
        constructor
        · intro hx
          rcases List.mem_cons.1 hx with rfl | hx
          · exact .inl rfl
          · exact .inr ⟨by simp [hx], fun q => bef_not_same ((List.pairwise_cons.1 h3).1 x hx) q.symm⟩
        · rintro (rfl | ⟨hx, hn⟩)
          · simp
          · rcases List.mem_cons.1 hx with rfl | hx
            · exact absurd e hn
            · simp [hx]
      · -- ahead
        have h3 : Sorted (m :: y :: t) := List.pairwise_cons.2 ⟨fun x hx => by
          rcases List.mem_cons.1 hx with rfl | hx
          · exact hz
          · exact bef_trans hz (h1 x hx), h⟩
        have h4 : Sorted (m :: t) := List.pairwise_cons.2 ⟨fun x hx => bef_trans hz (h1 x hx), h2⟩
        have e2 : putM m false (y :: t) = m :: y :: t := by
          show (if (!false && !befB y m) = true then [m] else []) ++ ((if (befB y m || befB m y) = true then [y] else []) ++ putM m (false || !befB y m) t) = _
          rw [hy, hz]; simp [putM_true m h4]
        rw [e2]
        refine ⟨h3, fun x => ?_⟩
        constructor
        · intro hx
          rcases List.mem_cons.1 hx with rfl | hx
          · exact .inl rfl
          · exact .inr ⟨hx, fun q => bef_not_same ((List.pairwise_cons.1 h3).1 x hx) q.symm⟩
        · rintro (rfl | ⟨hx, hn⟩)
          · simp
          · exact List.mem_cons_of_mem _ hx
    · -- behind
      obtain ⟨i1, i2⟩ := putM_mem m h2
      have e2 : putM m false (y :: t) = y :: putM m false t := by
        show (if (!false && !befB y m) = true then [m] else []) ++ ((if (befB y m || befB m y) = true then [y] else []) ++ putM m (false || !befB y m) t) = _
        rw [hy]; simp
      rw [e2]
      refine ⟨List.pairwise_cons.2 ⟨fun x hx => ?_, i1⟩, fun x => ?_⟩
      · rcases (i2 x).1 hx with rfl | ⟨hx, _⟩
        · exact hy
        · exact h1 x hx
      · rw [List.mem_cons, i2, List.mem_cons]
        constructor
        · rintro (rfl | rfl | ⟨hx, hn⟩)
          · exact .inr ⟨.inl rfl, bef_not_same hy⟩
          · exact .inl rfl
          · exact .inr ⟨.inr hx, hn⟩
        · rintro (rfl | ⟨rfl | hx, hn⟩)
          · exact .inr (.inl rfl)
          · exact .inl rfl
          · exact .inr (.inr ⟨hx, hn⟩)
/-- the batches behind one more -/
def push (l : List Did) (d : Did) : List Did := (l ++ [d]).drop (l.length + 1 - 5)
theorem push_len (l : List Did) (d : Did) : (push l d).length = min (l.length + 1) 5 := by simp [push]; omega
theorem push_eq (l : List Did) (d : Did) : push l d = l.drop (l.length + 1 - 5) ++ [d] := by
  unfold push
  rw [List.drop_append_of_le_length (by omega)]
/-- what is remembered behind Done -/
def doneM (es : List Int) (ms : List Mk) (t : ByteArray) (p pr ep sq : Int) (n : Nat) (off : Int) : List Mk :=
  if doneE es ms t p pr ep sq n off ≠ 0 ∨ pr = 0 then ms else putM ⟨pr, ep, t, p, push (lastOf ms pr t p) ⟨sq, n, off⟩⟩ false ms
/-- what Open says -/
def openR (es : List Int) (id : Int) : Int × Int × Int :=
  if id = 0 then (if 32 ≤ es.length then (0, 0, 2) else (es.length + 1, 0, 0))
  else if ¬ (1 ≤ id ∧ id ≤ es.length) then (0, 0, 80) else if es.getD (id - 1).toNat 0 = 1099511627776 then (0, 0, 2) else (id, es.getD (id - 1).toNat 0 + 1, 0)
def openE (es : List Int) (id : Int) : List Int :=
  if id = 0 then (if 32 ≤ es.length then es else es ++ [0])
  else if ¬ (1 ≤ id ∧ id ≤ es.length) then es else if es.getD (id - 1).toNat 0 = 1099511627776 then es else es.set (id - 1).toNat (es.getD (id - 1).toNat 0 + 1)
def openM (es : List Int) (ms : List Mk) (id : Int) : List Mk :=
  if id = 0 then ms else if ¬ (1 ≤ id ∧ id ≤ es.length) then ms else if es.getD (id - 1).toNat 0 = 1099511627776 then ms else ms.filter (fun m => decide (m.id ≠ id))

/-! ### what may be -/
structure Good (es : List Int) (ms : List Mk) : Prop where
  len : es.length ≤ 32
  num : ∀ e ∈ es, 0 ≤ e ∧ e ≤ 1099511627776
  sorted : Sorted ms
  fit : ∀ m ∈ ms, (1 ≤ m.id ∧ m.id ≤ es.length ∧ es[(m.id - 1).toNat]? = some m.ep) ∧ 1 ≤ m.l.length ∧ m.l.length ≤ 5
  txt : ∀ m ∈ ms, m.t.size ≤ maxLen ∧ (Lit.int .i64 m.p).wf = true
theorem good_new : Good [] [] := ⟨by simp, by simp, List.Pairwise.nil, by simp, by simp⟩
theorem getD_at {es : List Int} {i : Nat} {e : Int} (h : es[i]? = some e) : es.getD i 0 = e := by simp [List.getD, h]
theorem at_getD {es : List Int} {i : Nat} (h : i < es.length) : es[i]? = some (es.getD i 0) := by simp [List.getD, h]
theorem Good.at {es : List Int} {ms : List Mk} (g : Good es ms) {i : Nat} (h : i < es.length) : 0 ≤ es.getD i 0 ∧ es.getD i 0 ≤ 1099511627776 :=
  g.num _ (List.mem_of_getElem? (at_getD h))
theorem good_open {es : List Int} {ms : List Mk} (g : Good es ms) (id : Int) : Good (openE es id) (openM es ms id) := by
  unfold openE openM
  by_cases h : id = 0
  · rw [if_pos h, if_pos h]
    by_cases k : 32 ≤ es.length
    · rw [if_pos k]; exact g
    · rw [if_neg k]
      refine ⟨by simp; omega, fun e he => ?_, g.sorted, fun m hm => ?_, g.txt⟩
      · rcases List.mem_append.1 he with he | he
        · exact g.num e he
        · simp at he; subst he; omega
      · obtain ⟨⟨a, b, c⟩, d⟩ := g.fit m hm
        refine ⟨⟨a, by simp; omega, ?_⟩, d⟩
        rw [List.getElem?_append_left (List.getElem?_eq_some_iff.1 c).1]; exact c
  · rw [if_neg h, if_neg h]
    by_cases k : ¬ (1 ≤ id ∧ id ≤ es.length)
    · rw [if_pos k, if_pos k]; exact g
    · rw [if_neg k, if_neg k]
      have k' : 1 ≤ id ∧ id ≤ es.length := by omega
      by_cases z : es.getD (id - 1).toNat 0 = 1099511627776
      · rw [if_pos z, if_pos z]; exact g
      · rw [if_neg z, if_neg z]
        have hi : (id - 1).toNat < es.length := by omega
        obtain ⟨y1, y2⟩ := g.at hi
        refine ⟨by simpa using g.len, fun e he => ?_, g.sorted.filter _, fun m hm => ?_, fun m hm => g.txt m (List.mem_filter.1 hm).1⟩
        · rcases List.mem_or_eq_of_mem_set he with he | rfl
          · exact g.num e he
          · omega
        · obtain ⟨hm, hn⟩ := List.mem_filter.1 hm
          have hn' : m.id ≠ id := by simpa using hn
          obtain ⟨⟨a, b, c⟩, d⟩ := g.fit m hm
          refine ⟨⟨a, by simpa using b, ?_⟩, d⟩
          rw [List.getElem?_set_ne (by omega)]; exact c
theorem ask_zero {es : List Int} {ms : List Mk} {t : ByteArray} {p pr ep sq : Int} {n : Nat} (h : (askP es ms t p pr ep sq n).2.2 = 0) (h0 : pr ≠ 0) : 1 ≤ pr ∧ pr ≤ es.length ∧ es[(pr - 1).toNat]? = some ep := by
  unfold askP at h
  rw [if_neg h0] at h
  split at h
  · simp at h
  · rename_i h1
    have h1' : 1 ≤ pr ∧ pr ≤ es.length := by omega
    split at h
    · simp at h
    · split at h
      · simp at h
      · rename_i h2 h3
        refine ⟨h1'.1, h1'.2, ?_⟩
        rw [at_getD (by omega)]
        congr 1
        omega
theorem good_done {es : List Int} {ms : List Mk} (g : Good es ms) (t : ByteArray) (p pr ep sq : Int) (n : Nat) (off : Int) (ht : t.size ≤ maxLen) (hp : (Lit.int .i64 p).wf = true) : Good es (doneM es ms t p pr ep sq n off) := by
  unfold doneM
  split
  · exact g
  · rename_i h
    have h1 : doneE es ms t p pr ep sq n off = 0 ∧ pr ≠ 0 := by omega
    have h2 : (askP es ms t p pr ep sq n).2.2 = 0 := by
      have := h1.1
      unfold doneE at this
      split at this
      · rename_i q; exact absurd this q
      · rename_i q; simpa using q
    obtain ⟨a, b, c⟩ := ask_zero h2 h1.2
    obtain ⟨s1, s2⟩ := putM_mem ⟨pr, ep, t, p, push (lastOf ms pr t p) ⟨sq, n, off⟩⟩ g.sorted
    refine ⟨g.len, g.num, s1, fun m hm => ?_, fun m hm => ?_⟩
    · rcases (s2 m).1 hm with rfl | ⟨hm, _⟩
      · exact ⟨⟨a, b, c⟩, by rw [push_len]; omega, by rw [push_len]; omega⟩
      · exact g.fit m hm
    · rcases (s2 m).1 hm with rfl | ⟨hm, _⟩
      · exact ⟨ht, hp⟩
      · exact g.txt m hm
theorem Good.last_len {es : List Int} {ms : List Mk} (g : Good es ms) (id : Int) (t : ByteArray) (p : Int) : (lastOf ms id t p).length ≤ 5 := by
  unfold lastOf
  cases hf : ms.find? (isK id t p) with
  | none => simp
  | some x => exact (g.fit x (List.mem_of_find?_eq_some hf)).2.2

/-! ### Load -/
def rowB : Option Int → List Did → Bool
  | _, [] => true
  | q, d :: t => (numB8 d.s && (numB8 d.o && (decide (1 ≤ d.n) && decide (d.n ≤ 1099511627776)))) && ((match q with | none => true | some x => decide (d.s = x)) && rowB (some (wrap64 (d.s + d.n))) t)
def fitB (es : List Int) (m : Mk) : Bool :=
  (decide (1 ≤ m.id) && (decide (m.id ≤ es.length) && decide (es.getD (m.id - 1).toNat 0 = m.ep))) && ((decide (1 ≤ m.l.length) && decide (m.l.length ≤ 5)) && rowB none m.l)
def chainB (es : List Int) : Option Mk → List Mk → Bool
  | _, [] => true
  | q, m :: t => ((match q with | none => true | some x => befB x m) && fitB es m) && chainB es (some m) t
def loadE (es : List Int) (l : List Mk) : Int :=
  if 32 < es.length then 2 else if (es.all numB8 && chainB es none l) = true then 0 else 1
theorem chain_sorted {es : List Int} : ∀ {l : List Mk} {q : Option Mk}, chainB es q l = true → Sorted l ∧ (∀ m ∈ l, fitB es m = true) ∧ ∀ x, q = some x → ∀ m ∈ l, befB x m = true
  | [], _, _ => ⟨List.Pairwise.nil, by simp, by simp⟩
  | m :: t, q, h => by
    unfold chainB at h
    rw [Bool.and_eq_true, Bool.and_eq_true] at h
    obtain ⟨⟨h1, h2⟩, h3⟩ := h
    obtain ⟨a, b, c⟩ := chain_sorted h3
    refine ⟨List.pairwise_cons.2 ⟨fun x hx => c m rfl x hx, a⟩, fun x hx => ?_, fun x e y hy => ?_⟩
    · rcases List.mem_cons.1 hx with rfl | hx
      · exact h2
      · exact b x hx
    · subst e
      have h1' : befB x m = true := h1
      rcases List.mem_cons.1 hy with rfl | hy
      · exact h1'
      · exact bef_trans h1' (c m rfl y hy)
theorem load_good {es : List Int} {l : List Mk} (h : loadE es l = 0) (ht : ∀ m ∈ l, m.t.size ≤ maxLen ∧ (Lit.int .i64 m.p).wf = true) : Good es l := by
  unfold loadE at h
  split at h
  · simp at h
  · rename_i h1
    split at h
    · rename_i h2
      simp only [Bool.and_eq_true, List.all_eq_true] at h2
      obtain ⟨a, b, _⟩ := chain_sorted h2.2
      refine ⟨by omega, fun e he => ?_, a, fun m hm => ?_, ht⟩
      · have := h2.1 e he
        simpa [numB8] using this
      · have := b m hm
        simp only [fitB, Bool.and_eq_true, decide_eq_true_eq] at this
        obtain ⟨⟨x1, x2, x3⟩, ⟨x4, x5⟩, _⟩ := this
        exact ⟨⟨x1, x2, by rw [at_getD (by omega), x3]⟩, x4, x5⟩
    · simp at h
end Go.Proofs.Ytcpfihagcmadcaa.L8
