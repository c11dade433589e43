/-
  Plain facts on records and batches as bytes: no program is named here.
-/
import Derived.Test.YtflcggpeflagiaaMMath
namespace Go.Proofs.Ytflcggpeflagiaa.L3

/-! ### Numbers and texts at a place -/
theorem get_ok {s : ByteArray} {a to : Int} {n : Nat} (h : V.get s a = (n, to, 0)) :
    0 ≤ a ∧ a < to ∧ to ≤ s.size ∧ n < 18446744073709551616 ∧ (V.nats s).drop a.toNat = V.puts n ++ (V.nats s).drop to.toNat := by
  have hn := (V.get_some h).1
  have hsz := (V.get_some h).2.2
  unfold V.get at h
  by_cases hc : a < 0 ∨ (s.size : Int) < a
  · rw [if_pos hc] at h; simp at h
  · rw [if_neg hc] at h
    obtain ⟨r, hr⟩ : ∃ r, V.got ((V.nats s).drop a.toNat) 0 0 = r := ⟨_, rfl⟩
    rw [hr] at h
    simp only [Prod.mk.injEq] at h
    obtain ⟨rfl, h2, h3⟩ := h
    have h3' : r.2.2 = 0 := by omega
    obtain ⟨n, e1, e2, e3, e4, _⟩ := V.got_ok ((V.nats s).drop a.toNat) 0 0 r.1 r.2.1 (fun b hb => V.nats_byte s b (List.mem_of_mem_drop hb)) (by decide) (by rw [hr, ← h3'])
    have hn' : r.1 = n := by simpa using e1
    unfold V.behind at h2
    rw [if_pos h3'] at h2
    have hp := V.puts_pos n
    refine ⟨by omega, by omega, hsz, hn, ?_⟩
    have et : to.toNat = a.toNat + (V.puts n).length := by omega
    rw [et, ← List.drop_drop, hn']
    have := List.take_append_drop (V.puts n).length ((V.nats s).drop a.toNat)
    rw [e4] at this
    exact this.symm

theorem get_no {s : ByteArray} {a to e : Int} {n : Nat} (h : V.get s a = (n, to, e)) (he : e ≠ 0) : n = 0 ∧ to = 0 := by
  unfold V.get at h
  by_cases hc : a < 0 ∨ (s.size : Int) < a
  · rw [if_pos hc] at h; simp at h; exact ⟨h.1.symm, h.2.1.symm⟩
  · rw [if_neg hc] at h
    obtain ⟨r, hr⟩ : ∃ r, V.got ((V.nats s).drop a.toNat) 0 0 = r := ⟨_, rfl⟩
    rw [hr] at h
    simp only [Prod.mk.injEq] at h
    obtain ⟨rfl, rfl, rfl⟩ := h
    have e := V.got_err _ 0 0 r.1 r.2.1 r.2.2 hr (by omega)
    refine ⟨e.1, ?_⟩
    unfold V.behind
    rw [if_neg (by omega)]

/-- a text's bytes -/
def txt (s : ByteArray) : ByteArray := V.put s.size ++ s
theorem nats_txt (s : ByteArray) : V.nats (txt s) = V.puts s.size ++ V.nats s := by unfold txt; rw [V.nats_append, V.nats_put]
theorem txt_size (s : ByteArray) (h : s.size ≤ 281474976710656) : (txt s).size ≤ s.size + 10 := by
  unfold txt
  rw [ByteArray.size_append, V.put_size]
  have := V.puts_len s.size (by omega)
  omega
theorem txt_len (s : ByteArray) : (txt s).size = (V.puts s.size).length + s.size := by
  unfold txt; rw [ByteArray.size_append, V.put_size]

theorem text_at {s t : ByteArray} {l r : List Nat} {most : Int} (ht : (t.size : Int) ≤ most) (hs : t.size ≤ 281474976710656) (h : V.nats s = l ++ (V.nats (txt t) ++ r)) :
    V.text s l.length most = (t, (l.length : Int) + (txt t).size, 0) := by
  rw [nats_txt, List.append_assoc] at h
  have hg := V.get_at (by omega) h
  have hsz : s.size = l.length + ((V.puts t.size).length + (t.size + r.length)) := by
    rw [← V.nats_len, h]; simp only [List.length_append, V.nats_len]
  rw [V.text_ok hg rfl (by omega) (by omega)]
  refine Prod.ext ?_ (Prod.ext ?_ rfl)
  · show ByteArray.extract _ _ _ = t
    apply V.nats_inj
    rw [V.nats_extract, h]
    have e1 : ((l.length : Int) + (V.puts t.size).length).toNat = (l ++ V.puts t.size).length := by simp; omega
    have e2 : ((l.length : Int) + (V.puts t.size).length + (t.size : Int)).toNat - (l ++ V.puts t.size).length = (V.nats t).length := by rw [V.nats_len]; simp; omega
    rw [e1, e2, ← List.append_assoc, List.drop_left, List.take_left]
  · show ((l.length : Int) + (V.puts t.size).length) + (t.size : Int) = (l.length : Int) + ((txt t).size : Int)
    rw [txt_len]; omega

theorem text_got {s t : ByteArray} {a to most : Int} (h : V.text s a most = (t, to, 0)) :
    0 ≤ a ∧ a < to ∧ to ≤ s.size ∧ (t.size : Int) ≤ most ∧ (V.nats s).drop a.toNat = V.nats (txt t) ++ (V.nats s).drop to.toNat := by
  obtain ⟨n, p, e, hg⟩ : ∃ n p e, V.get s a = (n, p, e) := ⟨_, _, _, rfl⟩
  by_cases he : e = 0
  · subst he
    by_cases hb : most < 0 ∨ most < (n : Int)
    · rw [V.text_big hg rfl hb] at h; simp at h
    · by_cases hs : (s.size : Int) - p < n
      · rw [V.text_short hg rfl hb hs] at h; simp at h
      · rw [V.text_ok hg rfl hb hs] at h
        simp only [Prod.mk.injEq, and_true] at h
        obtain ⟨ht, rfl⟩ := h
        obtain ⟨g1, g2, g3, g4, g5⟩ := get_ok hg
        have hz : t.size = n := by rw [← ht, ByteArray.size_extract]; omega
        refine ⟨g1, by omega, by omega, by omega, ?_⟩
        rw [g5, nats_txt, hz, List.append_assoc]
        congr 1
        rw [← ht, V.nats_extract]
        have e1 : (p + (n : Int)).toNat - p.toNat = n := by omega
        have e2 : (p + (n : Int)).toNat = p.toNat + n := by omega
        rw [e1, e2, ← List.drop_drop, List.take_append_drop]
  · rw [V.text_err hg he] at h
    simp at h
    exact absurd h.2.2 he

theorem text_no {s t : ByteArray} {a to e most : Int} (h : V.text s a most = (t, to, e)) (he : e ≠ 0) : t = ⟨#[]⟩ ∧ to = 0 := by
  unfold V.text at h
  (repeat' split at h) <;> simp only [Prod.mk.injEq] at h
  · exact ⟨h.1.symm, h.2.1.symm⟩
  · exact ⟨h.1.symm, h.2.1.symm⟩
  · exact ⟨h.1.symm, h.2.1.symm⟩
  · exact absurd h.2.2.symm he

/-! ### One behind the other -/
def run {α : Type} (f : Int → α × Int × Int) (a : Int) : Nat → List α × Int × Int
  | 0 => ([], a, 0)
  | k + 1 => if (run f a k).2.2 ≠ 0 then run f a k
    else if (f (run f a k).2.1).2.2 ≠ 0 then ([], 0, (f (run f a k).2.1).2.2)
    else ((run f a k).1 ++ [(f (run f a k).2.1).1], (f (run f a k).2.1).2.1, 0)

theorem run_next {α : Type} {f : Int → α × Int × Int} {a to to' : Int} {k : Nat} {l : List α} {x : α} (h : run f a k = (l, to, 0)) (hq : f to = (x, to', 0)) : run f a (k + 1) = (l ++ [x], to', 0) := by
  simp [run, h, hq]
theorem run_bad {α : Type} {f : Int → α × Int × Int} {a to e : Int} {k : Nat} {l : List α} (h : run f a k = (l, to, e)) (he : e ≠ 0) : ∀ d, run f a (k + d) = (l, to, e) := by
  intro d
  induction d with
  | zero => exact h
  | succ d ih => rw [← Nat.add_assoc]; simp [run, ih, he]
theorem run_stop {α : Type} {f : Int → α × Int × Int} {a to to' e : Int} {k n : Nat} {l : List α} {x : α} (h : run f a k = (l, to, 0)) (hq : f to = (x, to', e)) (he : e ≠ 0) (hk : k < n) : run f a n = ([], 0, e) := by
  obtain ⟨d, rfl⟩ : ∃ d, n = (k + 1) + d := ⟨n - (k + 1), by omega⟩
  exact run_bad (by simp [run, h, hq, he]) he d
theorem run_len {α : Type} {f : Int → α × Int × Int} {a : Int} : ∀ {k : Nat} {to : Int} {l : List α}, run f a k = (l, to, 0) → l.length = k := by
  intro k
  induction k with
  | zero => intro to l h; simp [run] at h; rw [h.1]; rfl
  | succ k ih =>
    intro to l h
    obtain ⟨l0, t0, e0, h0⟩ : ∃ l0 t0 e0, run f a k = (l0, t0, e0) := ⟨_, _, _, rfl⟩
    simp only [run, h0] at h
    split at h
    · rename_i hne
      simp only [Prod.mk.injEq] at h
      exact absurd h.2.2 hne
    · rename_i hz
      have hz' : e0 = 0 := by simpa using hz
      subst hz'
      split at h
      · rename_i hne
        simp only [Prod.mk.injEq] at h
        exact absurd h.2.2 hne
      · simp only [Prod.mk.injEq] at h
        rw [← h.1, List.length_append, ih h0]; rfl
theorem run_no {α : Type} {f : Int → α × Int × Int} {a e : Int} : ∀ {k : Nat} {to : Int} {l : List α}, run f a k = (l, to, e) → e ≠ 0 → l = [] ∧ to = 0 := by
  intro k
  induction k with
  | zero => intro to l h he; simp [run] at h; exact absurd h.2.2.symm he
  | succ k ih =>
    intro to l h he
    obtain ⟨l0, t0, e0, h0⟩ : ∃ l0 t0 e0, run f a k = (l0, t0, e0) := ⟨_, _, _, rfl⟩
    simp only [run, h0] at h
    split at h
    · simp only [Prod.mk.injEq] at h
      obtain ⟨rfl, rfl, rfl⟩ := h
      exact ih h0 he
    · split at h
      · simp only [Prod.mk.injEq] at h
        exact ⟨h.1.symm, h.2.1.symm⟩
      · simp only [Prod.mk.injEq] at h
        exact absurd h.2.2.symm he
/-- what led to a longer run -/
theorem run_prev {α : Type} {f : Int → α × Int × Int} {a to : Int} {k : Nat} {l : List α} (h : run f a (k + 1) = (l, to, 0)) : ∃ l0 t0 x, run f a k = (l0, t0, 0) ∧ f t0 = (x, to, 0) ∧ l = l0 ++ [x] := by
  obtain ⟨l0, t0, e0, h0⟩ : ∃ l0 t0 e0, run f a k = (l0, t0, e0) := ⟨_, _, _, rfl⟩
  obtain ⟨x, t1, e1, h1⟩ : ∃ x t1 e1, f t0 = (x, t1, e1) := ⟨_, _, _, rfl⟩
  simp only [run, h0, h1] at h
  split at h
  · rename_i hne
    simp only [Prod.mk.injEq] at h
    exact absurd h.2.2 hne
  · rename_i hz
    have hz' : e0 = 0 := by simpa using hz
    subst hz'
    split at h
    · rename_i hne
      simp only [Prod.mk.injEq] at h
      exact absurd h.2.2 hne
    · rename_i hz1
      have hz1' : e1 = 0 := by simpa using hz1
      subst hz1'
      simp only [Prod.mk.injEq] at h
      exact ⟨l0, t0, x, h0, by rw [h1, h.2.1], h.1.symm⟩

/-- what stands one behind the other is got one by one -/
theorem run_put {α : Type} (s : ByteArray) (f : Int → α × Int × Int) (enc : α → List Nat) (xs : List α)
    (hf : ∀ x ∈ xs, ∀ l r, V.nats s = l ++ (enc x ++ r) → f l.length = (x, (l.length : Int) + (enc x).length, 0)) :
    ∀ (k : Nat) (l r : List Nat), k ≤ xs.length → V.nats s = l ++ (xs.flatMap enc ++ r) → run f l.length k = (xs.take k, (l.length : Int) + ((xs.take k).flatMap enc).length, 0) := by
  intro k
  induction k with
  | zero => intro l r _ _; simp [run]
  | succ k ih =>
    intro l r hk h
    have hlt : k < xs.length := by omega
    have e := ih l r (by omega) h
    have hxs : xs = xs.take k ++ (xs[k] :: xs.drop (k + 1)) := by
      rw [← List.drop_eq_getElem_cons hlt, List.take_append_drop]
    have hs : V.nats s = (l ++ (xs.take k).flatMap enc) ++ (enc xs[k] ++ ((xs.drop (k + 1)).flatMap enc ++ r)) := by
      have hfl : xs.flatMap enc = (xs.take k).flatMap enc ++ (enc xs[k] ++ (xs.drop (k + 1)).flatMap enc) := by
        have := congrArg (List.flatMap enc) hxs
        rw [List.flatMap_append, List.flatMap_cons] at this
        exact this
      rw [h, hfl]
      simp only [List.append_assoc]
    have g := hf xs[k] (List.getElem_mem hlt) _ _ hs
    rw [List.length_append] at g
    have e2 : (((l.length + ((xs.take k).flatMap enc).length : Nat)) : Int) = (l.length : Int) + ((xs.take k).flatMap enc).length := by omega
    rw [e2] at g
    have et : xs.take (k + 1) = xs.take k ++ [xs[k]] := by rw [List.take_add_one, List.getElem?_eq_getElem hlt]; rfl
    have el : ((xs.take (k + 1)).flatMap enc).length = ((xs.take k).flatMap enc).length + (enc xs[k]).length := by
      rw [et, List.flatMap_append, List.length_append]; simp
    rw [run_next e g, ← et]
    refine Prod.ext rfl (Prod.ext ?_ rfl)
    show (l.length : Int) + ((xs.take k).flatMap enc).length + (enc xs[k]).length = (l.length : Int) + (((xs.take (k + 1)).flatMap enc).length : Nat)
    rw [el]
    omega

/-- what is got one by one stands one behind the other -/
theorem run_got {α : Type} (s : ByteArray) (f : Int → α × Int × Int) (enc : α → List Nat)
    (hf : ∀ a x to, f a = (x, to, 0) → 0 ≤ a ∧ a < to ∧ to ≤ s.size ∧ (V.nats s).drop a.toNat = enc x ++ (V.nats s).drop to.toNat) (a : Int) (ha1 : a ≤ s.size) :
    ∀ (k : Nat) (l : List α) (to : Int), run f a k = (l, to, 0) → a ≤ to ∧ to ≤ s.size ∧ (V.nats s).drop a.toNat = l.flatMap enc ++ (V.nats s).drop to.toNat := by
  intro k
  induction k with
  | zero => intro l to h; simp [run] at h; obtain ⟨rfl, rfl⟩ := h; exact ⟨Int.le_refl _, ha1, by simp⟩
  | succ k ih =>
    intro l to h
    obtain ⟨l0, t0, x, h0, h1, rfl⟩ := run_prev h
    obtain ⟨g1, g2, g3⟩ := ih l0 t0 h0
    obtain ⟨q1, q2, q3, q4⟩ := hf _ _ _ h1
    refine ⟨by omega, q3, ?_⟩
    rw [g3, q4]
    simp [List.flatMap_append]

/-! ### Records -/
structure R where
  hk : Bool
  key : ByteArray
  tb : Bool
  val : ByteArray
def R.zero : R := ⟨false, ⟨#[]⟩, false, ⟨#[]⟩⟩

/-- whether a record may be -/
def chk (hk : Bool) (k : ByteArray) (tb : Bool) (v : ByteArray) : Int :=
  match hk, tb with
  | false, false => if 0 < k.size then 30 else if 512 < v.size then 2 else 0
  | false, true => 30
  | true, false => if 64 < k.size then 2 else if 512 < v.size then 2 else 0
  | true, true => if 0 < v.size then 30 else if 64 < k.size then 2 else 0
def R.chk (r : R) : Int := L3.chk r.hk r.key r.tb r.val

theorem chk_parts {hk tb : Bool} {k v : ByteArray} (h : chk hk k tb v = 0) : k.size ≤ 64 ∧ v.size ≤ 512 ∧ (hk = false → k.size = 0 ∧ tb = false) ∧ (tb = true → v.size = 0 ∧ hk = true) := by
  cases hk <;> cases tb <;> simp only [chk] at h
  · split at h
    · omega
    · split at h
      · omega
      · exact ⟨by omega, by omega, ⟨fun _ => ⟨by omega, rfl⟩, fun q => Bool.noConfusion q⟩⟩
  · omega
  · split at h
    · omega
    · split at h
      · omega
      · exact ⟨by omega, by omega, ⟨fun q => Bool.noConfusion q, fun q => Bool.noConfusion q⟩⟩
  · split at h
    · omega
    · split at h
      · omega
      · exact ⟨by omega, by omega, ⟨fun q => Bool.noConfusion q, fun _ => ⟨by omega, rfl⟩⟩⟩

/-- a record's bytes -/
def recText (hk : Bool) (k : ByteArray) (tb : Bool) (v : ByteArray) : ByteArray :=
  match hk, tb with
  | _, true => ⟨#[3]⟩ ++ txt k
  | true, false => ⟨#[1]⟩ ++ txt k ++ txt v
  | false, false => ⟨#[0]⟩ ++ txt v
/-- a record's bytes, none if it may not be -/
def putT (hk : Bool) (k : ByteArray) (tb : Bool) (v : ByteArray) : ByteArray := if chk hk k tb v = 0 then recText hk k tb v else ⟨#[]⟩
def R.put (r : R) : ByteArray := putT r.hk r.key r.tb r.val

theorem one_size (c : UInt8) : (ByteArray.mk #[c]).size = 1 := rfl
theorem putT_size (hk : Bool) (k : ByteArray) (tb : Bool) (v : ByteArray) : (putT hk k tb v).size ≤ 600 := by
  unfold putT
  split
  · rename_i h
    obtain ⟨q1, q2, _, _⟩ := chk_parts h
    have e1 := txt_size k (by omega)
    have e2 := txt_size v (by omega)
    cases hk <;> cases tb <;> simp only [recText, ByteArray.size_append, one_size] <;> omega
  · show 0 ≤ 600
    omega
theorem empty_of {s : ByteArray} (h : s.size = 0) : s = ⟨#[]⟩ := ByteArray.size_eq_zero_iff.1 h

/-- the record whose first byte is c, from behind it on -/
def bodyR (s : ByteArray) (a : Int) (c : Nat) : R × Int × Int :=
  if c = 0 then
    if (V.text s a 512).2.2 ≠ 0 then (R.zero, 0, (V.text s a 512).2.2) else (⟨false, ⟨#[]⟩, false, (V.text s a 512).1⟩, (V.text s a 512).2.1, 0)
  else if c = 1 then
    if (V.text s a 64).2.2 ≠ 0 then (R.zero, 0, (V.text s a 64).2.2)
    else if (V.text s (V.text s a 64).2.1 512).2.2 ≠ 0 then (R.zero, 0, (V.text s (V.text s a 64).2.1 512).2.2)
    else (⟨true, (V.text s a 64).1, false, (V.text s (V.text s a 64).2.1 512).1⟩, (V.text s (V.text s a 64).2.1 512).2.1, 0)
  else if c = 3 then
    if (V.text s a 64).2.2 ≠ 0 then (R.zero, 0, (V.text s a 64).2.2) else (⟨true, (V.text s a 64).1, true, ⟨#[]⟩⟩, (V.text s a 64).2.1, 0)
  else (R.zero, 0, 30)

def getR (s : ByteArray) (a : Int) : R × Int × Int :=
  if a < 0 ∨ (s.size : Int) < a then (R.zero, 0, 1)
  else match (V.nats s)[a.toNat]? with
    | none => (R.zero, 0, 10)
    | some c => bodyR s (a + 1) c

theorem getR_out {s : ByteArray} {a : Int} (h : a < 0 ∨ (s.size : Int) < a) : getR s a = (R.zero, 0, 1) := if_pos h
theorem getR_end {s : ByteArray} {a : Int} (h : a = s.size) : getR s a = (R.zero, 0, 10) := by
  unfold getR
  rw [if_neg (by omega), List.getElem?_eq_none (by rw [V.nats_len]; omega)]
theorem getR_in {s : ByteArray} {a : Int} {c : Nat} (h0 : 0 ≤ a) (h : (V.nats s)[a.toNat]? = some c) : getR s a = bodyR s (a + 1) c := by
  have hl : a.toNat < s.size := by rw [← V.nats_len]; exact (List.getElem?_eq_some_iff.1 h).1
  unfold getR
  rw [if_neg (by omega), h]

theorem nats_one (c : UInt8) (l : ByteArray) : V.nats (⟨#[c]⟩ ++ l) = c.toNat :: V.nats l := by rw [V.nats_append]; rfl

theorem bodyR_zero {s v : ByteArray} {a to : Int} (h : V.text s a 512 = (v, to, 0)) : bodyR s a 0 = (⟨false, ⟨#[]⟩, false, v⟩, to, 0) := by simp [bodyR, h]
theorem bodyR_three {s k : ByteArray} {a to : Int} (h : V.text s a 64 = (k, to, 0)) : bodyR s a 3 = (⟨true, k, true, ⟨#[]⟩⟩, to, 0) := by simp [bodyR, h]
theorem bodyR_one {s k v : ByteArray} {a p to : Int} (h : V.text s a 64 = (k, p, 0)) (h2 : V.text s p 512 = (v, to, 0)) : bodyR s a 1 = (⟨true, k, false, v⟩, to, 0) := by simp [bodyR, h, h2]
theorem bodyR_zero_err {s v : ByteArray} {a to e : Int} (h : V.text s a 512 = (v, to, e)) (he : e ≠ 0) : bodyR s a 0 = (R.zero, 0, e) := by simp [bodyR, h, he]
theorem bodyR_three_err {s k : ByteArray} {a to e : Int} (h : V.text s a 64 = (k, to, e)) (he : e ≠ 0) : bodyR s a 3 = (R.zero, 0, e) := by simp [bodyR, h, he]
theorem bodyR_one_err {s k : ByteArray} {a to e : Int} (h : V.text s a 64 = (k, to, e)) (he : e ≠ 0) : bodyR s a 1 = (R.zero, 0, e) := by simp [bodyR, h, he]
theorem bodyR_one_err2 {s k v : ByteArray} {a p to e : Int} (h : V.text s a 64 = (k, p, 0)) (h2 : V.text s p 512 = (v, to, e)) (he : e ≠ 0) : bodyR s a 1 = (R.zero, 0, e) := by simp [bodyR, h, h2, he]
theorem bodyR_no {s : ByteArray} {a : Int} {c : Nat} (h : c ≠ 0 ∧ c ≠ 1 ∧ c ≠ 3) : bodyR s a c = (R.zero, 0, 30) := by simp [bodyR, h]

/-- a record that is put is got -/
theorem getR_put {s : ByteArray} {r : R} (hr : r.chk = 0) {l b : List Nat} (h : V.nats s = l ++ (V.nats r.put ++ b)) : getR s l.length = (r, (l.length : Int) + (V.nats r.put).length, 0) := by
  obtain ⟨hk, k, tb, v⟩ := r
  have hr' : chk hk k tb v = 0 := hr
  obtain ⟨q1, q2, q3, q4⟩ := chk_parts hr'
  have hp : R.put ⟨hk, k, tb, v⟩ = recText hk k tb v := if_pos hr'
  rw [hp] at h ⊢
  have e1 : ((l.length : Int)).toNat = l.length := by omega
  have hfst : ∀ (c : Nat) (t : List Nat), V.nats (recText hk k tb v) = c :: t → (V.nats s)[((l.length : Int)).toNat]? = some c := by
    intro c t e
    rw [e] at h
    rw [e1, h]
    simp
  cases hk
  · obtain ⟨k0, rfl⟩ := q3 rfl
    have ek := empty_of k0
    subst ek
    have e : V.nats (recText false ⟨#[]⟩ false v) = 0 :: V.nats (txt v) := nats_one 0 _
    rw [getR_in (by omega) (hfst _ _ e)]
    have ht := text_at (l := l ++ [0]) (r := b) (t := v) (s := s) (most := 512) (by omega) (by omega) (by rw [h, e]; simp)
    rw [e, List.length_cons, V.nats_len]
    rw [List.length_append, List.length_singleton] at ht
    have ea : ((l.length + 1 : Nat) : Int) = (l.length : Int) + 1 := by omega
    rw [ea] at ht
    rw [bodyR_zero ht]
    refine Prod.ext rfl (Prod.ext ?_ rfl)
    show (l.length : Int) + 1 + ((txt v).size : Int) = (l.length : Int) + (((txt v).size + 1 : Nat) : Int)
    omega
  · cases tb
    · have e : V.nats (recText true k false v) = 1 :: (V.nats (txt k) ++ V.nats (txt v)) := by
        show V.nats (⟨#[1]⟩ ++ txt k ++ txt v) = _
        rw [V.nats_append, nats_one]; rfl
      rw [getR_in (by omega) (hfst _ _ e)]
      have ht := text_at (l := l ++ [1]) (r := V.nats (txt v) ++ b) (t := k) (s := s) (most := 64) (by omega) (by omega) (by rw [h, e]; simp)
      have ht2 := text_at (l := l ++ 1 :: V.nats (txt k)) (r := b) (t := v) (s := s) (most := 512) (by omega) (by omega) (by rw [h, e]; simp)
      rw [List.length_append, List.length_singleton] at ht
      rw [List.length_append, List.length_cons, V.nats_len] at ht2
      have ea : ((l.length + 1 : Nat) : Int) = (l.length : Int) + 1 := by omega
      have ea2 : ((l.length + ((txt k).size + 1) : Nat) : Int) = (l.length : Int) + 1 + ((txt k).size : Int) := by omega
      rw [ea] at ht
      rw [ea2] at ht2
      rw [bodyR_one ht ht2, e, List.length_cons, List.length_append, V.nats_len, V.nats_len]
      refine Prod.ext rfl (Prod.ext ?_ rfl)
      show (l.length : Int) + 1 + ((txt k).size : Int) + ((txt v).size : Int) = (l.length : Int) + (((txt k).size + (txt v).size + 1 : Nat) : Int)
      omega
    · obtain ⟨v0, _⟩ := q4 rfl
      have ev := empty_of v0
      subst ev
      have e : V.nats (recText true k true ⟨#[]⟩) = 3 :: V.nats (txt k) := nats_one 3 _
      rw [getR_in (by omega) (hfst _ _ e)]
      have ht := text_at (l := l ++ [3]) (r := b) (t := k) (s := s) (most := 64) (by omega) (by omega) (by rw [h, e]; simp)
      rw [e, List.length_cons, V.nats_len]
      rw [List.length_append, List.length_singleton] at ht
      have ea : ((l.length + 1 : Nat) : Int) = (l.length : Int) + 1 := by omega
      rw [ea] at ht
      rw [bodyR_three ht]
      refine Prod.ext rfl (Prod.ext ?_ rfl)
      show (l.length : Int) + 1 + ((txt k).size : Int) = (l.length : Int) + (((txt k).size + 1 : Nat) : Int)
      omega

/-- what is got is a record's bytes -/
theorem getR_got {s : ByteArray} {a to : Int} {r : R} (h : getR s a = (r, to, 0)) :
    r.chk = 0 ∧ 0 ≤ a ∧ a < to ∧ to ≤ s.size ∧ (V.nats s).drop a.toNat = V.nats r.put ++ (V.nats s).drop to.toNat := by
  by_cases h0 : a < 0 ∨ (s.size : Int) < a
  · rw [getR_out h0] at h; simp at h
  · by_cases h1 : a = s.size
    · rw [getR_end h1] at h; simp at h
    · have hl : a.toNat < (V.nats s).length := by rw [V.nats_len]; omega
      have hc := List.getElem?_eq_getElem hl
      have hd := List.drop_eq_getElem_cons hl
      generalize (V.nats s)[a.toNat] = c at hc hd
      rw [getR_in (by omega) hc] at h
      have ea : (a + 1).toNat = a.toNat + 1 := by omega
      rw [← ea] at hd
      have fin : ∀ (hk : Bool) (k : ByteArray) (tb : Bool) (v : ByteArray), chk hk k tb v = 0 → V.nats (recText hk k tb v) ++ (V.nats s).drop to.toNat = c :: (V.nats s).drop (a + 1).toNat → (R.mk hk k tb v).chk = 0 ∧ (V.nats s).drop a.toNat = V.nats (R.mk hk k tb v).put ++ (V.nats s).drop to.toNat := by
        intro hk k tb v hq e
        refine ⟨hq, ?_⟩
        rw [hd, ← e]
        rw [show R.put ⟨hk, k, tb, v⟩ = recText hk k tb v from if_pos hq]
      by_cases c0 : c = 0
      · subst c0
        obtain ⟨v, p, e, ht⟩ : ∃ v p e, V.text s (a + 1) 512 = (v, p, e) := ⟨_, _, _, rfl⟩
        by_cases he : e = 0
        · subst he
          rw [bodyR_zero ht] at h
          simp only [Prod.mk.injEq, and_true] at h
          obtain ⟨rfl, rfl⟩ := h
          obtain ⟨t1, t2, t3, t4, t5⟩ := text_got ht
          obtain ⟨f1, f2⟩ := fin false ⟨#[]⟩ false v (by simp only [chk]; rw [if_neg (by decide), if_neg (by omega)]) (by rw [t5]; show V.nats (⟨#[0]⟩ ++ txt v) ++ _ = _; rw [nats_one]; rfl)
          exact ⟨f1, by omega, by omega, t3, f2⟩
        · rw [bodyR_zero_err ht he] at h
          simp only [Prod.mk.injEq] at h
          exact absurd h.2.2 he
      · by_cases c1 : c = 1
        · subst c1
          obtain ⟨k, p, e, ht⟩ : ∃ k p e, V.text s (a + 1) 64 = (k, p, e) := ⟨_, _, _, rfl⟩
          by_cases he : e = 0
          · subst he
            obtain ⟨v, p2, e2, ht2⟩ : ∃ v p2 e2, V.text s p 512 = (v, p2, e2) := ⟨_, _, _, rfl⟩
            by_cases he2 : e2 = 0
            · subst he2
              rw [bodyR_one ht ht2] at h
              simp only [Prod.mk.injEq, and_true] at h
              obtain ⟨rfl, rfl⟩ := h
              obtain ⟨t1, t2, t3, t4, t5⟩ := text_got ht
              obtain ⟨u1, u2, u3, u4, u5⟩ := text_got ht2
              obtain ⟨f1, f2⟩ := fin true k false v (by simp only [chk]; rw [if_neg (by omega), if_neg (by omega)]) (by rw [t5, u5]; show V.nats (⟨#[1]⟩ ++ txt k ++ txt v) ++ _ = _; rw [V.nats_append, nats_one]; simp)
              exact ⟨f1, by omega, by omega, u3, f2⟩
            · rw [bodyR_one_err2 ht ht2 he2] at h
              simp only [Prod.mk.injEq] at h
              exact absurd h.2.2 he2
          · rw [bodyR_one_err ht he] at h
            simp only [Prod.mk.injEq] at h
            exact absurd h.2.2 he
        · by_cases c3 : c = 3
          · subst c3
            obtain ⟨k, p, e, ht⟩ : ∃ k p e, V.text s (a + 1) 64 = (k, p, e) := ⟨_, _, _, rfl⟩
            by_cases he : e = 0
            · subst he
              rw [bodyR_three ht] at h
              simp only [Prod.mk.injEq, and_true] at h
              obtain ⟨rfl, rfl⟩ := h
              obtain ⟨t1, t2, t3, t4, t5⟩ := text_got ht
              obtain ⟨f1, f2⟩ := fin true k true ⟨#[]⟩ (by simp only [chk]; rw [if_neg (by decide), if_neg (by omega)]) (by rw [t5]; show V.nats (⟨#[3]⟩ ++ txt k) ++ _ = _; rw [nats_one]; rfl)
              exact ⟨f1, by omega, by omega, t3, f2⟩
            · rw [bodyR_three_err ht he] at h
              simp only [Prod.mk.injEq] at h
              exact absurd h.2.2 he
          · rw [bodyR_no ⟨c0, c1, c3⟩] at h
            simp at h

theorem bodyR_err {s : ByteArray} {a to e : Int} {c : Nat} {r : R} (h : bodyR s a c = (r, to, e)) (he : e ≠ 0) : r = R.zero ∧ to = 0 := by
  unfold bodyR at h
  (repeat' split at h) <;> simp only [Prod.mk.injEq] at h <;> first | exact ⟨h.1.symm, h.2.1.symm⟩ | exact absurd h.2.2.symm he
theorem getR_err {s : ByteArray} {a to e : Int} {r : R} (h : getR s a = (r, to, e)) (he : e ≠ 0) : r = R.zero ∧ to = 0 := by
  unfold getR at h
  split at h
  · simp only [Prod.mk.injEq] at h
    exact ⟨h.1.symm, h.2.1.symm⟩
  · split at h
    · simp only [Prod.mk.injEq] at h
      exact ⟨h.1.symm, h.2.1.symm⟩
    · exact bodyR_err h he
end Go.Proofs.Ytflcggpeflagiaa.L3
/-
  Plain facts: the batch at a place.
-/
namespace Go.Proofs.Ytflcggpeflagiaa.L3

/-- how many records may be -/
def cnt (n : Int) : Int := if n = 0 then 30 else if 16 < n then 2 else 0

/-- what is wrong with four numbers -/
def numE (x0 x1 x2 x3 : Nat) : Int :=
  if 1099511627776 < x0 ∨ 1099511627776 < x1 ∨ 1099511627776 < x2 then 1 else cnt x3
/-- a batch's numbers at a place -/
def numP (s : ByteArray) (a : Int) : (Nat × Nat × Nat × Nat) × Int × Int :=
  match run (V.get s) a 4 with
  | ([x0, x1, x2, x3], to, e) => if e ≠ 0 then ((0, 0, 0, 0), 0, e) else if numE x0 x1 x2 x3 ≠ 0 then ((0, 0, 0, 0), 0, numE x0 x1 x2 x3) else ((x0, x1, x2, x3), to, 0)
  | (_, _, e) => ((0, 0, 0, 0), 0, e)
theorem numP_err {s : ByteArray} {a to e : Int} {l : List Nat} (h : run (V.get s) a 4 = (l, to, e)) (he : e ≠ 0) : numP s a = ((0, 0, 0, 0), 0, e) := by
  obtain ⟨rfl, rfl⟩ := run_no h he
  unfold numP
  rw [h]
theorem numP_bad {s : ByteArray} {a to x : Int} {x0 x1 x2 x3 : Nat} (h : run (V.get s) a 4 = ([x0, x1, x2, x3], to, 0)) (hx : numE x0 x1 x2 x3 = x) (h0 : x ≠ 0) : numP s a = ((0, 0, 0, 0), 0, x) := by
  subst hx
  unfold numP
  rw [h]
  simp [h0]
theorem numP_ok {s : ByteArray} {a to : Int} {x0 x1 x2 x3 : Nat} (h : run (V.get s) a 4 = ([x0, x1, x2, x3], to, 0)) (hx : numE x0 x1 x2 x3 = 0) : numP s a = ((x0, x1, x2, x3), to, 0) := by
  unfold numP
  rw [h]
  simp [hx]
theorem numE_ok {x0 x1 x2 x3 : Nat} (h : numE x0 x1 x2 x3 = 0) : x0 ≤ 1099511627776 ∧ x1 ≤ 1099511627776 ∧ x2 ≤ 1099511627776 ∧ 0 < x3 ∧ x3 ≤ 16 := by
  unfold numE cnt at h
  split at h
  · omega
  · split at h
    · omega
    · split at h <;> omega

/-- a batch -/
structure Bt where
  p : Nat
  e : Nat
  q : Nat
  l : List R
def Bt.zero : Bt := ⟨0, 0, 0, []⟩

/-- the batch at a place -/
def parse (s : ByteArray) (a : Int) : Bt × Int × Int :=
  if (numP s a).2.2 ≠ 0 then (Bt.zero, 0, (numP s a).2.2)
  else if (run (getR s) (numP s a).2.1 (numP s a).1.2.2.2).2.2 ≠ 0 then (Bt.zero, 0, (run (getR s) (numP s a).2.1 (numP s a).1.2.2.2).2.2)
  else (⟨(numP s a).1.1, (numP s a).1.2.1, (numP s a).1.2.2.1, (run (getR s) (numP s a).2.1 (numP s a).1.2.2.2).1⟩, (run (getR s) (numP s a).2.1 (numP s a).1.2.2.2).2.1, 0)

theorem parse_num {s : ByteArray} {a to x : Int} {n : Nat × Nat × Nat × Nat} (h : numP s a = (n, to, x)) (hx : x ≠ 0) : parse s a = (Bt.zero, 0, x) := by simp [parse, h, hx]
theorem parse_rec {s : ByteArray} {a to to' x : Int} {x0 x1 x2 x3 : Nat} {l : List R} (h : numP s a = ((x0, x1, x2, x3), to, 0)) (hr : run (getR s) to x3 = (l, to', x)) (hx : x ≠ 0) : parse s a = (Bt.zero, 0, x) := by simp [parse, h, hr, hx]
theorem parse_ok {s : ByteArray} {a to to' : Int} {x0 x1 x2 x3 : Nat} {l : List R} (h : numP s a = ((x0, x1, x2, x3), to, 0)) (hr : run (getR s) to x3 = (l, to', 0)) : parse s a = (⟨x0, x1, x2, l⟩, to', 0) := by simp [parse, h, hr]

theorem numP_err0 {s : ByteArray} {a to x : Int} {n : Nat × Nat × Nat × Nat} (h : numP s a = (n, to, x)) (hx : x ≠ 0) : n = (0, 0, 0, 0) ∧ to = 0 := by
  obtain ⟨l, t, e, hr⟩ : ∃ l t e, run (V.get s) a 4 = (l, t, e) := ⟨_, _, _, rfl⟩
  by_cases he : e = 0
  · subst he
    have hl := run_len hr
    match l, hl with
    | [x0, x1, x2, x3], _ =>
      by_cases hz : numE x0 x1 x2 x3 = 0
      · rw [numP_ok hr hz] at h
        simp only [Prod.mk.injEq] at h
        exact absurd h.2.2.symm hx
      · rw [numP_bad hr rfl hz] at h
        simp only [Prod.mk.injEq] at h
        exact ⟨by simp [← h.1], h.2.1.symm⟩
  · rw [numP_err hr he] at h
    simp only [Prod.mk.injEq] at h
    exact ⟨by simp [← h.1], h.2.1.symm⟩
theorem numP_run {s : ByteArray} {a to : Int} {x0 x1 x2 x3 : Nat} (h : numP s a = ((x0, x1, x2, x3), to, 0)) : run (V.get s) a 4 = ([x0, x1, x2, x3], to, 0) ∧ numE x0 x1 x2 x3 = 0 := by
  obtain ⟨l, t, e, hr⟩ : ∃ l t e, run (V.get s) a 4 = (l, t, e) := ⟨_, _, _, rfl⟩
  by_cases he : e = 0
  · subst he
    have hl := run_len hr
    match l, hl with
    | [y0, y1, y2, y3], _ =>
      by_cases hz : numE y0 y1 y2 y3 = 0
      · rw [numP_ok hr hz] at h
        simp only [Prod.mk.injEq, and_true] at h
        obtain ⟨⟨rfl, rfl, rfl, rfl⟩, rfl⟩ := h
        exact ⟨hr, hz⟩
      · rw [numP_bad hr rfl hz] at h
        simp only [Prod.mk.injEq] at h
        exact absurd h.2.2 hz
  · rw [numP_err hr he] at h
    simp only [Prod.mk.injEq] at h
    exact absurd h.2.2 he
end Go.Proofs.Ytflcggpeflagiaa.L3
