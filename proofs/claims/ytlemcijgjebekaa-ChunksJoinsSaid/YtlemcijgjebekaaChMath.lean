/-
  Chunks, their bytes, digests, and what a joiner holds: plain; no program is named here.
-/
import Derived.Test.YtlemcijgjebekaaMRecMath
import Derived.Test.YtlemcijgjebekaaCrcSpec
namespace Go.Proofs.Ytlemcijgjebekaa.L7
open L3

/-! ### digests -/
def rev (s : ByteArray) : ByteArray := V.bytesOf (V.nats s).reverse
theorem rev_size (s : ByteArray) : (rev s).size = s.size := by unfold rev; rw [V.bytesOf_size, List.length_reverse, V.nats_len]
def digest (s : ByteArray) : Nat := sumOf s * 4294967296 + sumOf (rev s)
theorem digest_lt (s : ByteArray) : digest s < 18446744073709551616 := by
  have := sumOf_lt s
  have := sumOf_lt (rev s)
  unfold digest; omega

/-! ### three numbers -/
def three (a b c : Nat) : ByteArray := V.put a ++ V.put b ++ V.put c
theorem three_nats (a b c : Nat) : V.nats (three a b c) = V.puts a ++ (V.puts b ++ V.puts c) := by
  unfold three; rw [V.nats_append, V.nats_append, V.nats_put, V.nats_put, V.nats_put, List.append_assoc]
theorem three_size (a b c : Nat) (ha : a < 18446744073709551616) (hb : b < 18446744073709551616) (hc : c < 18446744073709551616) : (three a b c).size ≤ 30 := by
  rw [← V.nats_len, three_nats]
  have := V.puts_len a ha
  have := V.puts_len b hb
  have := V.puts_len c hc
  simp; omega
def get3 (s : ByteArray) : (Nat × Nat × Nat) × Int × Bool :=
  if (V.get s 0).2.2 ≠ 0 then ((0, 0, 0), 0, false)
  else if (V.get s (V.get s 0).2.1).2.2 ≠ 0 then ((0, 0, 0), 0, false)
  else if (V.get s (V.get s (V.get s 0).2.1).2.1).2.2 ≠ 0 then ((0, 0, 0), 0, false)
  else (((V.get s 0).1, (V.get s (V.get s 0).2.1).1, (V.get s (V.get s (V.get s 0).2.1).2.1).1), (V.get s (V.get s (V.get s 0).2.1).2.1).2.1, true)
section
variable {s : ByteArray} {a b c : Nat} {t0 t1 t2 e : Int}
theorem get3_no0 (h : V.get s 0 = (a, t0, e)) (he : e ≠ 0) : get3 s = ((0, 0, 0), 0, false) := by
  unfold get3; rw [h]; exact if_pos he
theorem get3_no1 (h : V.get s 0 = (a, t0, 0)) (h1 : V.get s t0 = (b, t1, e)) (he : e ≠ 0) : get3 s = ((0, 0, 0), 0, false) := by
  unfold get3; rw [h, if_neg (by simp)]; dsimp only; rw [h1]; exact if_pos he
theorem get3_no2 (h : V.get s 0 = (a, t0, 0)) (h1 : V.get s t0 = (b, t1, 0)) (h2 : V.get s t1 = (c, t2, e)) (he : e ≠ 0) : get3 s = ((0, 0, 0), 0, false) := by
  unfold get3; rw [h, if_neg (by simp)]; dsimp only; rw [h1, if_neg (by simp)]; dsimp only; rw [h2]; exact if_pos he
theorem get3_yes (h : V.get s 0 = (a, t0, 0)) (h1 : V.get s t0 = (b, t1, 0)) (h2 : V.get s t1 = (c, t2, 0)) : get3 s = ((a, b, c), t2, true) := by
  unfold get3; rw [h, if_neg (by simp)]; dsimp only; rw [h1, if_neg (by simp)]; dsimp only; rw [h2]; exact if_neg (by simp)
end
theorem get3_at {s : ByteArray} {r : List Nat} {a b c : Nat} (ha : a < 18446744073709551616) (hb : b < 18446744073709551616) (hc : c < 18446744073709551616) (h : V.nats s = V.nats (three a b c) ++ r) :
    get3 s = ((a, b, c), ((three a b c).size : Int), true) := by
  rw [three_nats] at h
  have h0 : V.get s 0 = (a, ((V.puts a).length : Int), 0) := V.get_first ha (by rw [h, List.append_assoc])
  have h1 : V.get s ((V.puts a).length : Int) = (b, ((V.puts a).length : Int) + (V.puts b).length, 0) := V.get_at (l := V.puts a) (r := V.puts c ++ r) hb (by rw [h]; simp [List.append_assoc])
  have h2 := V.get_at (s := s) (l := V.puts a ++ V.puts b) (r := r) hc (by rw [h]; simp [List.append_assoc])
  have el : ((V.puts a ++ V.puts b).length : Int) = ((V.puts a).length : Int) + (V.puts b).length := by simp
  rw [el] at h2
  rw [get3_yes h0 h1 h2]
  refine Prod.ext rfl (Prod.ext ?_ rfl)
  show _ = (((three a b c).size : Nat) : Int)
  rw [← V.nats_len, three_nats]; simp; omega
theorem get3_got {s : ByteArray} {a b c : Nat} {to : Int} (h : get3 s = ((a, b, c), to, true)) :
    a < 18446744073709551616 ∧ b < 18446744073709551616 ∧ c < 18446744073709551616 ∧ 0 ≤ to ∧ to ≤ s.size ∧ V.nats s = V.nats (three a b c) ++ (V.nats s).drop to.toNat := by
  obtain ⟨n0, t0, e0, h0⟩ : ∃ n t e, V.get s 0 = (n, t, e) := ⟨_, _, _, rfl⟩
  obtain ⟨n1, t1, e1, h1⟩ : ∃ n t e, V.get s t0 = (n, t, e) := ⟨_, _, _, rfl⟩
  obtain ⟨n2, t2, e2, h2⟩ : ∃ n t e, V.get s t1 = (n, t, e) := ⟨_, _, _, rfl⟩
  by_cases q0 : e0 = 0
  · subst q0
    by_cases q1 : e1 = 0
    · subst q1
      by_cases q2 : e2 = 0
      · subst q2
        rw [get3_yes h0 h1 h2] at h
        simp only [Prod.mk.injEq] at h
        obtain ⟨⟨rfl, rfl, rfl⟩, rfl, _⟩ := h
        obtain ⟨g1, g2, g3, g4, g5⟩ := get_ok h0
        obtain ⟨k1, k2, k3, k4, k5⟩ := get_ok h1
        obtain ⟨m1, m2, m3, m4, m5⟩ := get_ok h2
        refine ⟨g4, k4, m4, by omega, m3, ?_⟩
        have : (V.nats s).drop (0 : Int).toNat = V.nats s := rfl
        rw [this] at g5
        rw [three_nats, List.append_assoc, List.append_assoc, ← m5, ← k5, ← g5]
      · rw [get3_no2 h0 h1 h2 q2] at h; simp at h
    · rw [get3_no1 h0 h1 q1] at h; simp at h
  · rw [get3_no0 h0 q0] at h; simp at h

/-! ### chunks -/
structure Ck where
  i : Int
  n : Int
  d : Nat
  b : ByteArray
def Ck.zero : Ck := ⟨0, 0, 0, ⟨#[]⟩⟩
def right (c : Ck) : Bool := decide (0 ≤ c.i ∧ c.i < c.n ∧ c.n ≤ 4096 ∧ c.b.size ≤ 4096 ∧ (c.b.size ≠ 0 ∨ c.n = 1))
theorem right_parts {c : Ck} (h : right c = true) : 0 ≤ c.i ∧ c.i < c.n ∧ c.n ≤ 4096 ∧ c.b.size ≤ 4096 ∧ (c.b.size ≠ 0 ∨ c.n = 1) := by simpa [right] using h
def putC (c : Ck) : ByteArray := three c.i.toNat c.n.toNat c.d ++ frame c.b
theorem putC_size {c : Ck} (h : right c = true) (hd : c.d < 18446744073709551616) : (putC c).size ≤ 4140 := by
  obtain ⟨h0, h1, h2, h3, _⟩ := right_parts h
  unfold putC
  rw [ByteArray.size_append, frame_size]
  have := three_size c.i.toNat c.n.toNat c.d (by omega) (by omega) hd
  have := V.puts_len c.b.size (by omega)
  omega

theorem cut_got {s t : ByteArray} {a to most : Int} (h : cut s a most = (t, to, 0)) : 0 ≤ a ∧ a < to ∧ to ≤ s.size ∧ (t.size : Int) ≤ most ∧ (V.nats s).drop a.toNat = V.nats (frame t) ++ (V.nats s).drop to.toNat := by
  obtain ⟨x, p, e, hx⟩ : ∃ x p e, V.text s a most = (x, p, e) := ⟨_, _, _, rfl⟩
  by_cases he : e = 0
  · subst he
    by_cases hs : (s.size : Int) - p < 4
    · rw [cut_short hx hs] at h; simp at h
    · by_cases hb : s.extract p.toNat (p + 4).toNat = fourB (sumOf x)
      · rw [cut_ok hx hs hb] at h
        simp only [Prod.mk.injEq] at h
        obtain ⟨rfl, rfl, _⟩ := h
        obtain ⟨g1, g2, g3, g4, g5⟩ := L3.text_got hx
        refine ⟨g1, by omega, by omega, g4, ?_⟩
        have hb' := congrArg V.nats hb
        rw [V.nats_extract, fourB_nats _ (sumOf_lt x)] at hb'
        have e4 : (p + 4).toNat - p.toNat = 4 := by omega
        have e5 : (p + 4).toNat = p.toNat + 4 := by omega
        rw [e4] at hb'
        rw [g5, frame_nats, nats_txt, List.append_assoc, List.append_assoc, List.append_assoc, ← hb', e5, ← List.drop_drop, List.take_append_drop]
      · rw [cut_sum hx hs hb] at h; simp at h
  · rw [cut_err hx he] at h
    simp only [Prod.mk.injEq] at h
    exact absurd h.2.2 he

/-- what is put is read -/
theorem read_put {c : Ck} (h : right c = true) (hd : c.d < 18446744073709551616) :
    get3 (putC c) = ((c.i.toNat, c.n.toNat, c.d), ((three c.i.toNat c.n.toNat c.d).size : Int), true) ∧ cut (putC c) ((three c.i.toNat c.n.toNat c.d).size : Int) 4096 = (c.b, ((putC c).size : Int), 0) := by
  obtain ⟨h0, h1, h2, h3, _⟩ := right_parts h
  have hn : V.nats (putC c) = V.nats (three c.i.toNat c.n.toNat c.d) ++ V.nats (frame c.b) := by unfold putC; rw [V.nats_append]
  refine ⟨get3_at (by omega) (by omega) hd hn, ?_⟩
  have k := cut_at (s := putC c) (l := V.nats (three c.i.toNat c.n.toNat c.d)) (r := []) (t := c.b) (most := 4096) (by omega) (by rw [hn]; simp) (by omega)
  rw [V.nats_len] at k
  rw [k]
  refine Prod.ext rfl (Prod.ext ?_ rfl)
  show ((three c.i.toNat c.n.toNat c.d).size : Int) + (frame c.b).size = (((putC c).size : Nat) : Int)
  unfold putC; rw [ByteArray.size_append]; omega
/-- what is read so, put, is these bytes -/
theorem read_got {s t : ByteArray} {a b c : Nat} {to : Int} (h : get3 s = ((a, b, c), to, true)) (hc : cut s to 4096 = (t, (s.size : Int), 0)) : three a b c ++ frame t = s := by
  obtain ⟨_, _, _, _, _, g⟩ := get3_got h
  obtain ⟨_, _, _, _, k⟩ := cut_got hc
  apply V.nats_inj
  rw [V.nats_append, g, k]
  have : (V.nats s).drop ((s.size : Int)).toNat = [] := List.drop_of_length_le (by rw [V.nats_len]; omega)
  rw [this, List.append_nil]
theorem putC_inj {c d : Ck} (hc : right c = true) (hd : right d = true) (h1 : c.d < 18446744073709551616) (h2 : d.d < 18446744073709551616) (h : putC c = putC d) : c = d := by
  obtain ⟨a1, a2⟩ := read_put hc h1
  obtain ⟨b1, b2⟩ := read_put hd h2
  rw [h, b1] at a1
  simp only [Prod.mk.injEq] at a1
  obtain ⟨⟨e1, e2, e3⟩, e4, _⟩ := a1
  rw [h, ← e4, b2] at a2
  simp only [Prod.mk.injEq] at a2
  obtain ⟨h0, h1, _⟩ := right_parts hc
  obtain ⟨k0, k1, _⟩ := right_parts hd
  obtain ⟨ci, cn, cd, cb⟩ := c
  obtain ⟨di, dn, dd, db⟩ := d
  dsimp only at *
  obtain rfl : ci = di := by omega
  obtain rfl : cn = dn := by omega
  rw [← e3, ← a2.1]
/-- the answer of Get -/
def GetU (s : ByteArray) (X : Ck) (E : Int) : Prop := (right X = true ∧ X.d < 18446744073709551616 ∧ putC X = s ∧ E = 0) ∨ ((∀ x : Ck, right x = true → x.d < 18446744073709551616 → putC x ≠ s) ∧ X = Ck.zero ∧ E = 70)
theorem GetU.ex (s : ByteArray) : ∃ X E, GetU s X E := by
  by_cases h : ∃ x : Ck, right x = true ∧ x.d < 18446744073709551616 ∧ putC x = s
  · obtain ⟨x, h1, h2, h3⟩ := h
    exact ⟨x, 0, .inl ⟨h1, h2, h3, rfl⟩⟩
  · exact ⟨Ck.zero, 70, .inr ⟨fun x h1 h2 h3 => h ⟨x, h1, h2, h3⟩, rfl, rfl⟩⟩
theorem GetU.put {c : Ck} (h : right c = true) (hd : c.d < 18446744073709551616) : GetU (putC c) c 0 := .inl ⟨h, hd, rfl, rfl⟩

/-! ### splits -/
def nCh (s : ByteArray) (k : Nat) : Nat := max 1 ((s.size + k - 1) / k)
def bodyC (s : ByteArray) (k i : Nat) : ByteArray := s.extract (i * k) (min (i * k + k) s.size)
def chunkC (s : ByteArray) (k i : Nat) : Ck := ⟨i, nCh s k, digest s, bodyC s k i⟩
def splitL (s : ByteArray) (k : Nat) : List Ck := (List.range (nCh s k)).map (chunkC s k)
theorem splitL_len (s : ByteArray) (k : Nat) : (splitL s k).length = nCh s k := by simp [splitL]
theorem nCh_pos (s : ByteArray) (k : Nat) : 1 ≤ nCh s k := Nat.le_max_left _ _
theorem bodyC_size (s : ByteArray) (k i : Nat) : (bodyC s k i).size = min (i * k + k) s.size - i * k := by
  unfold bodyC; rw [ByteArray.size_extract]; omega
theorem nCh_some {s : ByteArray} {k : Nat} (hk : 1 ≤ k) (hs : s.size ≠ 0) : (nCh s k - 1) * k < s.size ∧ s.size ≤ nCh s k * k := by
  have h1 : nCh s k = (s.size + k - 1) / k := by
    unfold nCh
    have : 1 ≤ (s.size + k - 1) / k := (Nat.one_le_div_iff (by omega)).2 (by omega)
    omega
  have h2 := Nat.div_add_mod (s.size + k - 1) k
  have h3 := Nat.mod_lt (s.size + k - 1) (show 0 < k by omega)
  rw [← h1, Nat.mul_comm] at h2
  have h4 : (nCh s k - 1) * k = nCh s k * k - k := by rw [Nat.sub_mul, Nat.one_mul]
  have h5 : k ≤ nCh s k * k := Nat.le_mul_of_pos_left k (nCh_pos s k)
  omega
theorem nCh_none {s : ByteArray} {k : Nat} (hk : 1 ≤ k) (hs : s.size = 0) : nCh s k = 1 := by
  unfold nCh
  rw [hs, Nat.div_eq_of_lt (by omega)]; rfl
theorem body_pos {s : ByteArray} {k i : Nat} (hk : 1 ≤ k) (hs : s.size ≠ 0) (hi : i < nCh s k) : i * k < s.size := by
  have h := (nCh_some hk hs).1
  have : i * k ≤ (nCh s k - 1) * k := Nat.mul_le_mul_right k (by omega)
  omega
theorem chunk_right {s : ByteArray} {k i : Nat} (hk : 1 ≤ k) (hk2 : k ≤ 4096) (hn : nCh s k ≤ 4096) (hi : i < nCh s k) : right (chunkC s k i) = true := by
  have hb := bodyC_size s k i
  unfold right
  rw [decide_eq_true_eq]
  show (0 : Int) ≤ (i : Int) ∧ (i : Int) < (nCh s k : Int) ∧ (nCh s k : Int) ≤ 4096 ∧ (bodyC s k i).size ≤ 4096 ∧ ((bodyC s k i).size ≠ 0 ∨ (nCh s k : Int) = 1)
  refine ⟨by omega, by omega, by omega, by omega, ?_⟩
  by_cases hs : s.size = 0
  · right; rw [nCh_none hk hs]; rfl
  · left; have := body_pos hk hs hi; omega
theorem body_full {s : ByteArray} {k i : Nat} (hk : 1 ≤ k) (hi : i + 1 < nCh s k) : (bodyC s k i).size = k := by
  have hs : s.size ≠ 0 := fun e => by rw [nCh_none hk e] at hi; omega
  have := body_pos hk hs hi
  rw [bodyC_size]
  rw [Nat.add_mul, Nat.one_mul] at this
  omega
/-- texts, one behind the other -/
def join (l : List ByteArray) : ByteArray := l.foldl (· ++ ·) ⟨#[]⟩
theorem join_snoc (l : List ByteArray) (b : ByteArray) : join (l ++ [b]) = join l ++ b := by simp [join, List.foldl_append]
theorem extract_zero (s : ByteArray) (n : Nat) (h : s.size ≤ n) : s.extract 0 n = s := by
  apply ByteArray.ext
  rw [ByteArray.data_extract]
  apply Array.ext'
  have : s.data.size ≤ n := h
  simp [Array.toList_extract, List.extract_eq_take_drop]
  exact List.take_of_length_le (by simpa using this)
theorem extract_two (s : ByteArray) (a b : Nat) (h : a ≤ b) : s.extract 0 a ++ s.extract a b = s.extract 0 b := by
  apply V.nats_inj
  rw [V.nats_append, V.nats_extract, V.nats_extract, V.nats_extract]
  simp only [List.drop_zero, Nat.sub_zero]
  have : b = a + (b - a) := by omega
  rw [this, List.take_add]
  simp
theorem join_take (s : ByteArray) (k : Nat) : ∀ m : Nat, join ((List.range m).map (bodyC s k)) = s.extract 0 (min (m * k) s.size)
  | 0 => by
    have : s.extract 0 (min (0 * k) s.size) = ⟨#[]⟩ := by
      apply V.nats_inj; rw [V.nats_extract]; simp; rfl
    rw [this]; rfl
  | m + 1 => by
    rw [List.range_succ, List.map_append, List.map_singleton, join_snoc, join_take s k m, Nat.add_mul, Nat.one_mul]
    unfold bodyC
    by_cases h : m * k ≤ s.size
    · rw [Nat.min_eq_left h, extract_two _ _ _ (by omega)]
    · have e1 : min (m * k) s.size = s.size := by omega
      have e2 : min (m * k + k) s.size = s.size := by omega
      rw [e1, e2]
      have : s.extract (m * k) s.size = ⟨#[]⟩ := by
        apply V.nats_inj; rw [V.nats_extract, List.drop_of_length_le (by rw [V.nats_len]; omega)]; simp; rfl
      rw [this]
      apply V.nats_inj
      rw [V.nats_append]
      show _ ++ [] = _
      rw [List.append_nil]
theorem join_split {s : ByteArray} {k : Nat} (hk : 1 ≤ k) : join ((splitL s k).map (·.b)) = s := by
  have e : (splitL s k).map (·.b) = (List.range (nCh s k)).map (bodyC s k) := by unfold splitL; rw [List.map_map]; rfl
  rw [e, join_take]
  apply extract_zero
  by_cases hs : s.size = 0
  · omega
  · have := (nCh_some hk hs).2; omega

/-! ### a joiner: what it has, by numbers -/
abbrev Js := List (Option ByteArray)
def valM (m : Js) (x : Int) : Option ByteArray := if x < 0 then none else (m[x.toNat]?).join
def cntM (m : Js) : Nat := m.countP (·.isSome)
def baseM (m : Js) (n : Int) : Js := if m = [] then List.replicate n.toNat none else m
/-- what Take tells, and what it has then -/
def takeM (dg : Nat) (m : Js) (c : Ck) : Int × Js :=
  if right c = false then (70, m)
  else if c.d ≠ dg ∨ (m ≠ [] ∧ c.n ≠ m.length) then (71, m)
  else match valM m c.i with
    | some b => if b = c.b then (0, m) else (71, m)
    | none => (0, (baseM m c.n).set c.i.toNat (some c.b))
def missFrom : Nat → Js → List Int
  | _, [] => []
  | i, none :: t => (i : Int) :: missFrom (i + 1) t
  | i, some _ :: t => missFrom (i + 1) t
def missing (m : Js) : List Int := missFrom 0 m
def bodies (m : Js) : List ByteArray := m.map fun x => x.getD ⟨#[]⟩
/-- what Whole tells, and what it has then -/
def wholeM (dg : Nat) (m : Js) : (ByteArray × Bool) × Js :=
  if m = [] ∨ cntM m < m.length then ((⟨#[]⟩, false), m)
  else if digest (join (bodies m)) = dg then ((join (bodies m), true), m)
  else ((⟨#[]⟩, false), [])

theorem valM_nat (m : Js) (i : Nat) : valM m (i : Int) = (m[i]?).join := by unfold valM; rw [if_neg (by omega)]; rfl
theorem cnt_le (m : Js) : cntM m ≤ m.length := List.countP_le_length
theorem cnt_nil (n : Nat) : cntM (List.replicate n none) = 0 := by unfold cntM; rw [List.countP_replicate]; rfl
theorem cnt_set {m : Js} {i : Nat} {b : ByteArray} (hi : i < m.length) (hv : (m[i]?).join = none) : cntM (m.set i (some b)) = cntM m + 1 := by
  unfold cntM
  have hm : m[i] = none := by rw [List.getElem?_eq_getElem hi] at hv; simpa using hv
  rw [List.countP_set hi, hm]
  simp
theorem missFrom_len : ∀ (i : Nat) (m : Js), (missFrom i m).length + cntM m = m.length
  | _, [] => rfl
  | i, none :: t => by
    have := missFrom_len (i + 1) t
    unfold cntM at *
    simp [missFrom]; omega
  | i, some _ :: t => by
    have := missFrom_len (i + 1) t
    unfold cntM at *
    simp [missFrom]; omega
theorem missing_len (m : Js) : (missing m).length + cntM m = m.length := missFrom_len 0 m
theorem miss_next {m : Js} {i : Nat} {v : Option ByteArray} (h : m[i]? = some v) : missFrom i (m.drop i) = (if v = none then [(i : Int)] else []) ++ missFrom (i + 1) (m.drop (i + 1)) := by
  obtain ⟨hlt, hl⟩ := List.getElem?_eq_some_iff.1 h
  rw [List.drop_eq_getElem_cons hlt, hl]
  cases v <;> simp [missFrom]
theorem all_there {m : Js} (h : ¬ cntM m < m.length) {i : Nat} (hi : i < m.length) : ∃ b, m[i]? = some (some b) := by
  have hc : cntM m = m.length := by have := cnt_le m; omega
  unfold cntM at hc
  rw [List.countP_eq_length] at hc
  have := hc m[i] (List.getElem_mem hi)
  obtain ⟨b, hb⟩ := Option.isSome_iff_exists.1 this
  exact ⟨b, by rw [List.getElem?_eq_getElem hi, hb]⟩
theorem bodies_take {m : Js} {i : Nat} {b : ByteArray} (h : m[i]? = some (some b)) : join ((bodies m).take (i + 1)) = join ((bodies m).take i) ++ b := by
  have hlt := (List.getElem?_eq_some_iff.1 h).1
  rw [List.take_add_one, show (bodies m)[i]? = some b by unfold bodies; rw [List.getElem?_map, h]; rfl]
  exact join_snoc _ _
end Go.Proofs.Ytlemcijgjebekaa.L7
