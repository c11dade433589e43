/-
  Plain facts about numbers as few bytes, and about signs: no program is named here.
-/
namespace Go.Proofs.Ytinhinghakkfoaa.V

/-- a number's bytes -/
def puts (n : Nat) : List Nat := if n < 128 then [n] else (n % 128 + 128) :: puts (n / 128)
termination_by n
decreasing_by omega

theorem puts_small {n : Nat} (h : n < 128) : puts n = [n] := by rw [puts, if_pos h]
theorem puts_big {n : Nat} (h : ¬ n < 128) : puts n = (n % 128 + 128) :: puts (n / 128) := by rw [puts, if_neg h]

theorem puts_pos (n : Nat) : 1 ≤ (puts n).length := by
  by_cases h : n < 128
  · rw [puts_small h]; simp
  · rw [puts_big h]; simp

theorem puts_byte (n : Nat) : ∀ b ∈ puts n, b < 256 := by
  induction n using Nat.strongRecOn with
  | _ n ih =>
    by_cases h : n < 128
    · rw [puts_small h]; intro b hb; simp at hb; omega
    · rw [puts_big h]; intro b hb
      rcases List.mem_cons.1 hb with rfl | hb
      · omega
      · exact ih _ (by omega) b hb

theorem puts_len_le : ∀ (k n : Nat), n < 128 ^ (k + 1) → (puts n).length ≤ k + 1 := by
  intro k
  induction k with
  | zero => intro n h; rw [puts_small (by simpa using h)]; simp
  | succ k ih =>
    intro n h
    by_cases h1 : n < 128
    · rw [puts_small h1]; simp
    · rw [puts_big h1]
      have : n / 128 < 128 ^ (k + 1) := by
        rw [Nat.pow_succ] at h
        exact Nat.div_lt_of_lt_mul (by rw [Nat.mul_comm]; exact h)
      have := ih _ this
      simp; omega

theorem puts_len (n : Nat) (h : n < 18446744073709551616) : (puts n).length ≤ 10 :=
  puts_len_le 9 n (Nat.lt_of_lt_of_le h (by decide))

theorem puts_mono : ∀ (b a : Nat), a ≤ b → (puts a).length ≤ (puts b).length := by
  intro b
  induction b using Nat.strongRecOn with
  | _ b ih =>
    intro a hab
    by_cases ha : a < 128
    · rw [puts_small ha]; exact puts_pos b
    · rw [puts_big ha, puts_big (by omega : ¬ b < 128)]
      have := ih (b / 128) (by omega) (a / 128) (by omega)
      simp; omega

theorem puts_one (n : Nat) : (puts n).length = 1 ↔ n < 128 := by
  constructor
  · intro h
    by_cases hn : n < 128
    · exact hn
    · rw [puts_big hn] at h
      have := puts_pos (n / 128)
      simp at h
      rw [h] at this; simp at this
  · intro h; rw [puts_small h]; rfl

/-- the bytes as the machine has them -/
def bytesOf (l : List Nat) : ByteArray := ⟨(l.map UInt8.ofNat).toArray⟩
def put (n : Nat) : ByteArray := bytesOf (puts n)

theorem bytesOf_size (l : List Nat) : (bytesOf l).size = l.length := by simp [bytesOf, ByteArray.size]
theorem bytesOf_list (l : List Nat) : (bytesOf l).data.toList = l.map UInt8.ofNat := by simp [bytesOf]
theorem put_size (n : Nat) : (put n).size = (puts n).length := bytesOf_size _
theorem bytes_nat {l : List Nat} (h : ∀ b ∈ l, b < 256) : (l.map UInt8.ofNat).map UInt8.toNat = l := by
  rw [List.map_map]
  have : ∀ b ∈ l, (UInt8.toNat ∘ UInt8.ofNat) b = b := by
    intro b hb
    have := h b hb
    simp [UInt8.toNat_ofNat']
    omega
  rw [List.map_congr_left this]; simp

/-- what is read of bytes, i of them being read, acc being got: the number, how many bytes it has, what is wrong -/
def got : List Nat → Nat → Nat → Nat × Nat × Nat
  | [], _, _ => (0, 0, 10)
  | b :: r, i, acc =>
    if (i = 9 ∧ 1 < b) ∨ (0 < i ∧ b = 0) then (0, 0, 11)
    else if b < 128 then (acc + b * 128 ^ i, i + 1, 0)
    else got r (i + 1) (acc + (b % 128) * 128 ^ i)

theorem got_puts (r : List Nat) : ∀ (n i acc : Nat), i ≤ 9 → n < 2 ^ (64 - 7 * i) → (0 < i → 0 < n) →
    got (puts n ++ r) i acc = (acc + n * 128 ^ i, i + (puts n).length, 0) := by
  intro n
  induction n using Nat.strongRecOn with
  | _ n ih =>
    intro i acc hi hn h0
    by_cases h : n < 128
    · rw [puts_small h]
      have hc : ¬ ((i = 9 ∧ 1 < n) ∨ (0 < i ∧ n = 0)) := by
        rintro (⟨rfl, h1⟩ | ⟨h1, h2⟩)
        · simp at hn; omega
        · have := h0 h1; omega
      simp [got, hc, h]
    · rw [puts_big h]
      have hi9 : i < 9 := by
        rcases Nat.lt_or_ge i 9 with h' | h'
        · exact h'
        · obtain rfl : i = 9 := by omega
          simp at hn; omega
      have hc : ¬ ((i = 9 ∧ 1 < n % 128 + 128) ∨ (0 < i ∧ n % 128 + 128 = 0)) := by omega
      have hb : ¬ (n % 128 + 128 < 128) := by omega
      have hlt : n / 128 < 2 ^ (64 - 7 * (i + 1)) := by
        have e : 64 - 7 * i = (64 - 7 * (i + 1)) + 7 := by omega
        rw [e, Nat.pow_add] at hn
        exact Nat.div_lt_of_lt_mul (by rw [Nat.mul_comm]; exact hn)
      have := ih (n / 128) (by omega) (i + 1) (acc + (n % 128 + 128) % 128 * 128 ^ i) (by omega) hlt (by omega)
      simp only [List.cons_append, got, if_neg hc, if_neg hb, this, List.length_cons, Prod.mk.injEq, and_true]
      refine ⟨?_, by omega⟩
      have e2 : (n % 128 + 128) % 128 = n % 128 := by omega
      rw [e2, Nat.add_assoc, Nat.pow_succ, ← Nat.mul_assoc, Nat.mul_right_comm, ← Nat.add_mul]
      congr 2
      omega

/-- what is got is a number's bytes -/
theorem got_ok : ∀ (l : List Nat) (i acc m k : Nat), (∀ b ∈ l, b < 256) → i ≤ 9 → got l i acc = (m, k, 0) →
    ∃ n, m = acc + n * 128 ^ i ∧ k = i + (puts n).length ∧ (puts n).length ≤ l.length ∧ l.take (puts n).length = puts n ∧ (0 < i → 0 < n) := by
  intro l
  induction l with
  | nil => intro i acc m k _ _ h; simp [got] at h
  | cons b r ih =>
    intro i acc m k hb hi h
    have hb0 := hb b (by simp)
    unfold got at h
    by_cases hc : (i = 9 ∧ 1 < b) ∨ (0 < i ∧ b = 0)
    · rw [if_pos hc] at h; simp at h
    · rw [if_neg hc] at h
      by_cases h1 : b < 128
      · rw [if_pos h1] at h
        simp at h
        obtain ⟨rfl, rfl⟩ := h
        exact ⟨b, rfl, by rw [puts_small h1]; rfl, by rw [puts_small h1]; simp, by rw [puts_small h1]; simp, by omega⟩
      · rw [if_neg h1] at h
        obtain ⟨n', e1, e2, e3, e4, e5⟩ := ih (i + 1) _ m k (fun x hx => hb x (by simp [hx])) (by omega) h
        have hn' := e5 (by omega)
        have hbig : ¬ (b % 128 + 128 * n') < 128 := by omega
        have hm : (b % 128 + 128 * n') % 128 = b % 128 := by omega
        have hd : (b % 128 + 128 * n') / 128 = n' := by omega
        have hp : puts (b % 128 + 128 * n') = b :: puts n' := by
          rw [puts_big hbig, hm, hd]
          congr 1; omega
        refine ⟨b % 128 + 128 * n', ?_, ?_, ?_, ?_, by omega⟩
        · rw [e1, Nat.add_assoc, Nat.pow_succ, Nat.add_mul, ← Nat.mul_assoc, Nat.mul_right_comm, Nat.mul_comm 128 n']
        · rw [hp, e2]; simp; omega
        · rw [hp]; simp; omega
        · rw [hp]; simp [e4]

/-- what is wrong comes alone -/
theorem got_err : ∀ (l : List Nat) (i acc m k e : Nat), got l i acc = (m, k, e) → e ≠ 0 → m = 0 ∧ k = 0 := by
  intro l
  induction l with
  | nil => intro i acc m k e h _; simp [got] at h; exact ⟨h.1.symm, h.2.1.symm⟩
  | cons b r ih =>
    intro i acc m k e h he
    unfold got at h
    by_cases hc : (i = 9 ∧ 1 < b) ∨ (0 < i ∧ b = 0)
    · rw [if_pos hc] at h; simp at h; exact ⟨h.1.symm, h.2.1.symm⟩
    · rw [if_neg hc] at h
      by_cases h1 : b < 128
      · rw [if_pos h1] at h; simp at h; exact absurd h.2.2.symm he
      · rw [if_neg h1] at h
        exact ih _ _ _ _ _ h he

/-- a number's bytes, cut short, are none -/
theorem got_cut : ∀ (n c i acc : Nat), i ≤ 9 → n < 2 ^ (64 - 7 * i) → (0 < i → 0 < n) → c < (puts n).length → got ((puts n).take c) i acc = (0, 0, 10) := by
  intro n
  induction n using Nat.strongRecOn with
  | _ n ih =>
    intro c i acc hi hn h0 hc
    cases c with
    | zero => simp [got]
    | succ c =>
      by_cases h : n < 128
      · rw [puts_small h] at hc; simp at hc
      · rw [puts_big h] at hc ⊢
        have hi9 : i < 9 := by
          rcases Nat.lt_or_ge i 9 with h' | h'
          · exact h'
          · obtain rfl : i = 9 := by omega
            simp at hn; omega
        have hcc : ¬ ((i = 9 ∧ 1 < n % 128 + 128) ∨ (0 < i ∧ n % 128 + 128 = 0)) := by omega
        have hb : ¬ (n % 128 + 128 < 128) := by omega
        have hlt : n / 128 < 2 ^ (64 - 7 * (i + 1)) := by
          have e : 64 - 7 * i = (64 - 7 * (i + 1)) + 7 := by omega
          rw [e, Nat.pow_add] at hn
          exact Nat.div_lt_of_lt_mul (by rw [Nat.mul_comm]; exact hn)
        simp only [List.take_succ_cons, got, if_neg hcc, if_neg hb]
        exact ih (n / 128) (by omega) c (i + 1) _ (by omega) hlt (by omega) (by simp at hc; omega)

/-- what is got is below 2^64 -/
theorem got_lt : ∀ (l : List Nat) (i acc m k e : Nat), i ≤ 9 → acc < 128 ^ i → got l i acc = (m, k, e) → m < 18446744073709551616 := by
  intro l
  induction l with
  | nil => intro i acc m k e _ _ h; simp [got] at h; omega
  | cons b r ih =>
    intro i acc m k e hi ha h
    unfold got at h
    by_cases hc : (i = 9 ∧ 1 < b) ∨ (0 < i ∧ b = 0)
    · rw [if_pos hc] at h; simp at h; omega
    · rw [if_neg hc] at h
      have hnext : ∀ c, c < 128 → acc + c * 128 ^ i < 128 ^ (i + 1) := by
        intro c hc'
        have : c * 128 ^ i ≤ 127 * 128 ^ i := Nat.mul_le_mul_right _ (by omega)
        rw [Nat.pow_succ]; omega
      by_cases h1 : b < 128
      · rw [if_pos h1] at h
        simp at h
        obtain ⟨rfl, _, _⟩ := h
        rcases Nat.lt_or_ge i 9 with h' | h'
        · have h9 : (128 : Nat) ^ (i + 1) ≤ 128 ^ 9 := Nat.pow_le_pow_right (by decide) (by omega)
          have e9 : (128 : Nat) ^ 9 = 9223372036854775808 := by decide
          have := hnext b h1
          omega
        · obtain rfl : i = 9 := by omega
          have e9 : (128 : Nat) ^ 9 = 9223372036854775808 := by decide
          rw [e9] at *
          have : b ≤ 1 := by omega
          have : b * 9223372036854775808 ≤ 1 * 9223372036854775808 := Nat.mul_le_mul_right _ this
          omega
      · rw [if_neg h1] at h
        have hi' : i < 9 := by
          rcases Nat.lt_or_ge i 9 with h' | h'
          · exact h'
          · omega
        exact ih (i + 1) _ m k e (by omega) (hnext _ (by omega)) h

theorem got_k : ∀ (l : List Nat) (i acc m k e : Nat), got l i acc = (m, k, e) → k ≤ i + l.length := by
  intro l
  induction l with
  | nil => intro i acc m k e h; simp [got] at h; omega
  | cons b r ih =>
    intro i acc m k e h
    unfold got at h
    split at h
    · simp at h; omega
    · split at h
      · simp at h; simp; omega
      · have := ih _ _ _ _ _ h; simp; omega

/-- the number at a place -/
def nats (s : ByteArray) : List Nat := s.data.toList.map UInt8.toNat
theorem nats_byte (s : ByteArray) : ∀ b ∈ nats s, b < 256 := by
  intro b hb
  simp only [nats, List.mem_map] at hb
  obtain ⟨x, _, rfl⟩ := hb
  exact x.toNat_lt
theorem nats_len (s : ByteArray) : (nats s).length = s.size := by unfold nats; rw [List.length_map, Array.length_toList]; rfl
theorem nats_bytesOf {l : List Nat} (h : ∀ b ∈ l, b < 256) : nats (bytesOf l) = l := by
  rw [nats, bytesOf_list]; exact bytes_nat h
theorem nats_put (n : Nat) : nats (put n) = puts n := nats_bytesOf (puts_byte n)
theorem nats_append (a b : ByteArray) : nats (a ++ b) = nats a ++ nats b := by simp [nats, ByteArray.data_append]
theorem nats_inj {a b : ByteArray} (h : nats a = nats b) : a = b := by
  have : a.data.toList = b.data.toList := by
    have inj : ∀ (l r : List UInt8), l.map UInt8.toNat = r.map UInt8.toNat → l = r := by
      intro l
      induction l with
      | nil => intro r h; cases r with
        | nil => rfl
        | cons _ _ => simp at h
      | cons x l ih => intro r h; cases r with
        | nil => simp at h
        | cons y r =>
          simp at h
          rw [UInt8.toNat_inj.1 h.1, ih r h.2]
    exact inj _ _ h
  cases a with | mk a => cases b with | mk b => exact congrArg ByteArray.mk (Array.toList_inj.1 this)

/-- the place behind what was got -/
def behind (at_ : Int) (r : Nat × Nat × Nat) : Int := if r.2.2 = 0 then at_ + r.2.1 else 0

def get (s : ByteArray) (at_ : Int) : Nat × Int × Int :=
  if at_ < 0 ∨ (s.size : Int) < at_ then (0, 0, 1)
  else ((got ((nats s).drop at_.toNat) 0 0).1, behind at_ (got ((nats s).drop at_.toNat) 0 0), ((got ((nats s).drop at_.toNat) 0 0).2.2 : Int))

theorem drop_at (s : ByteArray) (j : Nat) (h : j < s.size) : (nats s).drop j = s[j].toNat :: (nats s).drop (j + 1) := by
  have hl : j < (nats s).length := by rw [nats_len]; exact h
  rw [List.drop_eq_getElem_cons hl]
  congr 1
  simp [nats]
  rfl

theorem got_end {s : ByteArray} {j k acc : Nat} {r : Nat × Nat × Nat} (h : got ((nats s).drop j) k acc = r) (hj : j = s.size) : r = (0, 0, 10) := by
  rw [List.drop_of_length_le (by rw [nats_len]; omega)] at h
  rw [← h]; rfl
theorem got_long {s : ByteArray} {j k acc : Nat} {r : Nat × Nat × Nat} (h : got ((nats s).drop j) k acc = r) (hj : j < s.size) (hc : (k = 9 ∧ 1 < s[j].toNat) ∨ (0 < k ∧ s[j].toNat = 0)) : r = (0, 0, 11) := by
  rw [drop_at s j hj] at h
  unfold got at h
  rw [if_pos hc] at h
  exact h.symm
theorem got_last {s : ByteArray} {j k acc : Nat} {r : Nat × Nat × Nat} (h : got ((nats s).drop j) k acc = r) (hj : j < s.size) (hc : ¬ ((k = 9 ∧ 1 < s[j].toNat) ∨ (0 < k ∧ s[j].toNat = 0))) (hb : s[j].toNat < 128) : r = (acc + s[j].toNat * 128 ^ k, k + 1, 0) := by
  rw [drop_at s j hj] at h
  unfold got at h
  rw [if_neg hc, if_pos hb] at h
  exact h.symm
theorem got_next {s : ByteArray} {j k acc : Nat} {r : Nat × Nat × Nat} (h : got ((nats s).drop j) k acc = r) (hj : j < s.size) (hc : ¬ ((k = 9 ∧ 1 < s[j].toNat) ∨ (0 < k ∧ s[j].toNat = 0))) (hb : ¬ s[j].toNat < 128) : got ((nats s).drop (j + 1)) (k + 1) (acc + s[j].toNat % 128 * 128 ^ k) = r := by
  rw [drop_at s j hj] at h
  unfold got at h
  rw [if_neg hc, if_neg hb] at h
  exact h

theorem get_some {s : ByteArray} {at_ : Int} {n : Nat} {to e : Int} (h : get s at_ = (n, to, e)) : n < 18446744073709551616 ∧ 0 ≤ to ∧ to ≤ s.size := by
  unfold get at h
  by_cases hc : at_ < 0 ∨ (s.size : Int) < at_
  · rw [if_pos hc] at h; simp at h; omega
  · rw [if_neg hc] at h
    obtain ⟨r, hr⟩ : ∃ r, got ((nats s).drop at_.toNat) 0 0 = r := ⟨_, rfl⟩
    rw [hr] at h
    simp only [Prod.mk.injEq] at h
    obtain ⟨rfl, h2, _⟩ := h
    have h3 := got_lt _ 0 0 r.1 r.2.1 r.2.2 (by omega) (by simp) (by rw [hr])
    have h4 := got_k _ 0 0 r.1 r.2.1 r.2.2 (by rw [hr])
    rw [List.length_drop, nats_len] at h4
    refine ⟨h3, ?_⟩
    unfold behind at h2
    split at h2 <;> omega

/-- the text at a place -/
def text (s : ByteArray) (at_ most : Int) : ByteArray × Int × Int :=
  if (get s at_).2.2 ≠ 0 then (⟨#[]⟩, 0, (get s at_).2.2)
  else if most < 0 ∨ most < ((get s at_).1 : Int) then (⟨#[]⟩, 0, 2)
  else if (s.size : Int) - (get s at_).2.1 < ((get s at_).1 : Int) then (⟨#[]⟩, 0, 10)
  else (s.extract (get s at_).2.1.toNat ((get s at_).2.1 + (get s at_).1).toNat, (get s at_).2.1 + (get s at_).1, 0)

theorem text_err {s : ByteArray} {at_ most : Int} {n : Nat} {to e : Int} (h : get s at_ = (n, to, e)) (he : e ≠ 0) : text s at_ most = (⟨#[]⟩, 0, e) := by
  unfold text; rw [h]; exact if_pos he
theorem text_big {s : ByteArray} {at_ most : Int} {n : Nat} {to e : Int} (h : get s at_ = (n, to, e)) (he : e = 0) (hb : most < 0 ∨ most < (n : Int)) : text s at_ most = (⟨#[]⟩, 0, 2) := by
  unfold text; rw [h, if_neg (by simpa using he)]; exact if_pos hb
theorem text_short {s : ByteArray} {at_ most : Int} {n : Nat} {to e : Int} (h : get s at_ = (n, to, e)) (he : e = 0) (hb : ¬ (most < 0 ∨ most < (n : Int))) (hs : (s.size : Int) - to < n) : text s at_ most = (⟨#[]⟩, 0, 10) := by
  unfold text; rw [h, if_neg (by simpa using he), if_neg hb]; exact if_pos hs
theorem text_ok {s : ByteArray} {at_ most : Int} {n : Nat} {to e : Int} (h : get s at_ = (n, to, e)) (he : e = 0) (hb : ¬ (most < 0 ∨ most < (n : Int))) (hs : ¬ (s.size : Int) - to < n) : text s at_ most = (s.extract to.toNat (to + n).toNat, to + n, 0) := by
  unfold text; rw [h, if_neg (by simpa using he), if_neg hb]; exact if_neg hs

end Go.Proofs.Ytinhinghakkfoaa.V
