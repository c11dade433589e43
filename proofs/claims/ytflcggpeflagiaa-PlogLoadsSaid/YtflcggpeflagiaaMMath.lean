/-
  Plain facts about numbers as few bytes, and about signs: no program is named here.
-/
import Derived.Laws.BitsAllLaws
import Derived.Laws.Bits64
import Derived.Laws.BitsLemmas
import Derived.RowKit
namespace Go.Proofs.Ytflcggpeflagiaa.V

/-- a number's bytes -/
def puts (n : Nat) : List Nat := if n < 128 then [n] else (n % 128 + 128) :: puts (n / 128)
termination_by n
decreasing_by omega

theorem puts_small {n : Nat} (h : n < 128) : puts n = [n] := by rw [puts, if_pos h]
theorem puts_big {n : Nat} (h : ¬ n < 128) : puts n = (n % 128 + 128) :: puts (n / 128) := by rw [puts, if_neg h]

theorem puts_pos (n : Nat) : 1 ≤ (puts n).length := by
  by_cases h : n < 128
  · rw [puts_small h]; simp
  · rw [puts_big h]; simp

theorem puts_byte (n : Nat) : ∀ b ∈ puts n, b < 256 := by
  induction n using Nat.strongRecOn with
  | _ n ih =>
    by_cases h : n < 128
    · rw [puts_small h]; intro b hb; simp at hb; omega
    · rw [puts_big h]; intro b hb
      rcases List.mem_cons.1 hb with rfl | hb
      · omega
      · exact ih _ (by omega) b hb

theorem puts_len_le : ∀ (k n : Nat), n < 128 ^ (k + 1) → (puts n).length ≤ k + 1 := by
  intro k
  induction k with
  | zero => intro n h; rw [puts_small (by simpa using h)]; simp
  | succ k ih =>
    intro n h
    by_cases h1 : n < 128
    · rw [puts_small h1]; simp
    · rw [puts_big h1]
      have : n / 128 < 128 ^ (k + 1) := by
        rw [Nat.pow_succ] at h
        exact Nat.div_lt_of_lt_mul (by rw [Nat.mul_comm]; exact h)
      have := ih _ this
      simp; omega

theorem puts_len (n : Nat) (h : n < 18446744073709551616) : (puts n).length ≤ 10 :=
  puts_len_le 9 n (Nat.lt_of_lt_of_le h (by decide))

theorem puts_mono : ∀ (b a : Nat), a ≤ b → (puts a).length ≤ (puts b).length := by
  intro b
  induction b using Nat.strongRecOn with
  | _ b ih =>
    intro a hab
    by_cases ha : a < 128
    · rw [puts_small ha]; exact puts_pos b
    · rw [puts_big ha, puts_big (by omega : ¬ b < 128)]
      have := ih (b / 128) (by omega) (a / 128) (by omega)
      simp; omega

theorem puts_one (n : Nat) : (puts n).length = 1 ↔ n < 128 := by
  constructor
  · intro h
    by_cases hn : n < 128
    · exact hn
    · rw [puts_big hn] at h
      have := puts_pos (n / 128)
      simp at h
      rw [h] at this; simp at this
  · intro h; rw [puts_small h]; rfl

/-- the bytes as the machine has them -/
def bytesOf (l : List Nat) : ByteArray := ⟨(l.map UInt8.ofNat).toArray⟩
def put (n : Nat) : ByteArray := bytesOf (puts n)

theorem bytesOf_size (l : List Nat) : (bytesOf l).size = l.length := by simp [bytesOf, ByteArray.size]
theorem bytesOf_list (l : List Nat) : (bytesOf l).data.toList = l.map UInt8.ofNat := by simp [bytesOf]
theorem put_size (n : Nat) : (put n).size = (puts n).length := bytesOf_size _
theorem bytes_nat {l : List Nat} (h : ∀ b ∈ l, b < 256) : (l.map UInt8.ofNat).map UInt8.toNat = l := by
  rw [List.map_map]
  have : ∀ b ∈ l, (UInt8.toNat ∘ UInt8.ofNat) b = b := by
    intro b hb
    have := h b hb
    simp [UInt8.toNat_ofNat']
    omega
  rw [List.map_congr_left this]; simp

/-- what is read of bytes, i of them being read, acc being got: the number, how many bytes it has, what is wrong -/
def got : List Nat → Nat → Nat → Nat × Nat × Nat
  | [], _, _ => (0, 0, 10)
  | b :: r, i, acc =>
    if (i = 9 ∧ 1 < b) ∨ (0 < i ∧ b = 0) then (0, 0, 11)
    else if b < 128 then (acc + b * 128 ^ i, i + 1, 0)
    else got r (i + 1) (acc + (b % 128) * 128 ^ i)

theorem got_puts (r : List Nat) : ∀ (n i acc : Nat), i ≤ 9 → n < 2 ^ (64 - 7 * i) → (0 < i → 0 < n) →
    got (puts n ++ r) i acc = (acc + n * 128 ^ i, i + (puts n).length, 0) := by
  intro n
  induction n using Nat.strongRecOn with
  | _ n ih =>
    intro i acc hi hn h0
    by_cases h : n < 128
    · rw [puts_small h]
      have hc : ¬ ((i = 9 ∧ 1 < n) ∨ (0 < i ∧ n = 0)) := by
        rintro (⟨rfl, h1⟩ | ⟨h1, h2⟩)
        · simp at hn; omega
        · have := h0 h1; omega
      simp [got, hc, h]
    · rw [puts_big h]
      have hi9 : i < 9 := by
        rcases Nat.lt_or_ge i 9 with h' | h'
        · exact h'
        · obtain rfl : i = 9 := by omega
          simp at hn; omega
      have hc : ¬ ((i = 9 ∧ 1 < n % 128 + 128) ∨ (0 < i ∧ n % 128 + 128 = 0)) := by omega
      have hb : ¬ (n % 128 + 128 < 128) := by omega
      have hlt : n / 128 < 2 ^ (64 - 7 * (i + 1)) := by
        have e : 64 - 7 * i = (64 - 7 * (i + 1)) + 7 := by omega
        rw [e, Nat.pow_add] at hn
        exact Nat.div_lt_of_lt_mul (by rw [Nat.mul_comm]; exact hn)
      have := ih (n / 128) (by omega) (i + 1) (acc + (n % 128 + 128) % 128 * 128 ^ i) (by omega) hlt (by omega)
      simp only [List.cons_append, got, if_neg hc, if_neg hb, this, List.length_cons, Prod.mk.injEq, and_true]
      refine ⟨?_, by omega⟩
      have e2 : (n % 128 + 128) % 128 = n % 128 := by omega
      rw [e2, Nat.add_assoc, Nat.pow_succ, ← Nat.mul_assoc, Nat.mul_right_comm, ← Nat.add_mul]
      congr 2
      omega

/-- what is got is a number's bytes -/
theorem got_ok : ∀ (l : List Nat) (i acc m k : Nat), (∀ b ∈ l, b < 256) → i ≤ 9 → got l i acc = (m, k, 0) →
    ∃ n, m = acc + n * 128 ^ i ∧ k = i + (puts n).length ∧ (puts n).length ≤ l.length ∧ l.take (puts n).length = puts n ∧ (0 < i → 0 < n) := by
  intro l
  induction l with
  | nil => intro i acc m k _ _ h; simp [got] at h
  | cons b r ih =>
    intro i acc m k hb hi h
    have hb0 := hb b (by simp)
    unfold got at h
    by_cases hc : (i = 9 ∧ 1 < b) ∨ (0 < i ∧ b = 0)
    · rw [if_pos hc] at h; simp at h
    · rw [if_neg hc] at h
      by_cases h1 : b < 128
      · rw [if_pos h1] at h
        simp at h
        obtain ⟨rfl, rfl⟩ := h
        exact ⟨b, rfl, by rw [puts_small h1]; rfl, by rw [puts_small h1]; simp, by rw [puts_small h1]; simp, by omega⟩
      · rw [if_neg h1] at h
        obtain ⟨n', e1, e2, e3, e4, e5⟩ := ih (i + 1) _ m k (fun x hx => hb x (by simp [hx])) (by omega) h
        have hn' := e5 (by omega)
        have hbig : ¬ (b % 128 + 128 * n') < 128 := by omega
        have hm : (b % 128 + 128 * n') % 128 = b % 128 := by omega
        have hd : (b % 128 + 128 * n') / 128 = n' := by omega
        have hp : puts (b % 128 + 128 * n') = b :: puts n' := by
          rw [puts_big hbig, hm, hd]
          congr 1; omega
        refine ⟨b % 128 + 128 * n', ?_, ?_, ?_, ?_, by omega⟩
        · rw [e1, Nat.add_assoc, Nat.pow_succ, Nat.add_mul, ← Nat.mul_assoc, Nat.mul_right_comm, Nat.mul_comm 128 n']
        · rw [hp, e2]; simp; omega
        · rw [hp]; simp; omega
        · rw [hp]; simp [e4]

/-- what is wrong comes alone -/
theorem got_err : ∀ (l : List Nat) (i acc m k e : Nat), got l i acc = (m, k, e) → e ≠ 0 → m = 0 ∧ k = 0 := by
  intro l
  induction l with
  | nil => intro i acc m k e h _; simp [got] at h; exact ⟨h.1.symm, h.2.1.symm⟩
  | cons b r ih =>
    intro i acc m k e h he
    unfold got at h
    by_cases hc : (i = 9 ∧ 1 < b) ∨ (0 < i ∧ b = 0)
    · rw [if_pos hc] at h; simp at h; exact ⟨h.1.symm, h.2.1.symm⟩
    · rw [if_neg hc] at h
      by_cases h1 : b < 128
      · rw [if_pos h1] at h; simp at h; exact absurd h.2.2.symm he
      · rw [if_neg h1] at h
        exact ih _ _ _ _ _ h he

/-- a number's bytes, cut short, are none -/
theorem got_cut : ∀ (n c i acc : Nat), i ≤ 9 → n < 2 ^ (64 - 7 * i) → (0 < i → 0 < n) → c < (puts n).length → got ((puts n).take c) i acc = (0, 0, 10) := by
  intro n
  induction n using Nat.strongRecOn with
  | _ n ih =>
    intro c i acc hi hn h0 hc
    cases c with
    | zero => simp [got]
    | succ c =>
      by_cases h : n < 128
      · rw [puts_small h] at hc; simp at hc
      · rw [puts_big h] at hc ⊢
        have hi9 : i < 9 := by
          rcases Nat.lt_or_ge i 9 with h' | h'
          · exact h'
          · obtain rfl : i = 9 := by omega
            simp at hn; omega
        have hcc : ¬ ((i = 9 ∧ 1 < n % 128 + 128) ∨ (0 < i ∧ n % 128 + 128 = 0)) := by omega
        have hb : ¬ (n % 128 + 128 < 128) := by omega
        have hlt : n / 128 < 2 ^ (64 - 7 * (i + 1)) := by
          have e : 64 - 7 * i = (64 - 7 * (i + 1)) + 7 := by omega
          rw [e, Nat.pow_add] at hn
          exact Nat.div_lt_of_lt_mul (by rw [Nat.mul_comm]; exact hn)
        simp only [List.take_succ_cons, got, if_neg hcc, if_neg hb]
        exact ih (n / 128) (by omega) c (i + 1) _ (by omega) hlt (by omega) (by simp at hc; omega)

/-- what is got is below 2^64 -/
theorem got_lt : ∀ (l : List Nat) (i acc m k e : Nat), i ≤ 9 → acc < 128 ^ i → got l i acc = (m, k, e) → m < 18446744073709551616 := by
  intro l
  induction l with
  | nil => intro i acc m k e _ _ h; simp [got] at h; omega
  | cons b r ih =>
    intro i acc m k e hi ha h
    unfold got at h
    by_cases hc : (i = 9 ∧ 1 < b) ∨ (0 < i ∧ b = 0)
    · rw [if_pos hc] at h; simp at h; omega
    · rw [if_neg hc] at h
      have hnext : ∀ c, c < 128 → acc + c * 128 ^ i < 128 ^ (i + 1) := by
        intro c hc'
        have : c * 128 ^ i ≤ 127 * 128 ^ i := Nat.mul_le_mul_right _ (by omega)
        rw [Nat.pow_succ]; omega
      by_cases h1 : b < 128
      · rw [if_pos h1] at h
        simp at h
        obtain ⟨rfl, _, _⟩ := h
        rcases Nat.lt_or_ge i 9 with h' | h'
        · have h9 : (128 : Nat) ^ (i + 1) ≤ 128 ^ 9 := Nat.pow_le_pow_right (by decide) (by omega)
          have e9 : (128 : Nat) ^ 9 = 9223372036854775808 := by decide
          have := hnext b h1
          omega
        · obtain rfl : i = 9 := by omega
          have e9 : (128 : Nat) ^ 9 = 9223372036854775808 := by decide
          rw [e9] at *
          have : b ≤ 1 := by omega
          have : b * 9223372036854775808 ≤ 1 * 9223372036854775808 := Nat.mul_le_mul_right _ this
          omega
      · rw [if_neg h1] at h
        have hi' : i < 9 := by
          rcases Nat.lt_or_ge i 9 with h' | h'
          · exact h'
          · omega
        exact ih (i + 1) _ m k e (by omega) (hnext _ (by omega)) h

theorem got_k : ∀ (l : List Nat) (i acc m k e : Nat), got l i acc = (m, k, e) → k ≤ i + l.length := by
  intro l
  induction l with
  | nil => intro i acc m k e h; simp [got] at h; omega
  | cons b r ih =>
    intro i acc m k e h
    unfold got at h
    split at h
    · simp at h; omega
    · split at h
      · simp at h; simp; omega
      · have := ih _ _ _ _ _ h; simp; omega

/-- the number at a place -/
def nats (s : ByteArray) : List Nat := s.data.toList.map UInt8.toNat
theorem nats_byte (s : ByteArray) : ∀ b ∈ nats s, b < 256 := by
  intro b hb
  simp only [nats, List.mem_map] at hb
  obtain ⟨x, _, rfl⟩ := hb
  exact x.toNat_lt
theorem nats_len (s : ByteArray) : (nats s).length = s.size := by unfold nats; rw [List.length_map, Array.length_toList]; rfl
theorem nats_bytesOf {l : List Nat} (h : ∀ b ∈ l, b < 256) : nats (bytesOf l) = l := by
  rw [nats, bytesOf_list]; exact bytes_nat h
theorem nats_put (n : Nat) : nats (put n) = puts n := nats_bytesOf (puts_byte n)
theorem nats_append (a b : ByteArray) : nats (a ++ b) = nats a ++ nats b := by simp [nats, ByteArray.data_append]
theorem nats_inj {a b : ByteArray} (h : nats a = nats b) : a = b := by
  have : a.data.toList = b.data.toList := by
    have inj : ∀ (l r : List UInt8), l.map UInt8.toNat = r.map UInt8.toNat → l = r := by
      intro l
      induction l with
      | nil => intro r h; cases r with
        | nil => rfl
        | cons _ _ => simp at h
      | cons x l ih => intro r h; cases r with
        | nil => simp at h
        | cons y r =>
          simp at h
          rw [UInt8.toNat_inj.1 h.1, ih r h.2]
    exact inj _ _ h
  cases a with | mk a => cases b with | mk b => exact congrArg ByteArray.mk (Array.toList_inj.1 this)

/-- the place behind what was got -/
def behind (at_ : Int) (r : Nat × Nat × Nat) : Int := if r.2.2 = 0 then at_ + r.2.1 else 0

def get (s : ByteArray) (at_ : Int) : Nat × Int × Int :=
  if at_ < 0 ∨ (s.size : Int) < at_ then (0, 0, 1)
  else ((got ((nats s).drop at_.toNat) 0 0).1, behind at_ (got ((nats s).drop at_.toNat) 0 0), ((got ((nats s).drop at_.toNat) 0 0).2.2 : Int))

theorem drop_at (s : ByteArray) (j : Nat) (h : j < s.size) : (nats s).drop j = s[j].toNat :: (nats s).drop (j + 1) := by
  have hl : j < (nats s).length := by rw [nats_len]; exact h
  rw [List.drop_eq_getElem_cons hl]
  congr 1
  simp [nats]
  rfl

theorem got_end {s : ByteArray} {j k acc : Nat} {r : Nat × Nat × Nat} (h : got ((nats s).drop j) k acc = r) (hj : j = s.size) : r = (0, 0, 10) := by
  rw [List.drop_of_length_le (by rw [nats_len]; omega)] at h
  rw [← h]; rfl
theorem got_long {s : ByteArray} {j k acc : Nat} {r : Nat × Nat × Nat} (h : got ((nats s).drop j) k acc = r) (hj : j < s.size) (hc : (k = 9 ∧ 1 < s[j].toNat) ∨ (0 < k ∧ s[j].toNat = 0)) : r = (0, 0, 11) := by
  rw [drop_at s j hj] at h
  unfold got at h
  rw [if_pos hc] at h
  exact h.symm
theorem got_last {s : ByteArray} {j k acc : Nat} {r : Nat × Nat × Nat} (h : got ((nats s).drop j) k acc = r) (hj : j < s.size) (hc : ¬ ((k = 9 ∧ 1 < s[j].toNat) ∨ (0 < k ∧ s[j].toNat = 0))) (hb : s[j].toNat < 128) : r = (acc + s[j].toNat * 128 ^ k, k + 1, 0) := by
  rw [drop_at s j hj] at h
  unfold got at h
  rw [if_neg hc, if_pos hb] at h
  exact h.symm
theorem got_next {s : ByteArray} {j k acc : Nat} {r : Nat × Nat × Nat} (h : got ((nats s).drop j) k acc = r) (hj : j < s.size) (hc : ¬ ((k = 9 ∧ 1 < s[j].toNat) ∨ (0 < k ∧ s[j].toNat = 0))) (hb : ¬ s[j].toNat < 128) : got ((nats s).drop (j + 1)) (k + 1) (acc + s[j].toNat % 128 * 128 ^ k) = r := by
  rw [drop_at s j hj] at h
  unfold got at h
  rw [if_neg hc, if_neg hb] at h
  exact h

theorem get_some {s : ByteArray} {at_ : Int} {n : Nat} {to e : Int} (h : get s at_ = (n, to, e)) : n < 18446744073709551616 ∧ 0 ≤ to ∧ to ≤ s.size := by
  unfold get at h
  by_cases hc : at_ < 0 ∨ (s.size : Int) < at_
  · rw [if_pos hc] at h; simp at h; omega
  · rw [if_neg hc] at h
    obtain ⟨r, hr⟩ : ∃ r, got ((nats s).drop at_.toNat) 0 0 = r := ⟨_, rfl⟩
    rw [hr] at h
    simp only [Prod.mk.injEq] at h
    obtain ⟨rfl, h2, _⟩ := h
    have h3 := got_lt _ 0 0 r.1 r.2.1 r.2.2 (by omega) (by simp) (by rw [hr])
    have h4 := got_k _ 0 0 r.1 r.2.1 r.2.2 (by rw [hr])
    rw [List.length_drop, nats_len] at h4
    refine ⟨h3, ?_⟩
    unfold behind at h2
    split at h2 <;> omega

/-- the text at a place -/
def text (s : ByteArray) (at_ most : Int) : ByteArray × Int × Int :=
  if (get s at_).2.2 ≠ 0 then (⟨#[]⟩, 0, (get s at_).2.2)
  else if most < 0 ∨ most < ((get s at_).1 : Int) then (⟨#[]⟩, 0, 2)
  else if (s.size : Int) - (get s at_).2.1 < ((get s at_).1 : Int) then (⟨#[]⟩, 0, 10)
  else (s.extract (get s at_).2.1.toNat ((get s at_).2.1 + (get s at_).1).toNat, (get s at_).2.1 + (get s at_).1, 0)

theorem text_err {s : ByteArray} {at_ most : Int} {n : Nat} {to e : Int} (h : get s at_ = (n, to, e)) (he : e ≠ 0) : text s at_ most = (⟨#[]⟩, 0, e) := by
  unfold text; rw [h]; exact if_pos he
theorem text_big {s : ByteArray} {at_ most : Int} {n : Nat} {to e : Int} (h : get s at_ = (n, to, e)) (he : e = 0) (hb : most < 0 ∨ most < (n : Int)) : text s at_ most = (⟨#[]⟩, 0, 2) := by
  unfold text; rw [h, if_neg (by simpa using he)]; exact if_pos hb
theorem text_short {s : ByteArray} {at_ most : Int} {n : Nat} {to e : Int} (h : get s at_ = (n, to, e)) (he : e = 0) (hb : ¬ (most < 0 ∨ most < (n : Int))) (hs : (s.size : Int) - to < n) : text s at_ most = (⟨#[]⟩, 0, 10) := by
  unfold text; rw [h, if_neg (by simpa using he), if_neg hb]; exact if_pos hs
theorem text_ok {s : ByteArray} {at_ most : Int} {n : Nat} {to e : Int} (h : get s at_ = (n, to, e)) (he : e = 0) (hb : ¬ (most < 0 ∨ most < (n : Int))) (hs : ¬ (s.size : Int) - to < n) : text s at_ most = (s.extract to.toNat (to + n).toNat, to + n, 0) := by
  unfold text; rw [h, if_neg (by simpa using he), if_neg hb]; exact if_neg hs

end Go.Proofs.Ytflcggpeflagiaa.V
/-
  Plain facts on the machine's bits: a number as sevens, signs turned.
-/
namespace Go.Proofs.Ytflcggpeflagiaa.V
open Go Go.RowKit

def zig (n : Int) : Int := if 0 ≤ n then 2 * n else -2 * n - 1
def zag (n : Int) : Int := if n % 2 = 0 then n / 2 else -(n / 2) - 1

theorem u64_xor_ones (x : Nat) (h : x < 18446744073709551616) : bits .xor .u64 (x : Int) 18446744073709551615 = 18446744073709551615 - x := by
  have := u64_xor_nat x 18446744073709551615 h (by decide)
  rw [show ((18446744073709551615 : Nat) : Int) = 18446744073709551615 from rfl] at this
  rw [this]
  have e : x ^^^ 18446744073709551615 = 18446744073709551615 - x := by
    have h1 : (BitVec.ofNat 64 x ^^^ BitVec.allOnes 64).toNat = (~~~ (BitVec.ofNat 64 x)).toNat := by rw [BitVec.xor_allOnes]
    rw [BitVec.toNat_xor, BitVec.toNat_not, BitVec.toNat_ofNat, BitVec.toNat_allOnes, Nat.mod_eq_of_lt (by omega)] at h1
    exact h1
  rw [e]; omega

theorem zig_bits (n : Int) (h0 : -9223372036854775808 ≤ n) (h1 : n ≤ 9223372036854775807) :
    bits .xor .u64 (IntKind.u64.wrap (IntKind.u64.wrap n * 2)) (IntKind.u64.wrap (n / 9223372036854775808)) = zig n := by
  simp only [IntKind.wrap_u64]
  unfold zig
  by_cases h : 0 ≤ n
  · rw [if_pos h]
    have e1 : n / 9223372036854775808 % 18446744073709551616 = ((0 : Nat) : Int) := by omega
    have e2 : n % 18446744073709551616 * 2 % 18446744073709551616 = ((2 * n).toNat : Int) := by omega
    rw [e1, e2, u64_xor_nat _ _ (by omega) (by decide), Nat.xor_zero]
    omega
  · rw [if_neg h]
    have e1 : n / 9223372036854775808 % 18446744073709551616 = 18446744073709551615 := by omega
    have e2 : n % 18446744073709551616 * 2 % 18446744073709551616 = ((18446744073709551616 + 2 * n).toNat : Int) := by omega
    rw [e1, e2, u64_xor_ones _ (by omega)]
    omega

theorem i64_xor_zero (x : Int) (h0 : 0 ≤ x) (h1 : x ≤ 9223372036854775807) : bits .xor .i64 x 0 = x := by
  have e : (BitVec.ofInt 64 x ^^^ BitVec.ofInt 64 0).toNat = x.toNat := by
    rw [show BitVec.ofInt 64 0 = 0#64 from rfl, BitVec.xor_zero, BitVec.toNat_ofInt]; omega
  show IntKind.i64.wrap ((BitVec.ofInt 64 x ^^^ BitVec.ofInt 64 0).toNat : Int) = x
  rw [e, IntKind.wrap_i64]
  omega
theorem i64_xor_ones (x : Int) (h0 : 0 ≤ x) (h1 : x ≤ 9223372036854775807) : bits .xor .i64 x (-1) = -x - 1 := by
  have e : ((BitVec.ofInt 64 x ^^^ BitVec.ofInt 64 (-1)).toNat : Int) = 18446744073709551615 - x := by
    rw [show BitVec.ofInt 64 (-1) = BitVec.allOnes 64 from by decide, BitVec.xor_allOnes, BitVec.toNat_not, BitVec.toNat_ofInt]; omega
  show IntKind.i64.wrap ((BitVec.ofInt 64 x ^^^ BitVec.ofInt 64 (-1)).toNat : Int) = -x - 1
  rw [e, IntKind.wrap_i64]
  omega

theorem u64_and_one (n : Int) (h0 : 0 ≤ n) (h1 : n ≤ 18446744073709551615) : bits .and .u64 n 1 = n % 2 := by
  have := u64_and_nat n.toNat 1 (by omega) (by decide)
  rw [show (n.toNat : Int) = n by omega, show ((1 : Nat) : Int) = 1 from rfl, nat_mask1] at this
  rw [this]; omega

theorem zag_bits (n : Int) (h0 : 0 ≤ n) (h1 : n ≤ 18446744073709551615) :
    bits .xor .i64 (n / 2) (wrap64 (-wrap64 (bits .and .u64 n 1))) = zag n := by
  rw [u64_and_one n h0 h1]
  unfold zag
  by_cases h : n % 2 = 0
  · rw [if_pos h, h]
    have : wrap64 (-wrap64 0) = 0 := by decide
    rw [this]
    exact i64_xor_zero _ (by omega) (by omega)
  · rw [if_neg h]
    have e : n % 2 = 1 := by omega
    rw [e]
    have : wrap64 (-wrap64 1) = -1 := by decide
    rw [this]
    exact i64_xor_ones _ (by omega) (by omega)

theorem zig_nonneg (n : Int) (h0 : -9223372036854775808 ≤ n) (h1 : n ≤ 9223372036854775807) : 0 ≤ zig n ∧ zig n ≤ 18446744073709551615 := by unfold zig; split <;> omega
theorem zag_range (n : Int) (h0 : 0 ≤ n) (h1 : n ≤ 18446744073709551615) : -9223372036854775808 ≤ zag n ∧ zag n ≤ 9223372036854775807 := by unfold zag; split <;> omega
theorem zag_zig (n : Int) : zag (zig n) = n := by unfold zig zag; split <;> split <;> omega
theorem zig_zag (n : Int) (h : 0 ≤ n) : zig (zag n) = n := by unfold zig zag; split <;> split <;> omega
theorem zig_odd (n : Int) : zig n % 2 = 1 ↔ n < 0 := by unfold zig; split <;> omega
theorem zig_small (n : Int) : zig n < 128 ↔ (-64 ≤ n ∧ n < 64) := by unfold zig; split <;> omega

/-- the lowest seven bits of a number, alone or with the sign that another one follows -/
theorem u8_low (b : Int) (h0 : 0 ≤ b) (h1 : b ≤ 255) : bits .andNot .u8 b 128 = b % 128 := by
  rw [u8_andNot b 128 h0 (by omega) (by decide) (by decide)]
  have : b.toNat &&& (255 - (128 : Int).toNat) = b.toNat % 128 := nat_mask7 _
  rw [this]; omega
theorem u8_more (b : Int) (h0 : 0 ≤ b) (h1 : b < 128) : bits .or .u8 b 128 = b + 128 := by
  rw [u8_or b 128 h0 (by omega) (by decide) (by decide)]
  have : b.toNat ||| (128 : Int).toNat = b.toNat + 128 := by
    rw [Nat.or_comm]
    rw [show (128 : Int).toNat = 128 from rfl, nat_join 7 128 b.toNat (by decide) (by omega)]
    omega
  rw [this]; omega

/-- a number's next seven, joined -/
theorem u64_join (acc c i : Nat) (hi : i ≤ 9) (ha : acc < 128 ^ i) (hc : c < 128) (h9 : i = 9 → c ≤ 1) :
    bits .or .u64 (acc : Int) (((c : Int) * 2 ^ (7 * i)) % 18446744073709551616) = ((acc + c * 128 ^ i : Nat) : Int) := by
  have e : (2 : Nat) ^ (7 * i) = 128 ^ i := by rw [Nat.pow_mul]
  have hlt : c * 128 ^ i < 18446744073709551616 := by
    rcases Nat.lt_or_ge i 9 with h | h
    · have h8 : (128 : Nat) ^ i ≤ 128 ^ 8 := Nat.pow_le_pow_right (by decide) (by omega)
      have e8 : (128 : Nat) ^ 8 = 72057594037927936 := by decide
      have : c * 128 ^ i ≤ 127 * 128 ^ 8 := Nat.mul_le_mul (by omega) h8
      omega
    · obtain rfl : i = 9 := by omega
      have e9 : (128 : Nat) ^ 9 = 9223372036854775808 := by decide
      rw [e9]
      have := h9 rfl
      omega
  have hacc : acc < 18446744073709551616 := by
    have h9 : (128 : Nat) ^ i ≤ 128 ^ 9 := Nat.pow_le_pow_right (by decide) hi
    have e9 : (128 : Nat) ^ 9 = 9223372036854775808 := by decide
    omega
  have ez : ((c : Int) * 2 ^ (7 * i)) % 18446744073709551616 = ((c * 128 ^ i : Nat) : Int) := by
    have : ((c : Int) * 2 ^ (7 * i)) = ((c * 128 ^ i : Nat) : Int) := by
      rw [← e]; simp
    rw [this]; omega
  rw [ez, u64_or_nat acc _ hacc hlt, Nat.or_comm, nat_join (7 * i) _ acc (by rw [e]; exact Nat.mul_mod_left _ _) (by rw [e]; exact ha), Nat.add_comm]

/-- as the document spells it -/
theorem sum_spelt (acc b k P : Nat) (hk : k ≤ 9) (ha : acc < 128 ^ k) (h9 : k = 9 → b ≤ 1) (hP : P = 128 ^ k) :
    IntKind.u64.wrap ((acc : Int) + IntKind.u64.wrap ((b : Int) % 128 * (P : Int))) = ((acc + b % 128 * 128 ^ k : Nat) : Int) := by
  have hlt : acc + b % 128 * 128 ^ k < 18446744073709551616 := by
    rcases Nat.lt_or_ge k 9 with h | h
    · have h8 : (128 : Nat) ^ k ≤ 128 ^ 8 := Nat.pow_le_pow_right (by decide) (by omega)
      have e8 : (128 : Nat) ^ 8 = 72057594037927936 := by decide
      have : b % 128 * 128 ^ k ≤ 127 * 128 ^ 8 := Nat.mul_le_mul (by omega) h8
      omega
    · obtain rfl : k = 9 := by omega
      have e9 : (128 : Nat) ^ 9 = 9223372036854775808 := by decide
      rw [e9] at ha ⊢
      have := h9 rfl
      have : b % 128 * 9223372036854775808 ≤ 1 * 9223372036854775808 := Nat.mul_le_mul_right _ (by omega)
      omega
  have e : (b : Int) % 128 * (P : Int) = ((b % 128 * 128 ^ k : Nat) : Int) := by rw [hP]; simp
  rw [IntKind.wrap_u64, IntKind.wrap_u64, e]
  omega
theorem pow_next (k P : Nat) (hk : k < 9) (hP : P = 128 ^ k) : IntKind.u64.wrap ((P : Int) * 128) = ((128 ^ (k + 1) : Nat) : Int) := by
  have h8 : (128 : Nat) ^ k ≤ 128 ^ 8 := Nat.pow_le_pow_right (by decide) (by omega)
  have e8 : (128 : Nat) ^ 8 = 72057594037927936 := by decide
  rw [IntKind.wrap_u64, Nat.pow_succ, ← hP]
  omega

/-- as the machine spells it -/
theorem join_spelt (acc b k : Nat) (hk : k ≤ 9) (ha : acc < 128 ^ k) (hb : b < 256) (h9 : k = 9 → b ≤ 1) :
    bits .or .u64 (acc : Int) (IntKind.u64.wrap (IntKind.u64.wrap (bits .andNot .u8 (b : Int) 128) * 2 ^ (7 * k))) = ((acc + b % 128 * 128 ^ k : Nat) : Int) := by
  rw [u8_low _ (by omega) (by omega), IntKind.wrap_u64, IntKind.wrap_u64]
  have e : (b : Int) % 128 % 18446744073709551616 = ((b % 128 : Nat) : Int) := by omega
  rw [e]
  exact u64_join acc (b % 128) k hk ha (by omega) (fun h => by have := h9 h; omega)
theorem acc_next (acc b k : Nat) (ha : acc < 128 ^ k) : acc + b % 128 * 128 ^ k < 128 ^ (k + 1) := by
  have : b % 128 * 128 ^ k ≤ 127 * 128 ^ k := Nat.mul_le_mul_right _ (by omega)
  rw [Nat.pow_succ]; omega
end Go.Proofs.Ytflcggpeflagiaa.V
/-
  Plain facts on texts put and got: no program is named here.
-/
namespace Go.Proofs.Ytflcggpeflagiaa.V

theorem list_of (s : ByteArray) : (nats s).length = s.size := nats_len s

theorem nats_extract (s : ByteArray) (i j : Nat) : nats (s.extract i j) = ((nats s).drop i).take (j - i) := by
  simp [nats, ByteArray.data_extract, List.extract_eq_take_drop, List.map_take, List.map_drop]

/-- a number that stands at a place is got there -/
theorem get_at {s : ByteArray} {l r : List Nat} {n : Nat} (hn : n < 18446744073709551616) (h : nats s = l ++ (puts n ++ r)) : get s l.length = (n, (l.length : Int) + (puts n).length, 0) := by
  have hsz : l.length ≤ s.size := by rw [← nats_len, h]; simp
  have e := got_puts r n 0 0 (by decide) (by simpa using hn) (fun h => absurd h (by decide))
  unfold get
  rw [if_neg (by omega)]
  rw [Int.toNat_natCast, h, List.drop_left, e]
  simp [behind]

theorem get_first {s : ByteArray} {r : List Nat} {n : Nat} (hn : n < 18446744073709551616) (h : nats s = puts n ++ r) : get s 0 = (n, ((puts n).length : Int), 0) := by
  have := get_at (l := []) hn (by simpa using h)
  simpa using this

theorem nats_text (t b : ByteArray) : nats (put t.size ++ t ++ b) = puts t.size ++ (nats t ++ nats b) := by
  rw [nats_append, nats_append, nats_put, List.append_assoc]

theorem text_back (t b : ByteArray) (ht : t.size ≤ 1000) : text (put t.size ++ t ++ b) 0 t.size = (t, ((put t.size ++ t).size : Int), 0) := by
  have hg := get_first (by omega) (nats_text t b)
  have hsz : (put t.size ++ t ++ b).size = (puts t.size).length + t.size + b.size := by simp [ByteArray.size_append, put_size]
  rw [text_ok hg rfl (by omega) (by rw [hsz]; omega)]
  refine Prod.ext ?_ (Prod.ext ?_ rfl)
  · show ByteArray.extract _ _ _ = t
    apply nats_inj
    rw [nats_extract, nats_text]
    have e1 : ((puts t.size).length : Int).toNat = (puts t.size).length := by omega
    have e2 : (((puts t.size).length : Int) + (t.size : Int)).toNat - (puts t.size).length = (nats t).length := by rw [nats_len]; omega
    rw [e1, e2, List.drop_left, List.take_left]
  · show ((puts t.size).length : Int) + (t.size : Int) = _
    rw [ByteArray.size_append, put_size]; simp

theorem text_less (t b : ByteArray) (ht : t.size ≤ 1000) : text (put t.size ++ t ++ b) 0 ((t.size : Int) - 1) = (⟨#[]⟩, 0, 2) :=
  text_big (get_first (by omega) (nats_text t b)) rfl (by omega)

theorem text_cut (t : ByteArray) (ht : t.size ≤ 1000) : text ((put t.size ++ t).extract 0 ((put t.size ++ t).size - 1)) 0 t.size = (⟨#[]⟩, 0, 10) := by
  have hsz : (put t.size ++ t).size = (puts t.size).length + t.size := by simp [ByteArray.size_append, put_size]
  have hn : nats ((put t.size ++ t).extract 0 ((put t.size ++ t).size - 1)) = (puts t.size ++ nats t).take ((puts t.size).length + t.size - 1) := by
    rw [nats_extract, nats_append, nats_put, List.drop_zero, hsz, Nat.sub_zero]
  by_cases h0 : t.size = 0
  · have hl : (puts t.size).length = 1 := (puts_one _).2 (by omega)
    have hn' : nats ((put t.size ++ t).extract 0 ((put t.size ++ t).size - 1)) = [] := by rw [hn, hl, h0]; rfl
    refine text_err (n := 0) (to := 0) ?_ (by decide)
    unfold get
    rw [if_neg (by have := nats_len ((put t.size ++ t).extract 0 ((put t.size ++ t).size - 1)); omega), hn']
    rfl
  · have hp := puts_pos t.size
    have hg : nats ((put t.size ++ t).extract 0 ((put t.size ++ t).size - 1)) = puts t.size ++ (nats t).take (t.size - 1) := by
      rw [hn, List.take_append]
      rw [List.take_of_length_le (by omega)]
      congr 2
      omega
    refine text_short (get_first (by omega) hg) rfl (by omega) ?_
    have := nats_len ((put t.size ++ t).extract 0 ((put t.size ++ t).size - 1))
    rw [hg, List.length_append, List.length_take, nats_len] at this
    omega

end Go.Proofs.Ytflcggpeflagiaa.V
