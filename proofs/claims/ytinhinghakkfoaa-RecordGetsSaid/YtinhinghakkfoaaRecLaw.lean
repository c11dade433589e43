/-
  What the laws on batches want: batches cut short, the sizes of their parts.
-/
import Derived.Test.YtinhinghakkfoaaRecBack
import Derived.Test.YtinhinghakkfoaaRecBound
namespace Go.Proofs.Ytinhinghakkfoaa.L3
open Go Go.RowKit

theorem nats_take (T : ByteArray) (j : Nat) : V.nats (T.extract 0 j) = (V.nats T).take j := by
  rw [V.nats_extract, List.drop_zero, Nat.sub_zero]

/-- a batch's bytes, cut short, are none -/
theorem cut_none {p e q : Int} {l : List R} (h : allN p e q l = 0) {j : Nat} (hj : j < (batT p e q l).size) {b : Bt} {to x : Int} (hp : parse ((batT p e q l).extract 0 j) 0 = (b, to, x)) : x ≠ 0 := by
  rintro rfl
  obtain ⟨_, g1, g2, g3, g4⟩ := parse_got hp
  have e1 := nats_take (batT p e q l) j
  rw [Int.toNat_zero, List.drop_zero, e1] at g4
  have hz : (batT p e q l).size = (V.nats (batT p e q l)).length := (V.nats_len _).symm
  have hT : V.nats (batT p e q l) = V.nats (batT b.p b.e b.q b.l) ++ (((V.nats (batT p e q l)).take j).drop to.toNat ++ (V.nats (batT p e q l)).drop j) := by
    rw [← List.append_assoc, ← g4, List.take_append_drop]
  have k1 := parse_put g3 (s := batT p e q l) (pre := []) (by simpa using hT)
  have k2 := parse_put h (s := batT p e q l) (pre := []) (post := []) (by simp)
  rw [k1] at k2
  simp only [Prod.mk.injEq] at k2
  have h1 := congrArg List.length g4
  rw [List.length_take, List.length_append, V.nats_len] at h1
  rw [V.nats_len] at h1
  have h2 := k2.2.1
  simp at h2
  omega

theorem cutR_size (l : List R) : ∀ r ∈ (l.take 20).map R.cut, r.key.size ≤ 80 ∧ r.val.size ≤ 600 := by
  intro r hr
  simp only [List.mem_map] at hr
  obtain ⟨q, _, rfl⟩ := hr
  exact ⟨cutS_size q.key 80, cutS_size q.val 600⟩
theorem cutR_len (l : List R) : ((l.take 20).map R.cut).length ≤ 20 := by rw [List.length_map, List.length_take]; omega
theorem cutR_max (l : List R) : ∀ r ∈ (l.take 20).map R.cut, r.key.size ≤ maxLen ∧ r.val.size ≤ maxLen := fun r hr => by
  have := cutR_size l r hr
  unfold maxLen
  omega

/-- how many bytes the first records have -/
def sumL : List R → Nat
  | [] => 0
  | r :: t => r.put.size + sumL t
theorem sumL_flat : ∀ l : List R, (l.flatMap fun r => V.nats r.put).length = sumL l
  | [] => rfl
  | r :: t => by rw [List.flatMap_cons, List.length_append, V.nats_len, sumL_flat t]; rfl
theorem sumL_app : ∀ (a : List R) (r : R), sumL (a ++ [r]) = sumL a + r.put.size
  | [], r => by simp [sumL]
  | q :: t, r => by show q.put.size + sumL (t ++ [r]) = q.put.size + sumL t + r.put.size; rw [sumL_app t r]; omega
theorem sumL_next {l : List R} {k : Nat} {r : R} (h : l[k]? = some r) : sumL (l.take (k + 1)) = sumL (l.take k) + r.put.size := by
  rw [List.take_add_one, h]
  exact sumL_app _ _
theorem sumL_le (l : List R) (k : Nat) : sumL (l.take k) ≤ 600 * k := by rw [← sumL_flat]; exact flat_le l k
theorem put_bounds {r : R} (h : r.chk = 0) : 2 ≤ r.put.size ∧ r.put.size ≤ 580 := by
  obtain ⟨hk, k, tb, v⟩ := r
  have h' : chk hk k tb v = 0 := h
  obtain ⟨q1, q2, q3, q4⟩ := chk_parts h'
  have e : R.put ⟨hk, k, tb, v⟩ = recText hk k tb v := if_pos h'
  rw [e]
  have z : ∀ s : ByteArray, (txt s).size = (V.puts s.size).length + s.size := txt_len
  have p1 := V.puts_pos k.size
  have p2 := V.puts_pos v.size
  have u1 : (V.puts k.size).length ≤ 1 := V.puts_len_le 0 k.size (by omega)
  have u2 : (V.puts v.size).length ≤ 2 := V.puts_len_le 1 v.size (by omega)
  cases hk <;> cases tb <;> simp only [recText, ByteArray.size_append, one_size, z] <;> omega
theorem bat_bounds {p e q : Int} {l : List R} (h : allN p e q l = 0) : sumL l + 4 ≤ (batT p e q l).size ∧ (batT p e q l).size ≤ sumL l + 19 := by
  obtain ⟨⟨p0, p1⟩, ⟨e0, e1⟩, ⟨q0, q1⟩, l0, l1, _⟩ := allN_ok h
  rw [← V.nats_len, nats_bat]
  unfold batN
  simp only [List.length_append, sumL_flat]
  have a1 := V.puts_pos p.toNat
  have a2 := V.puts_pos e.toNat
  have a3 := V.puts_pos q.toNat
  have a4 := V.puts_pos l.length
  have b1 : (V.puts p.toNat).length ≤ 6 := V.puts_len_le 5 _ (by omega)
  have b2 : (V.puts e.toNat).length ≤ 6 := V.puts_len_le 5 _ (by omega)
  have b3 : (V.puts q.toNat).length ≤ 6 := V.puts_len_le 5 _ (by omega)
  have b4 : (V.puts l.length).length ≤ 1 := V.puts_len_le 0 _ (by omega)
  omega
end Go.Proofs.Ytinhinghakkfoaa.L3
