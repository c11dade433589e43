/-
  Plain facts on texts put and got: no program is named here.
-/
import Derived.Test.YtinhinghakkfoaaMath
namespace Go.Proofs.Ytinhinghakkfoaa.V

theorem list_of (s : ByteArray) : (nats s).length = s.size := nats_len s

theorem nats_extract (s : ByteArray) (i j : Nat) : nats (s.extract i j) = ((nats s).drop i).take (j - i) := by
  simp [nats, ByteArray.data_extract, List.extract_eq_take_drop, List.map_take, List.map_drop]

/-- a number that stands at a place is got there -/
theorem get_at {s : ByteArray} {l r : List Nat} {n : Nat} (hn : n < 18446744073709551616) (h : nats s = l ++ (puts n ++ r)) : get s l.length = (n, (l.length : Int) + (puts n).length, 0) := by
  have hsz : l.length ≤ s.size := by rw [← nats_len, h]; simp
  have e := got_puts r n 0 0 (by decide) (by simpa using hn) (fun h => absurd h (by decide))
  unfold get
  rw [if_neg (by omega)]
  rw [Int.toNat_natCast, h, List.drop_left, e]
  simp [behind]

theorem get_first {s : ByteArray} {r : List Nat} {n : Nat} (hn : n < 18446744073709551616) (h : nats s = puts n ++ r) : get s 0 = (n, ((puts n).length : Int), 0) := by
  have := get_at (l := []) hn (by simpa using h)
  simpa using this

theorem nats_text (t b : ByteArray) : nats (put t.size ++ t ++ b) = puts t.size ++ (nats t ++ nats b) := by
  rw [nats_append, nats_append, nats_put, List.append_assoc]

theorem text_back (t b : ByteArray) (ht : t.size ≤ 1000) : text (put t.size ++ t ++ b) 0 t.size = (t, ((put t.size ++ t).size : Int), 0) := by
  have hg := get_first (by omega) (nats_text t b)
  have hsz : (put t.size ++ t ++ b).size = (puts t.size).length + t.size + b.size := by simp [ByteArray.size_append, put_size]
  rw [text_ok hg rfl (by omega) (by rw [hsz]; omega)]
  refine Prod.ext ?_ (Prod.ext ?_ rfl)
  · show ByteArray.extract _ _ _ = t
    apply nats_inj
    rw [nats_extract, nats_text]
    have e1 : ((puts t.size).length : Int).toNat = (puts t.size).length := by omega
    have e2 : (((puts t.size).length : Int) + (t.size : Int)).toNat - (puts t.size).length = (nats t).length := by rw [nats_len]; omega
    rw [e1, e2, List.drop_left, List.take_left]
  · show ((puts t.size).length : Int) + (t.size : Int) = _
    rw [ByteArray.size_append, put_size]; simp

theorem text_less (t b : ByteArray) (ht : t.size ≤ 1000) : text (put t.size ++ t ++ b) 0 ((t.size : Int) - 1) = (⟨#[]⟩, 0, 2) :=
  text_big (get_first (by omega) (nats_text t b)) rfl (by omega)

theorem text_cut (t : ByteArray) (ht : t.size ≤ 1000) : text ((put t.size ++ t).extract 0 ((put t.size ++ t).size - 1)) 0 t.size = (⟨#[]⟩, 0, 10) := by
  have hsz : (put t.size ++ t).size = (puts t.size).length + t.size := by simp [ByteArray.size_append, put_size]
  have hn : nats ((put t.size ++ t).extract 0 ((put t.size ++ t).size - 1)) = (puts t.size ++ nats t).take ((puts t.size).length + t.size - 1) := by
    rw [nats_extract, nats_append, nats_put, List.drop_zero, hsz, Nat.sub_zero]
  by_cases h0 : t.size = 0
  · have hl : (puts t.size).length = 1 := (puts_one _).2 (by omega)
    have hn' : nats ((put t.size ++ t).extract 0 ((put t.size ++ t).size - 1)) = [] := by rw [hn, hl, h0]; rfl
    refine text_err (n := 0) (to := 0) ?_ (by decide)
    unfold get
    rw [if_neg (by have := nats_len ((put t.size ++ t).extract 0 ((put t.size ++ t).size - 1)); omega), hn']
    rfl
  · have hp := puts_pos t.size
    have hg : nats ((put t.size ++ t).extract 0 ((put t.size ++ t).size - 1)) = puts t.size ++ (nats t).take (t.size - 1) := by
      rw [hn, List.take_append]
      rw [List.take_of_length_le (by omega)]
      congr 2
      omega
    refine text_short (get_first (by omega) hg) rfl (by omega) ?_
    have := nats_len ((put t.size ++ t).extract 0 ((put t.size ++ t).size - 1))
    rw [hg, List.length_append, List.length_take, nats_len] at this
    omega

end Go.Proofs.Ytinhinghakkfoaa.V
