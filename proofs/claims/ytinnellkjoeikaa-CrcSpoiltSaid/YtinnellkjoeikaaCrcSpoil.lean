/-
  Frames spoilt or cut short, plainly: no program is named here.
-/
import Derived.Test.YtinnellkjoeikaaCrcSpec
namespace Go.Proofs.Ytinnellkjoeikaa

theorem cut_wrong {s t : ByteArray} {r : List Nat} {most : Int} (ht : t.size < 281474976710656) (h : V.nats s = V.puts t.size ++ (V.nats t ++ r)) (hm : (t.size : Int) ≤ most) (hr : 4 ≤ r.length) (hne : r.take 4 ≠ C.four (sumOf t)) :
    cut s 0 most = (⟨#[]⟩, 0, 21) := by
  have hx := text_at (l := []) ht (by simpa using h) hm
  have hsz : s.size = (V.puts t.size).length + (t.size + r.length) := by rw [← V.nats_len, h]; simp [V.nats_len]
  refine cut_sum hx (by simp; omega) ?_
  intro he
  apply hne
  have e := congrArg V.nats he
  rw [V.nats_extract, fourB_nats _ (sumOf_lt t), h] at e
  rw [← e]
  have e1 : ((([] : List Nat).length : Int) + ((V.puts t.size).length : Int) + (t.size : Int)).toNat = (V.puts t.size ++ V.nats t).length := by simp [V.nats_len]; omega
  have e2 : ((([] : List Nat).length : Int) + ((V.puts t.size).length : Int) + (t.size : Int) + 4).toNat - (V.puts t.size ++ V.nats t).length = 4 := by simp [V.nats_len]; omega
  rw [e1, e2, ← List.append_assoc, List.drop_left]

theorem set_split (l : List Nat) (i b : Nat) (h : i < l.length) : l.take i ++ b :: l.drop (i + 1) ≠ l ∨ l[i] = b := by
  by_cases e : l[i] = b
  · exact .inr e
  · left
    intro h1
    apply e
    have h2 : (l.take i ++ b :: l.drop (i + 1))[i]? = l[i]? := by rw [h1]
    rw [List.getElem?_append_right (by rw [List.length_take]; omega)] at h2
    rw [List.length_take, Nat.min_eq_left (by omega), Nat.sub_self, List.getElem?_cons_zero, List.getElem?_eq_getElem h] at h2
    exact (Option.some.inj h2).symm

/-- one byte of a frame's text or sum other: no frame -/
theorem spoilt {s g : ByteArray} (k b : Nat) (hs : s.size ≤ 100) (hk : 1 ≤ k) (hk2 : k < s.size + 5) (hb : b < 256)
    (hg : V.nats g = (V.nats (frame s)).take k ++ b :: (V.nats (frame s)).drop (k + 1)) (hne : (V.nats (frame s))[k]? ≠ some b) : cut g 0 600 = (⟨#[]⟩, 0, 21) := by
  have hp : V.puts s.size = [s.size] := V.puts_small (by omega)
  have hF : V.nats (frame s) = s.size :: (V.nats s ++ C.four (sumOf s)) := by rw [frame_nats, hp]; rfl
  have hl := V.nats_len s
  have h4 : (C.four (sumOf s)).length = 4 := rfl
  obtain ⟨i, rfl⟩ : ∃ i, k = i + 1 := ⟨k - 1, by omega⟩
  rw [hF] at hg hne
  simp only [List.take_succ_cons, List.drop_succ_cons, List.getElem?_cons_succ, List.cons_append] at hg hne
  by_cases hi : i < s.size
  · rw [List.take_append_of_le_length (by omega), List.drop_append_of_le_length (by omega)] at hg
    rw [List.getElem?_append_left (by omega), List.getElem?_eq_getElem (by omega)] at hne
    have hT : ∀ x ∈ (V.nats s).take i ++ b :: (V.nats s).drop (i + 1), x < 256 := by
      intro x hx
      rcases List.mem_append.1 hx with h | h
      · exact V.nats_byte s x (List.mem_of_mem_take h)
      · rcases List.mem_cons.1 h with rfl | h
        · exact hb
        · exact V.nats_byte s x (List.mem_of_mem_drop h)
    have hn := V.nats_bytesOf hT
    have hz : (V.bytesOf ((V.nats s).take i ++ b :: (V.nats s).drop (i + 1))).size = s.size := by
      rw [V.bytesOf_size, List.length_append, List.length_take, List.length_cons, List.length_drop, hl]; omega
    refine cut_wrong (t := V.bytesOf ((V.nats s).take i ++ b :: (V.nats s).drop (i + 1))) (r := C.four (sumOf s)) (by omega) ?_ (by omega) (by omega) ?_
    · rw [hn, hz, hp, hg]; simp [List.append_assoc]
    · rw [List.take_of_length_le (by omega)]
      intro he
      have h1 := C.four_inj (sumOf_lt _) (sumOf_lt _) he
      unfold sumOf at h1
      rw [hn] at h1
      have hs2 : V.nats s = (V.nats s).take i ++ (V.nats s)[i]'(by omega) :: (V.nats s).drop (i + 1) := by
        rw [← List.drop_eq_getElem_cons (by omega), List.take_append_drop]
      have hd := C.sum_other (l := (V.nats s).take i) (r := (V.nats s).drop (i + 1)) (a := (V.nats s)[i]'(by omega)) (b := b)
        (fun x hx => V.nats_byte s x (List.mem_of_mem_take hx)) (fun x hx => V.nats_byte s x (List.mem_of_mem_drop hx)) (V.nats_byte s _ (List.getElem_mem _)) hb (fun e => hne (by rw [e]))
      rw [← hs2] at hd
      exact hd h1
  · obtain ⟨j, rfl⟩ : ∃ j, i = s.size + j := ⟨i - s.size, by omega⟩
    rw [← hl] at hg hne
    rw [List.take_length_add_append, show (V.nats s).length + j + 1 = (V.nats s).length + (j + 1) by omega, List.drop_length_add_append] at hg
    rw [List.getElem?_append_right (by omega), Nat.add_sub_cancel_left, List.getElem?_eq_getElem (by omega)] at hne
    refine cut_wrong (t := s) (r := (C.four (sumOf s)).take j ++ b :: (C.four (sumOf s)).drop (j + 1)) (by omega) ?_ (by omega) ?_ ?_
    · rw [hg, hp, hl]; simp [List.append_assoc]
    · rw [List.length_append, List.length_take, List.length_cons, List.length_drop]; omega
    · rw [List.take_of_length_le (by rw [List.length_append, List.length_take, List.length_cons, List.length_drop]; omega)]
      rcases set_split (C.four (sumOf s)) j b (by omega) with h | h
      · exact h
      · exact absurd (by rw [h]) hne

/-- a frame cut short: no frame -/
theorem short {s g : ByteArray} (k : Nat) (hs : s.size ≤ 100) (hk : 1 ≤ k) (hk2 : k < s.size + 5) (hg : V.nats g = (V.nats (frame s)).take k) : (cut g 0 600).2.2 ≠ 0 := by
  have hp : V.puts s.size = [s.size] := V.puts_small (by omega)
  have hF : V.nats (frame s) = s.size :: (V.nats s ++ C.four (sumOf s)) := by rw [frame_nats, hp]; rfl
  have h4 : (C.four (sumOf s)).length = 4 := rfl
  obtain ⟨i, rfl⟩ : ∃ i, k = i + 1 := ⟨k - 1, by omega⟩
  rw [hF, List.take_succ_cons] at hg
  have hz : g.size = i + 1 := by
    rw [← V.nats_len, hg, List.length_cons, List.length_take, List.length_append, V.nats_len]; omega
  have hget := V.get_first (s := g) (n := s.size) (r := (V.nats s ++ C.four (sumOf s)).take i) (by omega) (by rw [hg, hp]; rfl)
  rw [hp] at hget
  by_cases h : (g.size : Int) - ([s.size].length : Int) < (s.size : Int)
  · rw [cut_err (V.text_short hget rfl (by omega) h) (by decide)]
    decide
  · have ht := V.text_ok (most := 600) hget rfl (by omega) h
    rw [cut_short ht (by simp; omega)]
    decide

end Go.Proofs.Ytinnellkjoeikaa
