/-
  Frames and cuts, plainly: no program is named here.
-/
import Derived.Test.YtlemcijgjebekaaMMath
import Derived.Test.YtlemcijgjebekaaCrc
namespace Go.Proofs.Ytlemcijgjebekaa

/-- a sum's four bytes, as the machine has them -/
def fourB (n : Nat) : ByteArray := V.bytesOf (C.four n)
theorem fourB_size (n : Nat) : (fourB n).size = 4 := by unfold fourB; rw [V.bytesOf_size]; rfl
theorem fourB_nats (n : Nat) (h : n < 4294967296) : V.nats (fourB n) = C.four n := V.nats_bytesOf (C.four_byte n h)

/-- the sum of bytes -/
def sumOf (s : ByteArray) : Nat := C.sum (V.nats s)
theorem sumOf_lt (s : ByteArray) : sumOf s < 4294967296 := C.more_lt _ _

/-- the frame of bytes -/
def frame (s : ByteArray) : ByteArray := V.put s.size ++ s ++ fourB (sumOf s)
theorem frame_size (s : ByteArray) : (frame s).size = (V.puts s.size).length + s.size + 4 := by
  unfold frame; rw [ByteArray.size_append, ByteArray.size_append, V.put_size, fourB_size]
theorem frame_nats (s : ByteArray) : V.nats (frame s) = V.puts s.size ++ (V.nats s ++ C.four (sumOf s)) := by
  unfold frame; rw [V.nats_append, V.nats_append, V.nats_put, fourB_nats _ (sumOf_lt s), List.append_assoc]

/-- the frame at a place -/
def cut (s : ByteArray) (at_ most : Int) : ByteArray × Int × Int :=
  if (V.text s at_ most).2.2 ≠ 0 then (⟨#[]⟩, 0, (V.text s at_ most).2.2)
  else if (s.size : Int) - (V.text s at_ most).2.1 < 4 then (⟨#[]⟩, 0, 20)
  else if s.extract (V.text s at_ most).2.1.toNat ((V.text s at_ most).2.1 + 4).toNat ≠ fourB (sumOf (V.text s at_ most).1) then (⟨#[]⟩, 0, 21)
  else ((V.text s at_ most).1, (V.text s at_ most).2.1 + 4, 0)

theorem cut_err {s t : ByteArray} {at_ most to e : Int} (h : V.text s at_ most = (t, to, e)) (he : e ≠ 0) : cut s at_ most = (⟨#[]⟩, 0, e) := by
  unfold cut; rw [h]; exact if_pos he
theorem cut_short {s t : ByteArray} {at_ most to : Int} (h : V.text s at_ most = (t, to, 0)) (hs : (s.size : Int) - to < 4) : cut s at_ most = (⟨#[]⟩, 0, 20) := by
  unfold cut; rw [h, if_neg (by simp)]; exact if_pos hs
theorem cut_sum {s t : ByteArray} {at_ most to : Int} (h : V.text s at_ most = (t, to, 0)) (hs : ¬ (s.size : Int) - to < 4) (hb : s.extract to.toNat (to + 4).toNat ≠ fourB (sumOf t)) : cut s at_ most = (⟨#[]⟩, 0, 21) := by
  unfold cut; rw [h, if_neg (by simp), if_neg hs]; exact if_pos hb
theorem cut_ok {s t : ByteArray} {at_ most to : Int} (h : V.text s at_ most = (t, to, 0)) (hs : ¬ (s.size : Int) - to < 4) (hb : s.extract to.toNat (to + 4).toNat = fourB (sumOf t)) : cut s at_ most = (t, to + 4, 0) := by
  unfold cut; rw [h, if_neg (by simp), if_neg hs]; exact if_neg (by simpa using hb)

theorem text_some {s t : ByteArray} {at_ most to : Int} (h : V.text s at_ most = (t, to, 0)) : 0 ≤ to ∧ to ≤ s.size ∧ t.size ≤ s.size := by
  obtain ⟨n, p, e, hg⟩ : ∃ n p e, V.get s at_ = (n, p, e) := ⟨_, _, _, rfl⟩
  obtain ⟨_, h1, h2⟩ := V.get_some hg
  by_cases he : e = 0
  · by_cases hb : most < 0 ∨ most < (n : Int)
    · rw [V.text_big hg he hb] at h; simp at h
    · by_cases hs : (s.size : Int) - p < n
      · rw [V.text_short hg he hb hs] at h; simp at h
      · rw [V.text_ok hg he hb hs] at h
        simp only [Prod.mk.injEq] at h
        obtain ⟨rfl, rfl, _⟩ := h
        rw [ByteArray.size_extract]
        omega
  · rw [V.text_err hg he] at h
    simp only [Prod.mk.injEq] at h
    omega

/-- a frame that stands at a place is cut there -/
theorem text_at {s : ByteArray} {l r : List Nat} {t : ByteArray} {most : Int} (ht : t.size < 281474976710656) (h : V.nats s = l ++ (V.puts t.size ++ (V.nats t ++ r))) (hm : (t.size : Int) ≤ most) :
    V.text s l.length most = (t, (l.length : Int) + (V.puts t.size).length + t.size, 0) := by
  have hg := V.get_at (by omega) h
  have hsz : s.size = l.length + ((V.puts t.size).length + (t.size + r.length)) := by rw [← V.nats_len, h]; simp [V.nats_len]
  rw [V.text_ok hg rfl (by omega) (by omega)]
  refine Prod.ext ?_ rfl
  show ByteArray.extract _ _ _ = t
  apply V.nats_inj
  rw [V.nats_extract, h]
  have e1 : ((l.length : Int) + ((V.puts t.size).length : Int)).toNat = (l ++ V.puts t.size).length := by simp; omega
  have e2 : ((l.length : Int) + ((V.puts t.size).length : Int) + (t.size : Int)).toNat - (l ++ V.puts t.size).length = (V.nats t).length := by simp [V.nats_len]; omega
  rw [e1, e2, ← List.append_assoc, List.drop_left, List.take_left]

theorem cut_at {s : ByteArray} {l r : List Nat} {t : ByteArray} {most : Int} (ht : t.size < 281474976710656) (h : V.nats s = l ++ (V.nats (frame t) ++ r)) (hm : (t.size : Int) ≤ most) :
    cut s l.length most = (t, (l.length : Int) + (frame t).size, 0) := by
  have h' : V.nats s = l ++ (V.puts t.size ++ (V.nats t ++ (C.four (sumOf t) ++ r))) := by rw [h, frame_nats]; simp [List.append_assoc]
  have hx := text_at ht h' hm
  have hsz : s.size = l.length + ((V.puts t.size).length + (t.size + (4 + r.length))) := by rw [← V.nats_len, h']; simp [V.nats_len, C.four]; omega
  rw [cut_ok hx (by omega) ?_]
  · refine Prod.ext rfl (Prod.ext ?_ rfl)
    show (l.length : Int) + (V.puts t.size).length + t.size + 4 = (l.length : Int) + ((frame t).size : Int)
    rw [frame_size]; omega
  · apply V.nats_inj
    rw [V.nats_extract, h', fourB_nats _ (sumOf_lt t)]
    have e1 : ((l.length : Int) + ((V.puts t.size).length : Int) + (t.size : Int)).toNat = (l ++ (V.puts t.size ++ V.nats t)).length := by simp [V.nats_len]; omega
    have e2 : ((l.length : Int) + ((V.puts t.size).length : Int) + (t.size : Int) + 4).toNat - (l ++ (V.puts t.size ++ V.nats t)).length = (C.four (sumOf t)).length := by simp [V.nats_len, C.four]; omega
    have e3 : l ++ (V.puts t.size ++ (V.nats t ++ (C.four (sumOf t) ++ r))) = (l ++ (V.puts t.size ++ V.nats t)) ++ (C.four (sumOf t) ++ r) := by simp [List.append_assoc]
    rw [e1, e2, e3, List.drop_left, List.take_left]

end Go.Proofs.Ytlemcijgjebekaa
