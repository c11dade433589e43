/-
  Contracts: a segment's bytes, its index, its copy.
-/
import Derived.Test.YtflcggpeflagiaaSegKeep
import Derived.Test.YtflcggpeflagiaaMRecRall
namespace Go.Proofs.Ytflcggpeflagiaa.L5
open Go.RowKit
open L3 L4

theorem bytes_take {L : List L4.Fd} {k : Nat} {f : L4.Fd} (h : L[k]? = some f) : bytesL (L.take (k + 1)) = bytesL (L.take k) + f.r.put.size := by
  induction L generalizing k with
  | nil => simp at h
  | cons a t ih =>
    cases k with
    | zero => have e : a = f := by simpa using h
              subst e; simp [bytesL]
    | succ k =>
      have := ih (k := k) (by simpa using h)
      simp only [List.take_succ_cons, bytesL]
      omega
theorem bytes_le : ∀ (L : List L4.Fd), bytesL L ≤ 600 * L.length
  | [] => by simp [bytesL]
  | f :: t => by
    have := bytes_le t
    have := putT_size f.r.hk f.r.key f.r.tb f.r.val
    show (putT f.r.hk f.r.key f.r.tb f.r.val).size + bytesL t ≤ _
    simp; omega

set_option maxRecDepth 100000 in
set_option maxHeartbeats 2000000 in
theorem bytes_is {T : TypeId} {w : World} {g : Nat} {A : Option Addr} {cap : Nat} {base next : Int} {L : List L4.Fd} (n : Nat) (h : Hid (Seg T w g A cap base next L)) (hn : L.length = n) (hl : n ≤ 64) (hs : Hid (∀ f ∈ L, f.r.key.size ≤ 64 ∧ f.r.val.size ≤ 512)) :
    Calls Try.prog 62 #[.pointer (some ⟨g, 0, none⟩)] w fun e w' => e = .returned (.int .i64 (bytesL L : Nat)) ∧ Below w.heap.size w w' := by
  have c2 := h.out.c2
  rw [hn] at c2
  have HN := Lib.hid hn
  clear hn
  go_enter Try.func62, Try.ntmps62
  go_wp2_with fail
  go_loopw [3, 11] (fun s i wr => ∃ (k m : Nat), k ≤ n ∧ i = .int .i64 k ∧ s = .int .i64 m ∧ m ≤ 600 * k ∧ Hid (bytesL (L.take k) = m) ∧ Below w.heap.size w wr) (fun _ i _ => n - (intOf i).toNat)
  case atStart => exact ⟨0, 0, by omega, rfl, rfl, by omega, Lib.hid rfl, Below.refl _ _⟩
  case round =>
    obtain ⟨k, m, hk, rfl, rfl, hm, hM, hbel⟩ := hrel
    by_cases hlt : k < n
    · have hseg := h.out.below hbel
      obtain ⟨b, rfl, hb, hcells⟩ := hseg.reads (by rw [HN.out]; omega)
      obtain ⟨⟨o, ⟨rk, key, tb, val⟩⟩, hf⟩ : ∃ s, L[k]? = some s := ⟨_, List.getElem?_eq_getElem (by rw [HN.out]; omega)⟩
      obtain ⟨d0, d1, d2, d3, d4⟩ := hcells k _ hf
      obtain ⟨q1, q2⟩ := hs.out _ (List.mem_of_getElem? hf)
      have Q1 : Hid (key.size ≤ maxLen) := Lib.hid (by unfold maxLen; dsimp only at q1; omega)
      have Q2 : Hid (val.size ≤ maxLen) := Lib.hid (by unfold maxLen; dsimp only at q2; omega)
      have k0 : (0 : Int) ≤ (k : Int) := by omega
      have k1 : (k : Int) < (n : Int) := by omega
      obtain ⟨p, hp⟩ : ∃ p, putT rk key tb val = p := ⟨_, rfl⟩
      have hps : p.size ≤ 600 := by rw [← hp]; exact putT_size _ _ _ _
      have HP := Lib.hid hp
      have hnx := bytes_take hf
      rw [hM.out] at hnx
      have HNX : Hid (bytesL (L.take (k + 1)) = m + p.size) := Lib.hid (by rw [hnx]; show m + (putT rk key tb val).size = _; rw [hp])
      have e1 : wrap64 ((m : Int) + (p.size : Int)) = ((m + p.size : Nat) : Int) := by simp only [wrap64]; omega
      clear hcells hf hseg hp hnx q1 q2
      dsimp only at d0 d1 d2 d3 d4
      go_wp2_with (go_at_call 72; refine (size_is _ _ _ _ _ _ Q1.out Q2.out HP).mono ?_; rintro e w1 ⟨rfl, hb1⟩)
      go_roundw
      case rel => exact ⟨k + 1, m + p.size, by omega, by go_num, by go_num, by omega, HNX, (hbel.alloc hbel.size _).trans (hb1.mono (by simp; exact Nat.le_succ_of_le hbel.size))⟩
      case measure => simp [intOf]; omega
    · obtain rfl : k = n := by omega
      have HE : Hid (bytesL L = m) := Lib.hid (by have := hM.out; rwa [List.take_of_length_le (by rw [HN.out]; omega)] at this)
      go_wp2_with fail
      go_ret
      exact ⟨congrArg (fun m : Nat => Ending.returned (.int .i64 m)) HE.out.symm, hbel⟩

theorem intInfo : (Try.prog.info? 3).map (fun i => (i.zero, i.size, i.bytes)) = some (some (.int .i64 0), 1, 8) := by kernel_rfl
/-- numbers, as the cells of a row -/
def rowI (l : List Int) : List Value := l.map (Value.int .i64)
/-- a row of numbers in memory of the call's own -/
def NumsP (w : World) (l : List Int) (e : Ending) (w' : World) : Prop :=
  ∃ A cap, e = .returned (.slice A l.length cap) ∧ w'.ownsRow w.heap.size 3 1 (.slice A l.length cap) l.length (rowI l) ∧ Below w.heap.size w w'
theorem index_len (L : List L4.Fd) : (indexL L).length = (L.length + 7) / 8 := by simp [indexL]
theorem index_take {L : List L4.Fd} {k : Nat} {f : L4.Fd} (hk : k < (L.length + 7) / 8) (h : L[k * 8]? = some f) : (indexL L).take (k + 1) = (indexL L).take k ++ [f.o] := by
  rw [List.take_add_one]
  congr 1
  have e : 8 * k = k * 8 := by omega
  simp only [indexL, List.getElem?_map]
  rw [List.getElem?_range hk]
  show (Option.map _ (some k)).toList = _
  simp [e, h]

end Go.Proofs.Ytflcggpeflagiaa.L5
