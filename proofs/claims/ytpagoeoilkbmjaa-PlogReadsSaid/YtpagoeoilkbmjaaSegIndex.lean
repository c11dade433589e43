/-
  Contracts: a segment's bytes, its index, its copy.
-/
import Derived.Test.YtpagoeoilkbmjaaSegKeep
import Derived.Test.YtpagoeoilkbmjaaMRecRall
namespace Go.Proofs.Ytpagoeoilkbmjaa.L5
open Go.RowKit
open L3 L4

theorem bytes_take {L : List L4.Fd} {k : Nat} {f : L4.Fd} (h : L[k]? = some f) : bytesL (L.take (k + 1)) = bytesL (L.take k) + f.r.put.size := by
  induction L generalizing k with
  | nil => simp at h
  | cons a t ih =>
    cases k with
    | zero => have e : a = f := by simpa using h
              subst e; simp [bytesL]
    | succ k =>
      have := ih (k := k) (by simpa using h)
      simp only [List.take_succ_cons, bytesL]
      omega
theorem bytes_le : ∀ (L : List L4.Fd), bytesL L ≤ 600 * L.length
  | [] => by simp [bytesL]
  | f :: t => by
    have := bytes_le t
    have := putT_size f.r.hk f.r.key f.r.tb f.r.val
    show (putT f.r.hk f.r.key f.r.tb f.r.val).size + bytesL t ≤ _
    simp; omega

set_option maxRecDepth 100000 in
set_option maxHeartbeats 2000000 in
theorem bytes_is {T : TypeId} {w : World} {g : Nat} {A : Option Addr} {cap : Nat} {base next : Int} {L : List L4.Fd} (n : Nat) (h : Hid (Seg T w g A cap base next L)) (hn : L.length = n) (hl : n ≤ 64) (hs : Hid (∀ f ∈ L, f.r.key.size ≤ 64 ∧ f.r.val.size ≤ 512)) :
    Calls Try.prog 56 #[.pointer (some ⟨g, 0, none⟩)] w fun e w' => e = .returned (.int .i64 (bytesL L : Nat)) ∧ Below w.heap.size w w' := by
  have c2 := h.out.c2
  rw [hn] at c2
  have HN := Lib.hid hn
  clear hn
  go_enter Try.func56, Try.ntmps56
  go_wp2_with fail
  go_loopw [3, 11] (fun s i wr => ∃ (k m : Nat), k ≤ n ∧ i = .int .i64 k ∧ s = .int .i64 m ∧ m ≤ 600 * k ∧ Hid (bytesL (L.take k) = m) ∧ Below w.heap.size w wr) (fun _ i _ => n - (intOf i).toNat)
  case atStart => exact ⟨0, 0, by omega, rfl, rfl, by omega, Lib.hid rfl, Below.refl _ _⟩
  case round =>
    obtain ⟨k, m, hk, rfl, rfl, hm, hM, hbel⟩ := hrel
    by_cases hlt : k < n
    · have hseg := h.out.below hbel
      obtain ⟨b, rfl, hb, hcells⟩ := hseg.reads (by rw [HN.out]; omega)
      obtain ⟨⟨o, ⟨rk, key, tb, val⟩⟩, hf⟩ : ∃ s, L[k]? = some s := ⟨_, List.getElem?_eq_getElem (by rw [HN.out]; omega)⟩
      obtain ⟨d0, d1, d2, d3, d4⟩ := hcells k _ hf
      obtain ⟨q1, q2⟩ := hs.out _ (List.mem_of_getElem? hf)
      have Q1 : Hid (key.size ≤ maxLen) := Lib.hid (by unfold maxLen; dsimp only at q1; omega)
      have Q2 : Hid (val.size ≤ maxLen) := Lib.hid (by unfold maxLen; dsimp only at q2; omega)
      have k0 : (0 : Int) ≤ (k : Int) := by omega
      have k1 : (k : Int) < (n : Int) := by omega
      obtain ⟨p, hp⟩ : ∃ p, putT rk key tb val = p := ⟨_, rfl⟩
      have hps : p.size ≤ 600 := by rw [← hp]; exact putT_size _ _ _ _
      have HP := Lib.hid hp
      have hnx := bytes_take hf
      rw [hM.out] at hnx
      have HNX : Hid (bytesL (L.take (k + 1)) = m + p.size) := Lib.hid (by rw [hnx]; show m + (putT rk key tb val).size = _; rw [hp])
      have e1 : wrap64 ((m : Int) + (p.size : Int)) = ((m + p.size : Nat) : Int) := by simp only [wrap64]; omega
      clear hcells hf hseg hp hnx q1 q2
      dsimp only at d0 d1 d2 d3 d4
      go_wp2_with (go_at_call 84; refine (size_is _ _ _ _ _ _ Q1.out Q2.out HP).mono ?_; rintro e w1 ⟨rfl, hb1⟩)
      go_roundw
      case rel => exact ⟨k + 1, m + p.size, by omega, by go_num, by go_num, by omega, HNX, (hbel.alloc hbel.size _).trans (hb1.mono (by simp; exact Nat.le_succ_of_le hbel.size))⟩
      case measure => simp [intOf]; omega
    · obtain rfl : k = n := by omega
      have HE : Hid (bytesL L = m) := Lib.hid (by have := hM.out; rwa [List.take_of_length_le (by rw [HN.out]; omega)] at this)
      go_wp2_with fail
      go_ret
      exact ⟨congrArg (fun m : Nat => Ending.returned (.int .i64 m)) HE.out.symm, hbel⟩

theorem intInfo : (Try.prog.info? 3).map (fun i => (i.zero, i.size, i.bytes)) = some (some (.int .i64 0), 1, 8) := by kernel_rfl
/-- numbers, as the cells of a row -/
def rowI (l : List Int) : List Value := l.map (Value.int .i64)
/-- a row of numbers in memory of the call's own -/
def NumsP (w : World) (l : List Int) (e : Ending) (w' : World) : Prop :=
  ∃ A cap, e = .returned (.slice A l.length cap) ∧ w'.ownsRow w.heap.size 3 1 (.slice A l.length cap) l.length (rowI l) ∧ Below w.heap.size w w'
theorem index_len (L : List L4.Fd) : (indexL L).length = (L.length + 7) / 8 := by simp [indexL]
theorem index_take {L : List L4.Fd} {k : Nat} {f : L4.Fd} (hk : k < (L.length + 7) / 8) (h : L[k * 8]? = some f) : (indexL L).take (k + 1) = (indexL L).take k ++ [f.o] := by
  rw [List.take_add_one]
  congr 1
  have e : 8 * k = k * 8 := by omega
  simp only [indexL, List.getElem?_map]
  rw [List.getElem?_range hk]
  show (Option.map _ (some k)).toList = _
  simp [e, h]

set_option maxRecDepth 100000 in
set_option maxHeartbeats 2000000 in
theorem index_is {T : TypeId} {w : World} {g : Nat} {A : Option Addr} {cap : Nat} {base next : Int} {L : List L4.Fd} (n : Nat) (h : Hid (Seg T w g A cap base next L)) (hn : L.length = n) (hl : n ≤ 64) :
    Calls Try.prog 59 #[.pointer (some ⟨g, 0, none⟩)] w (NumsP w (indexL L)) := by
  obtain ⟨i0, hi0, hz0, hz1, hz2⟩ := info_parts intInfo
  obtain ⟨mk, hmk⟩ : ∃ mk, (n + 7) / 8 = mk := ⟨_, rfl⟩
  have HN := Lib.hid hn
  have HMK := Lib.hid hmk
  have hm8 : mk ≤ 8 := by omega
  have hmarks := marks_is n mk h hn hl hmk
  have HMARKS := Lib.hid hmarks
  have HLEN : Hid ((indexL L).length = mk) := Lib.hid (by rw [index_len, hn, hmk])
  clear hn hmk hmarks
  go_enter Try.func59, Try.ntmps59
  go_wp2_with (go_at_call 81; refine HMARKS.out.mono ?_; rintro e w' ⟨rfl, rfl⟩)
  go_loopw [3, 7] (fun v i wr => ∃ (k : Nat), k ≤ mk ∧ i = .int .i64 k ∧ Hid (wr.ownsRow w.heap.size 3 1 v k (rowI ((indexL L).take k))) ∧ Below w.heap.size w wr) (fun _ i _ => mk - (intOf i).toNat)
  case atStart => exact ⟨0, by omega, rfl, Lib.hid (World.ownsRow_nil _ _ _ _), Below.refl _ _⟩
  case round =>
    obtain ⟨k, hk, rfl, hown, hbel⟩ := hrel
    by_cases hlt : k < mk
    · have hseg := h.out.below hbel
      have c2 := hseg.c2
      rw [HN.out] at c2
      have hmk := HMK.out
      obtain ⟨b, rfl, hb, hcells⟩ := hseg.reads (by rw [HN.out]; omega)
      obtain ⟨⟨o, r⟩, hf⟩ : ∃ s, L[k * 8]? = some s := ⟨_, List.getElem?_eq_getElem (by rw [HN.out]; omega)⟩
      have d0 := (hcells _ _ hf).1
      have htk := index_take (by rw [HN.out]; omega) hf
      have HTK := Lib.hid htk
      have k0 : (0 : Int) ≤ (k : Int) * 8 := by omega
      have k1 : (k : Int) * 8 < (n : Int) := by omega
      dsimp only at d0
      clear hcells hf hseg htk hmk
      go_wp2_with (at_builtin; refine wpList_append_own _ rfl _ _ 31 (by rfl) w.heap.size 3 i0 _ 1 8 Try.underlying31 hi0 hz0 hz1 hz2 rfl (by omega) _ k (rowI ((indexL L).take k)) (by rfl) (hown.out.alloc _) ⟨wr.heap.size, 0, none⟩ 1 1 [.int .i64 o] (by rfl) (by rfl) (World.news_of_block (cs := #[.int .i64 o]) (t := 3) (fr := (0, 0)) (heap_alloc_new wr _)) (by simp [Value.oneCell']) (by unfold maxLen; omega) (by omega) (by simp; exact Nat.le_succ_of_le hbel.size) ?_; intro v1 w1 hown1 hgrow1 hnil1)
      go_roundw
      case rel =>
        refine ⟨k + 1, by omega, by go_num, Lib.hid ?_, (hbel.alloc hbel.size _).grown hgrow1 (by simp; exact Nat.le_succ_of_le hbel.size) (fun j e => (hown.out.lt j e).1)⟩
        rw [HTK.out]
        have : rowI (List.take k (indexL L) ++ [o]) = rowI (List.take k (indexL L)) ++ [Value.int .i64 o] := by simp [rowI]
        rw [this]
        exact hown1
      case measure => simp [intOf]; omega
    · obtain rfl : k = mk := by omega
      have ho := hown.out
      rw [List.take_of_length_le (by rw [HLEN.out]; omega)] at ho
      obtain ⟨A1, c1, rfl⟩ := own_form ho
      go_wp2_with fail
      go_ret
      have e := HLEN.out
      refine ⟨A1, c1, by rw [e]; rfl, ?_, hbel⟩
      rw [e]; exact ho
end Go.Proofs.Ytpagoeoilkbmjaa.L5
