/-
  Numbers one behind the other: what stands in their bytes, and the walk of the law over them.
-/
import Derived.WalkKit
import Derived.Below
import Derived.LoopTactic
import Derived.Test.YtngdbjapiiijgaaFixed
import Derived.Test.YtngdbjapiiijgaaMath2
namespace Go.Proofs.Ytngdbjapiiijgaa
open Go.RowKit

/-- the bytes of numbers, one behind the other -/
def flat (l : List Int) : List Nat := l.flatMap fun z => V.puts z.toNat

theorem flat_next (zs : List Int) (k : Nat) (z : Int) (h : zs[k]? = some z) : flat (zs.take (k + 1)) = flat (zs.take k) ++ V.puts z.toNat := by
  unfold flat
  rw [List.take_add_one, h]
  simp
theorem flat_parts (zs : List Int) (k K : Nat) (z : Int) (h : zs[k]? = some z) (hk : k < K) : ∃ r, flat (zs.take K) = flat (zs.take k) ++ (V.puts z.toNat ++ r) := by
  obtain ⟨d, rfl⟩ : ∃ d, K = (k + 1) + d := ⟨K - (k + 1), by omega⟩
  refine ⟨flat ((zs.drop (k + 1)).take d), ?_⟩
  rw [List.take_add]
  unfold flat
  rw [List.flatMap_append, ← List.append_assoc]
  congr 1
  exact flat_next zs k z h
theorem flat_len (zs : List Int) (hz : ∀ n ∈ zs, 0 ≤ n ∧ n ≤ 18446744073709551615) : ∀ k, (flat (zs.take k)).length ≤ 10 * k := by
  intro k
  induction k with
  | zero => simp [flat]
  | succ k ih =>
    cases h : zs[k]? with
    | none =>
      have hl : zs.length ≤ k := List.getElem?_eq_none_iff.1 h
      rw [List.take_of_length_le (by omega)]
      rw [List.take_of_length_le hl] at ih
      omega
    | some z =>
      rw [flat_next zs k z h, List.length_append]
      have hm := hz z (List.mem_of_getElem? h)
      have := V.puts_len z.toNat (by omega)
      omega

theorem put_next (n : Int) (p : ByteArray) (w : World) (h0 : 0 ≤ n) (h1 : n ≤ 18446744073709551615) (h : Hid (V.put n.toNat = p)) :
    Calls Try.prog 11 #[.int .u64 n] w fun e w' => e = .returned (.string p) ∧ Below w.heap.size w w' := by
  have k := put_any n w h0 h1
  rw [h.out] at k
  exact k

theorem get_next (s : ByteArray) (n : Int) (l r : List Nat) (at_ to : Int) (w : World) (h0 : 0 ≤ n) (h1 : n ≤ 18446744073709551615) (hs : s.size ≤ 1000) (h : Hid (V.nats s = l ++ (V.puts n.toNat ++ r))) (ha : Hid (at_ = l.length)) (ht : Hid (to = (l.length : Int) + (V.puts n.toNat).length)) :
    Calls Try.prog 19 #[.string s, .int .i64 at_] w fun e w' => e = .returned (.tuple #[.int .u64 n, .int .i64 to, .int .i64 0]) ∧ w = w' := by
  have k := V.get_at (by omega) h.out
  have r := get_is _ _ w (by unfold maxLen; omega) _ _ _ (Lib.hid k)
  rw [show ((n.toNat : Nat) : Int) = n by omega, ← ht.out, ← ha.out] at r
  exact r
theorem get_none (s : ByteArray) (at_ : Int) (w : World) (hs : s.size ≤ 1000) (ha : Hid (at_ = (s.size : Int))) :
    Calls Try.prog 19 #[.string s, .int .i64 at_] w fun e w' => e = .returned (.tuple #[.int .u64 0, .int .i64 0, .int .i64 10]) ∧ w = w' := by
  refine get_is _ _ w (by unfold maxLen; omega) 0 0 10 (Lib.hid ?_)
  rw [ha.out]
  unfold V.get
  rw [if_neg (by omega), Int.toNat_natCast, List.drop_of_length_le (by rw [V.nats_len]; exact Nat.le_refl _)]
  rfl

set_option maxRecDepth 100000 in
set_option maxHeartbeats 2000000 in
theorem rows_none (a : Option Addr) (cap : Nat) (w : World) :
    Calls Try.prog 9 #[.slice a 0 cap] w fun e w' => e = .returned (.bool true) ∧ Below w.heap.size w w' := by
  have hB := Below.refl w.heap.size w
  go_enter Try.func9, Try.ntmps9
  go_wp2_with fail
  go_loop [3, 4] (fun s i => i = .int .i64 0 ∧ s = .string ⟨#[]⟩) (fun _ _ => 0)
  case atStart => exact ⟨rfl, rfl⟩
  case round =>
    obtain ⟨rfl, rfl⟩ := hrel
    go_wp2_with fail
    go_loop [5, 6] (fun p i => i = .int .i64 0 ∧ p = .int .i64 0) (fun _ _ => 0)
    case atStart => exact ⟨rfl, rfl⟩
    case round =>
      obtain ⟨rfl, rfl⟩ := hrel
      go_wp2_with (first
        | (go_at_call 19; refine (get_none _ _ _ (by decide) rfl).mono ?_; rintro e w' ⟨rfl, rfl⟩)
        | (go_at_call 18; refine (fixed_any _).mono ?_; rintro e w' ⟨rfl, hb⟩; replace hB := acc hB hb; clear hb))
      go_ret
      exact ⟨rfl, hB⟩

set_option maxRecDepth 100000 in
set_option maxHeartbeats 4000000 in
theorem rows_some (b off len cap : Nat) (zs : List Int) (w : World) (K : Nat) (hlen : len ≤ cap) (hz : zs.length = cap)
    (hcell : ∀ i, i < zs.length → w.cell? ⟨b, off + i, none⟩ = some (.int .u64 (zs.getD i 0))) (hwz : ∀ n ∈ zs, 0 ≤ n ∧ n ≤ 18446744073709551615) (hb : b < w.heap.size)
    (hK1 : K ≤ len) (hK2 : K ≤ 60) (hK3 : len ≤ K ∨ (60 ≤ K ∧ K < len)) :
    Calls Try.prog 9 #[.slice (some ⟨b, off, none⟩) len cap] w fun e w' => e = .returned (.bool true) ∧ Below w.heap.size w w' := by
  have HC := Lib.hid hcell
  have HZ := Lib.hid hwz
  have HL := Lib.hid hz
  have HFL := Lib.hid (flat_len zs hwz)
  clear hcell hwz hz
  go_enter Try.func9, Try.ntmps9
  go_wp2_with fail
  go_loopw [3, 4] (fun s i wr => ∃ (k : Nat) (S : ByteArray), k ≤ K ∧ i = .int .i64 k ∧ s = .string S ∧ Hid (V.nats S = flat (zs.take k)) ∧ Below w.heap.size w wr) (fun _ i _ => K - (intOf i).toNat)
  case atStart => exact ⟨0, ⟨#[]⟩, Nat.zero_le _, rfl, rfl, rfl, Below.refl _ _⟩
  case round =>
    obtain ⟨k, S, hk, rfl, rfl, hS, hB⟩ := hrel
    have s1 : S.size ≤ 600 := by have h1 := V.nats_len S; rw [hS.out] at h1; have := HFL.out k; omega
    by_cases hlt : k < K
    · obtain ⟨z, hzk⟩ : ∃ z, zs[k]? = some z := ⟨_, List.getElem?_eq_getElem (by rw [HL.out]; omega)⟩
      have hzd : zs.getD k 0 = z := by simp [List.getD, hzk]
      obtain ⟨z0, z1⟩ := HZ.out z (List.mem_of_getElem? hzk)
      have hc : wr.cell? ⟨b, off + k, none⟩ = some (.int .u64 z) := by
        rw [hB.cell (p := ⟨b, off + k, none⟩) hb, HC.out k (by rw [HL.out]; omega), hzd]
      obtain ⟨p, hp⟩ : ∃ p, V.put z.toNat = p := ⟨_, rfl⟩
      have p1 : p.size ≤ 10 := by rw [← hp, V.put_size]; exact V.puts_len _ (by omega)
      have HP := Lib.hid hp
      have HZK := Lib.hid hzk
      have Z0 := Lib.hid z0
      have Z1 := Lib.hid z1
      clear hp hzk hzd z0 z1 hK3
      go_wp2_with (go_at_call 11; refine (put_next _ _ _ Z0.out Z1.out HP).mono ?_; rintro e w' ⟨rfl, hb1⟩; replace hB := acc hB hb1; clear hb1)
      go_roundw
      case rel => exact ⟨k + 1, S ++ p, by omega, by go_num, rfl, by show V.nats _ = _; rw [V.nats_append, hS.out, ← HP.out, V.nats_put, flat_next zs k z HZK.out], hB⟩
      case measure => simp [intOf]; omega
    · obtain rfl : k = K := by omega
      clear hlt
      rcases hK3 with q1 | ⟨q1, q2⟩
      all_goals
        go_wp2_with fail
        go_loop [5, 6] (fun p i => ∃ (j : Nat) (v : Int), j ≤ k ∧ i = .int .i64 j ∧ p = .int .i64 v ∧ Hid (v = ((flat (zs.take j)).length : Int))) (fun _ i => k - (intOf i).toNat)
        case atStart => exact ⟨0, 0, Nat.zero_le _, rfl, rfl, rfl⟩
        case round =>
          obtain ⟨j, v, hj, rfl, rfl, hv⟩ := hrel
          by_cases hlt : j < k
          · obtain ⟨z, hzk⟩ : ∃ z, zs[j]? = some z := ⟨_, List.getElem?_eq_getElem (by rw [HL.out]; omega)⟩
            have hzd : zs.getD j 0 = z := by simp [List.getD, hzk]
            obtain ⟨z0, z1⟩ := HZ.out z (List.mem_of_getElem? hzk)
            have hc : wr.cell? ⟨b, off + j, none⟩ = some (.int .u64 z) := by
              rw [hB.cell (p := ⟨b, off + j, none⟩) hb, HC.out j (by rw [HL.out]; omega), hzd]
            obtain ⟨r, hr⟩ := flat_parts zs j k z hzk hlt
            have HN : Hid (V.nats S = flat (zs.take j) ++ (V.puts z.toNat ++ r)) := by rw [hS.out]; exact hr
            have hp := V.puts_pos z.toNat
            obtain ⟨to, hto⟩ : ∃ to : Int, to = ((flat (zs.take j)).length : Int) + (V.puts z.toNat).length := ⟨_, rfl⟩
            have hvt : v < to := by rw [hto, hv.out]; omega
            have HT := Lib.hid hto
            have HZK := Lib.hid hzk
            have Z0 := Lib.hid z0
            have Z1 := Lib.hid z1
            clear hzk hzd z0 z1 hr hp hto
            go_wp2_with (go_at_call 19; refine (get_next _ _ _ _ _ _ _ Z0.out Z1.out (by omega) HN hv HT).mono ?_; rintro e w' ⟨rfl, rfl⟩)
            go_round
            case rel => exact ⟨j + 1, to, by omega, by go_num, rfl, by show to = _; rw [HT.out, flat_next zs j z HZK.out, List.length_append]; simp⟩
            case measure => simp [intOf]; omega
          · obtain rfl : j = k := by omega
            have hve : Hid (v = (S.size : Int)) := by show v = _; rw [hv.out, ← hS.out, V.nats_len]
            have hve2 : (v == (S.size : Int)) = true := by simpa using hve.out
            clear hlt
            go_wp2_with (first
              | (go_at_call 19; refine (get_none _ _ _ (by omega) hve).mono ?_; rintro e w' ⟨rfl, rfl⟩)
              | (go_at_call 18; refine (fixed_any _).mono ?_; rintro e w' ⟨rfl, hb1⟩; replace hB := acc hB hb1; clear hb1))
            go_ret
            exact ⟨rfl, hB⟩
end Go.Proofs.Ytngdbjapiiijgaa
