/-
  Any text (cut at 300 bytes), split by a size from 5 to 260, taken in any order, some of it twice, through bytes, is whole and the same when all its chunks were taken, and not before; as many are missing as were not taken. No condition.
-/
import Derived.Test.YtlemcijgjebekaaRows
import Derived.WalkKit
import Derived.ProofKit
import Derived.OpenShut
import Derived.ShutString
import Derived.ChangeOld
import Derived.Below
import Derived.Test.YtlemcijgjebekaaMChWh
import Derived.Test.YtlemcijgjebekaaChOpen
import Derived.Deep.RegionHeld3
namespace Go.Proofs.Ytlemcijgjebekaa.chunksWhole
open Go.ChangeShapes Go.WideShapes Go.ChangeAt Go.RowKit Go.Deep
open Go.ChangeMaps (open_string shut_string)
open L3 L4 L5 L7

theorem own : ownKnob Try.prog.godebug = none := by kernel_rfl
theorem laidOut : laidOutB Try.prog = true := by kernel_rfl

theorem mask_le (m : Nat) (hm : m < 9223372036854775808) (x : Int) : 0 ≤ bits .and .i64 x (m : Int) ∧ bits .and .i64 x (m : Int) ≤ m := by
  have e : (BitVec.ofInt 64 x &&& BitVec.ofInt 64 (m : Int)).toNat ≤ m := by
    rw [BitVec.toNat_and]
    refine Nat.le_trans Nat.and_le_right ?_
    rw [BitVec.ofInt_natCast, BitVec.toNat_ofNat, Nat.mod_eq_of_lt (by omega)]
    exact Nat.le_refl _
  show 0 ≤ IntKind.i64.wrap ((BitVec.ofInt 64 x &&& BitVec.ofInt 64 (m : Int)).toNat : Int) ∧ IntKind.i64.wrap ((BitVec.ofInt 64 x &&& BitVec.ofInt 64 (m : Int)).toNat : Int) ≤ m
  rw [IntWalk.i64_in _ (by omega)]
  omega

def Al (s : ByteArray) (k n d : Nat) (f : Nat → ByteArray) : Prop := ∀ i, i < n → (splitL s k)[i]? = some ⟨i, n, d, f i⟩
def Ri (n d : Nat) (f : Nat → ByteArray) : Prop := ∀ i : Nat, i < n → right ⟨i, n, d, f i⟩ = true
theorem keepr {w w' : World} {k : Nat} {o : Obj} (h : w.heap[k]? = some o) (b : Below w.heap.size w w') : w'.heap[k]? = some o := (b.block _ (Array.getElem?_eq_some_iff.1 h).1).trans h

set_option maxRecDepth 100000 in
set_option maxHeartbeats 8000000 in
theorem walk (w : World) (a0 : ByteArray) (w0 : a0.size ≤ maxLen) (a1 : Int) (_w1 : (Lit.int .i64 a1).wf = true) (A2 : Option Addr) (l2 : List Int) (c2 : Nat) (R2 : IsNums w A2 l2 ∧ l2.length ≤ c2) (Z2 : l2.length ≤ 17592186044416) :
    Calls Try.prog 11 #[.string a0, .int .i64 a1, .slice A2 l2.length c2] w fun e w' => e = .returned (.bool true) ∧ Below w.heap.size w w' := by
  unfold maxLen at w0
  obtain ⟨i0, hi0, hz0, hz1, hz2⟩ := info_parts boolInfo
  obtain ⟨s, h3⟩ : ∃ s, a0.extract 0 (min (a0.size : Int) 300).toNat = s := ⟨_, rfl⟩
  have hs : s.size ≤ 300 := by rw [← h3, ByteArray.size_extract]; omega
  obtain ⟨y0, y1⟩ := mask_le 255 (by decide) a1
  obtain ⟨y, hy⟩ : ∃ y : Nat, bits .and .i64 a1 255 = (y : Int) := ⟨(bits .and .i64 a1 255).toNat, by have : ((255 : Nat) : Int) = 255 := rfl; rw [this] at y0; omega⟩
  have y2 : y ≤ 255 := by have : ((255 : Nat) : Int) = 255 := rfl; rw [this] at y1; omega
  obtain ⟨k, hk⟩ : ∃ k : Nat, (5 : Int) + (y : Int) = (k : Int) := ⟨5 + y, by omega⟩
  have k1 : 1 ≤ k := by omega
  have k2 : k ≤ 260 := by omega
  obtain ⟨n, hn⟩ : ∃ n, nCh s k = n := ⟨_, rfl⟩
  have n1 : 1 ≤ n := by rw [← hn]; exact nCh_pos s k
  have n2 : n ≤ 1000 := by rw [← hn]; exact nCh_le1 s k k1 (by omega)
  obtain ⟨d, hd⟩ : ∃ d, digest s = d := ⟨_, rfl⟩
  have HD2 : Hid (d < 18446744073709551616) := Lib.hid (by rw [← hd]; exact digest_lt s)
  obtain ⟨f, hf⟩ : ∃ f, bodyC s k = f := ⟨_, rfl⟩
  have HAL : Hid (Al s k n d f) := Lib.hid (fun i hi => by
    unfold splitL
    rw [hn, List.getElem?_map, List.getElem?_range hi]
    show some (chunkC s k i) = _
    unfold chunkC
    rw [hn, hd, hf])
  have HRI : Hid (Ri n d f) := Lib.hid (fun i hi => by
    have := chunk_right (s := s) (k := k) (i := i) k1 (by omega) (by omega) (by omega)
    unfold chunkC at this
    rw [hn, hd, hf] at this
    exact this)
  have HJS : Hid (join ((List.range n).map f) = s) := Lib.hid (by rw [← hf, ← hn]; exact bodies_all k1)
  obtain ⟨m, hm⟩ : ∃ m, l2.length = m := ⟨_, rfl⟩
  rw [hm] at Z2 ⊢
  have HM := Lib.hid hm
  have HR2 := Lib.hid R2.1
  have HD := Lib.hid hd
  have HN := Lib.hid hn
  have n3 : ((n : Int) == 0) = false := by simp; omega
  clear hn hd hf hm R2 y0 y1
  go_enter Try.func11, Try.ntmps11
  go_wp2_with (first
    | (at_make; refine wpList_make_full _ rfl _ _ 94 rfl w3.heap.size 4 i0 _ 1 Try.underlying94 hi0 hz0 hz1 .i64 .i64 _ _ n rfl rfl rfl rfl (by rw [hz2]; omega) (by unfold maxLen; omega) (Nat.le_refl _) ?_; intro w4 hown4 hgrow4)
    | (go_at_call 50; have _q := hb2; refine (new_any d _).mono ?_; rintro e w3 ⟨g, bm, rfl, hj3, hg3, hm3, hb3⟩; have F3 := Lib.hid (fx_start hl1 hb1 hb2 hb3 hj3 hg3 hm3))
    | (go_at_call 40; have _q := hl1; refine (digest_is s d _ (by omega) HD).mono ?_; rintro e w2 ⟨rfl, hb2⟩)
    | (go_at_call 43; refine (split_ok s k n _ (by omega) k1 (by omega) HN.out (by omega)).mono ?_; rintro e w1 ⟨c, rfl, ho, hb1⟩; obtain ⟨cur, hl1, ht1, hcc⟩ := split_row ho; have HT := Lib.hid ht1; clear ho ht1))
  have HX0 : Hid (WX w w4 w.heap.size g bm w3.heap.size d cur f (List.replicate n false) (List.replicate n false)) := Lib.hid (wx_start hown4 hgrow4 F3.out)
  clear hown4 hgrow4 hj3 hb3 hb2 hb1 hl1 h3 hy hk hg3 hm3
  go_loopw [11] (fun iv wr => ∃ (i : Nat) (h : List Bool), i ≤ 200 ∧ iv = .int .i64 i ∧ Hid (h.length = n) ∧ Hid (WX w wr w.heap.size g bm w3.heap.size d cur f h h) ∧ Hid (0 < i → missN h = leftN h)) (fun iv _ => 200 - (intOf iv).toNat)
  case atStart => exact ⟨0, List.replicate n false, by omega, rfl, Lib.hid (by simp), HX0, Lib.hid (fun h0 => absurd h0 (by simp))⟩
  case round =>
    obtain ⟨i, h, hi, rfl, HHN, HX, HML⟩ := hrel
    have i0' : (0 : Int) ≤ (i : Int) := by omega
    by_cases hgo : i < m + n ∧ i < 200
    · obtain ⟨hg1, hg2⟩ := hgo
      have hg1' : (i : Int) < (m : Int) + (n : Int) := by omega
      have hg2' : (i : Int) < 200 := by omega
      have hg3' : decide ((i : Int) < (m : Int) + (n : Int)) = true := by simpa using hg1'
      by_cases him : i < m
      · have him' : (i : Int) < (m : Int) := by omega
        have hneg : (i : Int) - (m : Int) < 0 := by omega
        have hnge : ¬ (m : Int) ≤ (i : Int) := by omega
        obtain ⟨x, hx⟩ : ∃ x, l2[i]? = some x := ⟨_, List.getElem?_eq_getElem (by rw [HM.out]; exact him)⟩
        obtain ⟨g2, o2, rfl, _, hcell⟩ := ((NumsO.reads HR2.out.1.out).below HX.out.fx.b) (by rw [HM.out]; omega)
        have cx := hcell i x hx
        obtain ⟨z0, z1⟩ := mask_le 65535 (by decide) x
        obtain ⟨z, hz⟩ : ∃ z : Nat, bits .and .i64 x 65535 = (z : Int) := ⟨(bits .and .i64 x 65535).toNat, by have : ((65535 : Nat) : Int) = 65535 := rfl; rw [this] at z0; omega⟩
        have z2 : z ≤ 65535 := by have : ((65535 : Nat) : Int) = 65535 := rfl; rw [this] at z1; omega
        obtain ⟨kk, hkk⟩ : ∃ kk : Nat, (z : Int) % (n : Int) = (kk : Int) := ⟨z % n, by simp⟩
        have HKK : Hid (kk < n) := Lib.hid (by have := Int.emod_lt_of_pos (z : Int) (show (0 : Int) < (n : Int) by omega); omega)
        obtain ⟨bk, hbk⟩ : ∃ bk, h[kk]? = some bk := ⟨_, List.getElem?_eq_getElem (by rw [HHN.out]; exact HKK.out)⟩
        have HBK := Lib.hid hbk
        clear hbk hcell hx z0 z1
        obtain ⟨b, hb⟩ : ∃ b, f kk = b := ⟨_, rfl⟩
        have HAT : Hid ((splitL s k)[kk]? = some ⟨kk, n, d, b⟩) := Lib.hid (by rw [HAL.out kk HKK.out, hb])
        have HRR : Hid (right ⟨kk, n, d, b⟩ = true) := Lib.hid (by have := HRI.out kk HKK.out; rw [hb] at this; exact this)
        obtain ⟨u, hu⟩ : ∃ u, putC ⟨kk, n, d, b⟩ = u := ⟨_, rfl⟩
        have HU := Lib.hid hu
        have HBB := Lib.hid hb
        clear hu hb
        have kk0 : (0 : Int) ≤ (kk : Int) := by omega
        have kk1 : (kk : Int) < (n : Int) := by have := HKK.out; omega
        obtain ⟨q, hq⟩ : ∃ q, decide (leftN h = 0) = q := ⟨_, rfl⟩
        obtain ⟨t, ht⟩ : ∃ t : ByteArray, (if q then s else ⟨#[]⟩) = t := ⟨_, rfl⟩
        obtain ⟨mn, hmn⟩ : ∃ mn, missN h = mn := ⟨_, rfl⟩
        have HQ := Lib.hid hq
        have HTT := Lib.hid ht
        have HMN := Lib.hid hmn
        clear hq ht hmn
        cases q with
        | true =>
          obtain rfl : 0 = mn := by rw [← HMN.out, missN_full (by simpa using HQ.out)]
          go_wp2_with (first
            | (go_at_call 51; have _q := X8; refine (wx_take n kk b (Lib.hid (X8.out.below (one_box _))) HHN.out HKK.out HBB HRR).mono ?_; rintro e w9 ⟨rfl, hx9⟩; have hk9 := hx9.cell HBK.out; have hf9 := hx9.froz kk; have X9 := Lib.hid hx9; clear hx9)
            | (go_at_call 47; have _q := X7; refine (get_k kk n d b u _ HD2.out HRR HU).mono ?_; rintro e w8 ⟨rfl, hb8⟩; have X8 := Lib.hid (X7.out.below hb8))
            | (go_at_call 45; have _q := X6; refine (cput_ok kk n d b u _ HRR HD2.out HU).mono ?_; rintro e w7 ⟨rfl, hb7⟩; have X7 := Lib.hid (X6.out.below hb7))
            | (go_at_call 55; have _q := X5; refine (wx_miss n _ X5 HHN.out (by omega) HMN).mono ?_; rintro e w6 ⟨A6, c6, rfl, hx6⟩; have X6 := Lib.hid hx6; clear hx6; obtain ⟨c0, c1, c2, c3⟩ := wx_four X6.out HT HAT.out; have hk6 := X6.out.cell HBK.out; skip)
            | (go_at_call 54; refine (wx_whole n s t _ HX HHN.out n1 (by omega) HJS (by omega) HD HQ HTT).mono ?_; rintro e w5 ⟨rfl, hx5⟩; have X5 := Lib.hid hx5; clear hx5))
          go_roundw
          case rel => exact ⟨i + 1, h.set kk true, by omega, by go_num, Lib.hid (by rw [List.length_set]; exact HHN.out), Lib.hid (X9.out.store kk true), Lib.hid (fun _ => missN_any (i := kk) (by rw [List.getElem?_set_self (by rw [HHN.out]; exact HKK.out)]))⟩
          case measure => simp [intOf]; omega
        | false =>
          by_cases hm0 : mn = 0
          · obtain rfl : bk = false := by
              have h1 := missN_zero (h := h) (i := kk) (by simpa using HQ.out) (by rw [HMN.out]; exact hm0) (by rw [HHN.out]; exact HKK.out)
              rw [HBK.out] at h1; injection h1
            subst hm0
            go_wp2_with (first
              | (go_at_call 51; have _q := X8; refine (wx_take n kk b (Lib.hid (X8.out.below (one_box _))) HHN.out HKK.out HBB HRR).mono ?_; rintro e w9 ⟨rfl, hx9⟩; have hk9 := hx9.cell HBK.out; have hf9 := hx9.froz kk; have X9 := Lib.hid hx9; clear hx9)
              | (go_at_call 47; have _q := X7; refine (get_k kk n d b u _ HD2.out HRR HU).mono ?_; rintro e w8 ⟨rfl, hb8⟩; have X8 := Lib.hid (X7.out.below hb8))
              | (go_at_call 45; have _q := X6; refine (cput_ok kk n d b u _ HRR HD2.out HU).mono ?_; rintro e w7 ⟨rfl, hb7⟩; have X7 := Lib.hid (X6.out.below hb7))
              | (go_at_call 55; have _q := X5; refine (wx_miss n _ X5 HHN.out (by omega) HMN).mono ?_; rintro e w6 ⟨A6, c6, rfl, hx6⟩; have X6 := Lib.hid hx6; clear hx6; obtain ⟨c0, c1, c2, c3⟩ := wx_four X6.out HT HAT.out; have hk6 := X6.out.cell HBK.out; skip)
              | (go_at_call 54; refine (wx_whole n s t _ HX HHN.out n1 (by omega) HJS (by omega) HD HQ HTT).mono ?_; rintro e w5 ⟨rfl, hx5⟩; have X5 := Lib.hid hx5; clear hx5))
            go_roundw
            case rel => exact ⟨i + 1, h.set kk true, by omega, by go_num, Lib.hid (by rw [List.length_set]; exact HHN.out), Lib.hid (X9.out.store kk true), Lib.hid (fun _ => missN_any (i := kk) (by rw [List.getElem?_set_self (by rw [HHN.out]; exact HKK.out)]))⟩
            case measure => simp [intOf]; omega
          · have hm1 : ((mn : Int) == 0) = false := by simp; omega
            clear hm0
            go_wp2_with (first
              | (go_at_call 51; have _q := X8; refine (wx_take n kk b (Lib.hid (X8.out.below (one_box _))) HHN.out HKK.out HBB HRR).mono ?_; rintro e w9 ⟨rfl, hx9⟩; have hk9 := hx9.cell HBK.out; have hf9 := hx9.froz kk; have X9 := Lib.hid hx9; clear hx9)
              | (go_at_call 47; have _q := X7; refine (get_k kk n d b u _ HD2.out HRR HU).mono ?_; rintro e w8 ⟨rfl, hb8⟩; have X8 := Lib.hid (X7.out.below hb8))
              | (go_at_call 45; have _q := X6; refine (cput_ok kk n d b u _ HRR HD2.out HU).mono ?_; rintro e w7 ⟨rfl, hb7⟩; have X7 := Lib.hid (X6.out.below hb7))
              | (go_at_call 55; have _q := X5; refine (wx_miss n _ X5 HHN.out (by omega) HMN).mono ?_; rintro e w6 ⟨A6, c6, rfl, hx6⟩; have X6 := Lib.hid hx6; clear hx6; obtain ⟨c0, c1, c2, c3⟩ := wx_four X6.out HT HAT.out; have hk6 := X6.out.cell HBK.out; skip)
              | (go_at_call 54; refine (wx_whole n s t _ HX HHN.out n1 (by omega) HJS (by omega) HD HQ HTT).mono ?_; rintro e w5 ⟨rfl, hx5⟩; have X5 := Lib.hid hx5; clear hx5))
            go_roundw
            case rel => exact ⟨i + 1, h.set kk true, by omega, by go_num, Lib.hid (by rw [List.length_set]; exact HHN.out), Lib.hid (X9.out.store kk true), Lib.hid (fun _ => missN_any (i := kk) (by rw [List.getElem?_set_self (by rw [HHN.out]; exact HKK.out)]))⟩
            case measure => simp [intOf]; omega
      · have him' : ¬ (i : Int) < (m : Int) := by omega
        have hge : (m : Int) ≤ (i : Int) := by omega
        obtain ⟨kk, hkk⟩ : ∃ kk : Nat, (i : Int) - (m : Int) = (kk : Int) := ⟨i - m, by omega⟩
        have HKK : Hid (kk < n) := Lib.hid (by omega)
        obtain ⟨bk, hbk⟩ : ∃ bk, h[kk]? = some bk := ⟨_, List.getElem?_eq_getElem (by rw [HHN.out]; exact HKK.out)⟩
        have HBK := Lib.hid hbk
        have hk0 := HX.out.cell hbk
        clear hbk
        cases bk with
        | true =>
          have kk0 : (0 : Int) ≤ (kk : Int) := by omega
          have kk1 : (kk : Int) < (n : Int) := by have := HKK.out; omega
          go_wp2_with fail
          go_roundw
          case rel => exact ⟨i + 1, h, by omega, by go_num, HHN, HX, Lib.hid (fun _ => missN_any HBK.out)⟩
          case measure => simp [intOf]; omega
        | false =>
          obtain ⟨b, hb⟩ : ∃ b, f kk = b := ⟨_, rfl⟩
          have HAT : Hid ((splitL s k)[kk]? = some ⟨kk, n, d, b⟩) := Lib.hid (by rw [HAL.out kk HKK.out, hb])
          have HRR : Hid (right ⟨kk, n, d, b⟩ = true) := Lib.hid (by have := HRI.out kk HKK.out; rw [hb] at this; exact this)
          obtain ⟨u, hu⟩ : ∃ u, putC ⟨kk, n, d, b⟩ = u := ⟨_, rfl⟩
          have HU := Lib.hid hu
          have HBB := Lib.hid hb
          clear hu hb
          have kk0 : (0 : Int) ≤ (kk : Int) := by omega
          have kk1 : (kk : Int) < (n : Int) := by have := HKK.out; omega
          obtain ⟨q, hq⟩ : ∃ q, decide (leftN h = 0) = q := ⟨_, rfl⟩
          obtain ⟨t, ht⟩ : ∃ t : ByteArray, (if q then s else ⟨#[]⟩) = t := ⟨_, rfl⟩
          obtain ⟨mn, hmn⟩ : ∃ mn, missN h = mn := ⟨_, rfl⟩
          have HQ := Lib.hid hq
          have HTT := Lib.hid ht
          have HMN := Lib.hid hmn
          clear hq ht hmn
          cases q with
          | true =>
            obtain rfl : 0 = mn := by rw [← HMN.out, missN_full (by simpa using HQ.out)]
            go_wp2_with (first
              | (go_at_call 51; have _q := X8; refine (wx_take n kk b (Lib.hid (X8.out.below (one_box _))) HHN.out HKK.out HBB HRR).mono ?_; rintro e w9 ⟨rfl, hx9⟩; have hk9 := hx9.cell HBK.out; have hf9 := hx9.froz kk; have X9 := Lib.hid hx9; clear hx9)
              | (go_at_call 47; have _q := X7; refine (get_k kk n d b u _ HD2.out HRR HU).mono ?_; rintro e w8 ⟨rfl, hb8⟩; have X8 := Lib.hid (X7.out.below hb8))
              | (go_at_call 45; have _q := X6; refine (cput_ok kk n d b u _ HRR HD2.out HU).mono ?_; rintro e w7 ⟨rfl, hb7⟩; have X7 := Lib.hid (X6.out.below hb7))
              | (go_at_call 55; have _q := X5; refine (wx_miss n _ X5 HHN.out (by omega) HMN).mono ?_; rintro e w6 ⟨A6, c6, rfl, hx6⟩; have X6 := Lib.hid hx6; clear hx6; obtain ⟨c0, c1, c2, c3⟩ := wx_four X6.out HT HAT.out; have hk6 := X6.out.cell HBK.out; skip)
              | (go_at_call 54; refine (wx_whole n s t _ HX HHN.out n1 (by omega) HJS (by omega) HD HQ HTT).mono ?_; rintro e w5 ⟨rfl, hx5⟩; have X5 := Lib.hid hx5; clear hx5))
            go_roundw
            case rel => exact ⟨i + 1, h.set kk true, by omega, by go_num, Lib.hid (by rw [List.length_set]; exact HHN.out), Lib.hid (X9.out.store kk true), Lib.hid (fun _ => missN_any (i := kk) (by rw [List.getElem?_set_self (by rw [HHN.out]; exact HKK.out)]))⟩
            case measure => simp [intOf]; omega
          | false =>
            by_cases hm0 : mn = 0
            · subst hm0
              go_wp2_with (first
                | (go_at_call 51; have _q := X8; refine (wx_take n kk b (Lib.hid (X8.out.below (one_box _))) HHN.out HKK.out HBB HRR).mono ?_; rintro e w9 ⟨rfl, hx9⟩; have hk9 := hx9.cell HBK.out; have hf9 := hx9.froz kk; have X9 := Lib.hid hx9; clear hx9)
                | (go_at_call 47; have _q := X7; refine (get_k kk n d b u _ HD2.out HRR HU).mono ?_; rintro e w8 ⟨rfl, hb8⟩; have X8 := Lib.hid (X7.out.below hb8))
                | (go_at_call 45; have _q := X6; refine (cput_ok kk n d b u _ HRR HD2.out HU).mono ?_; rintro e w7 ⟨rfl, hb7⟩; have X7 := Lib.hid (X6.out.below hb7))
                | (go_at_call 55; have _q := X5; refine (wx_miss n _ X5 HHN.out (by omega) HMN).mono ?_; rintro e w6 ⟨A6, c6, rfl, hx6⟩; have X6 := Lib.hid hx6; clear hx6; obtain ⟨c0, c1, c2, c3⟩ := wx_four X6.out HT HAT.out; have hk6 := X6.out.cell HBK.out; skip)
                | (go_at_call 54; refine (wx_whole n s t _ HX HHN.out n1 (by omega) HJS (by omega) HD HQ HTT).mono ?_; rintro e w5 ⟨rfl, hx5⟩; have X5 := Lib.hid hx5; clear hx5))
              go_roundw
              case rel => exact ⟨i + 1, h.set kk true, by omega, by go_num, Lib.hid (by rw [List.length_set]; exact HHN.out), Lib.hid (X9.out.store kk true), Lib.hid (fun _ => missN_any (i := kk) (by rw [List.getElem?_set_self (by rw [HHN.out]; exact HKK.out)]))⟩
              case measure => simp [intOf]; omega
            · have hm1 : ((mn : Int) == 0) = false := by simp; omega
              clear hm0
              go_wp2_with (first
                | (go_at_call 51; have _q := X8; refine (wx_take n kk b (Lib.hid (X8.out.below (one_box _))) HHN.out HKK.out HBB HRR).mono ?_; rintro e w9 ⟨rfl, hx9⟩; have hk9 := hx9.cell HBK.out; have hf9 := hx9.froz kk; have X9 := Lib.hid hx9; clear hx9)
                | (go_at_call 47; have _q := X7; refine (get_k kk n d b u _ HD2.out HRR HU).mono ?_; rintro e w8 ⟨rfl, hb8⟩; have X8 := Lib.hid (X7.out.below hb8))
                | (go_at_call 45; have _q := X6; refine (cput_ok kk n d b u _ HRR HD2.out HU).mono ?_; rintro e w7 ⟨rfl, hb7⟩; have X7 := Lib.hid (X6.out.below hb7))
                | (go_at_call 55; have _q := X5; refine (wx_miss n _ X5 HHN.out (by omega) HMN).mono ?_; rintro e w6 ⟨A6, c6, rfl, hx6⟩; have X6 := Lib.hid hx6; clear hx6; obtain ⟨c0, c1, c2, c3⟩ := wx_four X6.out HT HAT.out; have hk6 := X6.out.cell HBK.out; skip)
                | (go_at_call 54; refine (wx_whole n s t _ HX HHN.out n1 (by omega) HJS (by omega) HD HQ HTT).mono ?_; rintro e w5 ⟨rfl, hx5⟩; have X5 := Lib.hid hx5; clear hx5))
              go_roundw
              case rel => exact ⟨i + 1, h.set kk true, by omega, by go_num, Lib.hid (by rw [List.length_set]; exact HHN.out), Lib.hid (X9.out.store kk true), Lib.hid (fun _ => missN_any (i := kk) (by rw [List.getElem?_set_self (by rw [HHN.out]; exact HKK.out)]))⟩
              case measure => simp [intOf]; omega
    · have hi0 : 0 < i := by omega
      have HML2 : Hid (missN h = leftN h) := Lib.hid (HML.out hi0)
      by_cases hb : i < m + n
      · have hb1 : (i : Int) < (m : Int) + (n : Int) := by omega
        have hb2 : ¬ (i : Int) < 200 := by omega
        have hb3 : decide ((i : Int) < (m : Int) + (n : Int)) = true := by simpa using hb1
        clear hgo hb hi0
        go_wp2_with fail
        go_loop [19, 20] (fun lv jv => ∃ j x : Nat, j ≤ n ∧ x ≤ j ∧ jv = .int .i64 j ∧ lv = .int .i64 x ∧ Hid (leftN (h.take j) = x)) (fun _ jv => n - (intOf jv).toNat)
        case atStart => exact ⟨0, 0, by omega, by omega, rfl, rfl, Lib.hid rfl⟩
        case round =>
          obtain ⟨j, x, hj, hxj, rfl, rfl, HLX⟩ := hrel
          have j0 : (0 : Int) ≤ (j : Int) := by omega
          by_cases hjn : j < n
          · have hjn' : (j : Int) < (n : Int) := by omega
            obtain ⟨bj, hbj⟩ : ∃ bj, h[j]? = some bj := ⟨_, List.getElem?_eq_getElem (by rw [HHN.out]; exact hjn)⟩
            have cj := HX.out.cell hbj
            have hlt := left_take hbj
            rw [HLX.out] at hlt
            have HLT := Lib.hid hlt
            clear hlt hbj
            cases bj with
            | true =>
              go_wp2_with fail
              go_round
              case rel => exact ⟨j + 1, x, by omega, by omega, by go_num, rfl, Lib.hid HLT.out⟩
              case measure => simp [intOf]; omega
            | false =>
              go_wp2_with fail
              go_round
              case rel => exact ⟨j + 1, x + 1, by omega, by omega, by go_num, by go_num, Lib.hid HLT.out⟩
              case measure => simp [intOf]; omega
          · have hjn' : ¬ (j : Int) < (n : Int) := by omega
            have hlx : leftN h = x := by rw [← HLX.out, List.take_of_length_le (by rw [HHN.out]; omega)]
            have HLH := Lib.hid hlx
            have HMX : Hid (missN h = x) := Lib.hid (HML2.out.trans hlx)
            clear hlx
            by_cases hx0 : x = 0
            · have hx1 : ((x : Int) == 0) = true := by simpa using hx0
              have HQ : Hid (decide (leftN h = 0) = true) := Lib.hid (by rw [HLH.out]; simpa using hx0)
              have HTT : Hid ((if true then s else ⟨#[]⟩) = s) := Lib.hid rfl
              clear hx0
              go_wp2_with (first
                | (go_at_call 42; have _q := X6; refine (fixed7_any _).mono ?_; rintro e w7 ⟨rfl, hb7⟩)
                | (go_at_call 55; have _q := X5; refine (wx_miss n x X5 HHN.out (by omega) HMX).mono ?_; rintro e w6 ⟨A6, c6, rfl, hx6⟩; have X6 := Lib.hid hx6; clear hx6)
                | (go_at_call 54; refine (wx_whole n s _ _ HX HHN.out n1 (by omega) HJS (by omega) HD HQ HTT).mono ?_; rintro e w5 ⟨rfl, hx5⟩; have X5 := Lib.hid hx5; clear hx5))
              go_ret
              exact ⟨rfl, X6.out.fx.b.trans (hb7.mono X6.out.fx.b.size)⟩
            · have hx1 : ((x : Int) == 0) = false := by simpa using hx0
              have HQ : Hid (decide (leftN h = 0) = false) := Lib.hid (by rw [HLH.out]; simpa using hx0)
              have HTT : Hid ((if false then s else ⟨#[]⟩) = (⟨#[]⟩ : ByteArray)) := Lib.hid rfl
              clear hx0
              go_wp2_with (first
                | (go_at_call 42; have _q := X6; refine (fixed7_any _).mono ?_; rintro e w7 ⟨rfl, hb7⟩)
                | (go_at_call 55; have _q := X5; refine (wx_miss n x X5 HHN.out (by omega) HMX).mono ?_; rintro e w6 ⟨A6, c6, rfl, hx6⟩; have X6 := Lib.hid hx6; clear hx6)
                | (go_at_call 54; refine (wx_whole n s _ _ HX HHN.out n1 (by omega) HJS (by omega) HD HQ HTT).mono ?_; rintro e w5 ⟨rfl, hx5⟩; have X5 := Lib.hid hx5; clear hx5))
              go_ret
              exact ⟨rfl, X6.out.fx.b.trans (hb7.mono X6.out.fx.b.size)⟩
      · have hb1 : ¬ (i : Int) < (m : Int) + (n : Int) := by omega
        have hb3 : decide ((i : Int) < (m : Int) + (n : Int)) = false := by simpa using hb1
        clear hgo hb hi0
        go_wp2_with fail
        go_loop [19, 20] (fun lv jv => ∃ j x : Nat, j ≤ n ∧ x ≤ j ∧ jv = .int .i64 j ∧ lv = .int .i64 x ∧ Hid (leftN (h.take j) = x)) (fun _ jv => n - (intOf jv).toNat)
        case atStart => exact ⟨0, 0, by omega, by omega, rfl, rfl, Lib.hid rfl⟩
        case round =>
          obtain ⟨j, x, hj, hxj, rfl, rfl, HLX⟩ := hrel
          have j0 : (0 : Int) ≤ (j : Int) := by omega
          by_cases hjn : j < n
          · have hjn' : (j : Int) < (n : Int) := by omega
            obtain ⟨bj, hbj⟩ : ∃ bj, h[j]? = some bj := ⟨_, List.getElem?_eq_getElem (by rw [HHN.out]; exact hjn)⟩
            have cj := HX.out.cell hbj
            have hlt := left_take hbj
            rw [HLX.out] at hlt
            have HLT := Lib.hid hlt
            clear hlt hbj
            cases bj with
            | true =>
              go_wp2_with fail
              go_round
              case rel => exact ⟨j + 1, x, by omega, by omega, by go_num, rfl, Lib.hid HLT.out⟩
              case measure => simp [intOf]; omega
            | false =>
              go_wp2_with fail
              go_round
              case rel => exact ⟨j + 1, x + 1, by omega, by omega, by go_num, by go_num, Lib.hid HLT.out⟩
              case measure => simp [intOf]; omega
          · have hjn' : ¬ (j : Int) < (n : Int) := by omega
            have hlx : leftN h = x := by rw [← HLX.out, List.take_of_length_le (by rw [HHN.out]; omega)]
            have HLH := Lib.hid hlx
            have HMX : Hid (missN h = x) := Lib.hid (HML2.out.trans hlx)
            clear hlx
            by_cases hx0 : x = 0
            · have hx1 : ((x : Int) == 0) = true := by simpa using hx0
              have HQ : Hid (decide (leftN h = 0) = true) := Lib.hid (by rw [HLH.out]; simpa using hx0)
              have HTT : Hid ((if true then s else ⟨#[]⟩) = s) := Lib.hid rfl
              clear hx0
              go_wp2_with (first
                | (go_at_call 42; have _q := X6; refine (fixed7_any _).mono ?_; rintro e w7 ⟨rfl, hb7⟩)
                | (go_at_call 55; have _q := X5; refine (wx_miss n x X5 HHN.out (by omega) HMX).mono ?_; rintro e w6 ⟨A6, c6, rfl, hx6⟩; have X6 := Lib.hid hx6; clear hx6)
                | (go_at_call 54; refine (wx_whole n s _ _ HX HHN.out n1 (by omega) HJS (by omega) HD HQ HTT).mono ?_; rintro e w5 ⟨rfl, hx5⟩; have X5 := Lib.hid hx5; clear hx5))
              go_ret
              exact ⟨rfl, X6.out.fx.b.trans (hb7.mono X6.out.fx.b.size)⟩
            · have hx1 : ((x : Int) == 0) = false := by simpa using hx0
              have HQ : Hid (decide (leftN h = 0) = false) := Lib.hid (by rw [HLH.out]; simpa using hx0)
              have HTT : Hid ((if false then s else ⟨#[]⟩) = (⟨#[]⟩ : ByteArray)) := Lib.hid rfl
              clear hx0
              go_wp2_with (first
                | (go_at_call 42; have _q := X6; refine (fixed7_any _).mono ?_; rintro e w7 ⟨rfl, hb7⟩)
                | (go_at_call 55; have _q := X5; refine (wx_miss n x X5 HHN.out (by omega) HMX).mono ?_; rintro e w6 ⟨A6, c6, rfl, hx6⟩; have X6 := Lib.hid hx6; clear hx6)
                | (go_at_call 54; refine (wx_whole n s _ _ HX HHN.out n1 (by omega) HJS (by omega) HD HQ HTT).mono ?_; rintro e w5 ⟨rfl, hx5⟩; have X5 := Lib.hid hx5; clear hx5))
              go_ret
              exact ⟨rfl, X6.out.fx.b.trans (hb7.mono X6.out.fx.b.size)⟩


set_option maxRecDepth 100000 in
set_option maxHeartbeats 1000000 in
theorem lifted (os : Os) (started : os.Started) (H : Type) (enc : TypeId × Value → H) :
    ReturnsInHanded {} Try.checked os 11 .any (Rows.chunksWholeSpec.pre6 enc Try.prog Try.f11 Rows.chunksWholeRow.domain false) (Rows.chunksWholeSpec.post enc Try.prog Try.f11 false true false false) := by
  refine returnsInHanded_of_change_sized (C := Try.checked) own started (by kernel_rfl) Try.func11
    (ChangeSpec.witness6 (enc := enc) (C := Try.checked) false ⟨#[], #[.string ByteArray.empty, .int .i64 0, .slice none 0 0], []⟩ 8 (by kernel_rfl) (by kernel_rfl) (by kernel_rfl) (by kernel_rfl)) ?_
  intro W base args ds gs before hval0 hW _ hsz0 _
  have hval : ∀ (j : Nat) t v, Try.f11.params[j]? = some t → args[j]? = some v → Value.okWide Try.prog W .any base t v := hval0
  have hW' := hW
  obtain ⟨p, q, hA0, hV, rfl, hfz, hnd⟩ := hW
  have hA : DataW.TrodAll enc Try.prog W 0 (fun _ => true) true Try.f11.params.toList args.toList ds p := hA0
  have hsz : (DataW.weightsEach Try.prog (Try.f11.params.toList ++ Rows.chunksWholeSpec.plain.varTypes Try.prog) (ds ++ gs)).all (· ≤ reachBytes) = true := hsz0
  rw [Try.params11] at hA hval hsz
  obtain ⟨v0, vs0, d0, ds0, p0, q0, hargs, rfl, rfl, h0, r0⟩ := trodAll_cons hA
  obtain ⟨v1, vs1, d1, ds1, p1, q1, rfl, rfl, rfl, h1, r1⟩ := trodAll_cons r0
  obtain ⟨v2, vs2, d2, ds2, p2, q2, rfl, rfl, rfl, h2, r2⟩ := trodAll_cons r1
  obtain ⟨rfl, rfl, rfl⟩ := trodAll_nil r2
  obtain rfl : args = #[v0, v1, v2] := by cases args; simp_all
  obtain ⟨rfl, rfl⟩ := trodVars_none hV
  have k0 := h0
  have lt0 : ∀ x ∈ p0, x.block < W.heap.size := by obtain ⟨m, hm⟩ := k0; exact DataW.trod_lt m _ _ _ hm
  have k1 := h1
  have lt1 : ∀ x ∈ p1, x.block < W.heap.size := by obtain ⟨m, hm⟩ := k1; exact DataW.trod_lt m _ _ _ hm
  have k2 := h2
  have lt2 : ∀ x ∈ p2, x.block < W.heap.size := by obtain ⟨m, hm⟩ := k2; exact DataW.trod_lt m _ _ _ hm
  obtain ⟨a0, e0, _, _, w0⟩ := open_string Try.underlying9 (hval 0 9 v0 rfl rfl) h0
  subst e0
  obtain ⟨a1, e1, _, _, w1⟩ := open_int Try.underlying3 (hval 1 3 v1 rfl rfl) h1
  subst e1
  obtain ⟨A2, l2, c2, e2, R2⟩ := L5.open_nums (hval 2 90 v2 rfl rfl) h2
  subst e2
  have Z2 := L7.reach_nums hsz (j := 2) rfl rfl h2
  clear hA0 hval0
  refine (walk W a0 w0 a1 w1 A2 l2 c2 R2 Z2).mono fun e W' ⟨he, bel⟩ => ?_
  subst he
  exact ⟨_, rfl, _, _, _, [], _, [], hW', trodAll_mk1 (shut_bool Try.underlying4 _), (trodAll_cons_mk (Below.trod laidOut (by kernel_rfl) (of_decide_eq_true (by kernel_rfl)) k0 bel lt0) (trodAll_cons_mk (Below.trod laidOut (by kernel_rfl) (of_decide_eq_true (by kernel_rfl)) k1 bel lt1) (trodAll_cons_mk (Below.trod laidOut (by kernel_rfl) (of_decide_eq_true (by kernel_rfl)) k2 bel lt2) trodAll_mk0))), rfl, bel.frame _, fun h => by cases h⟩

theorem over : Rows.chunksWholeRow.holds Try.pinned (OpenSpec.ofChange Rows.chunksWholeSpec) :=
  OpenClaim.holds_of_wide 11 Try.f11 rfl rfl rfl rfl rfl rfl rfl ⟨rfl, rfl, rfl, rfl, rfl⟩ rfl rfl rfl rfl rfl (by kernel_rfl) Try.func11 (by kernel_rfl)
    (of_decide_eq_true (by kernel_rfl)) (by unfold Func.isWrapper; first | (rw [if_pos (by decide +kernel)]; kernel_rfl) | (rw [if_neg (by decide +kernel)]; exact ⟨rfl, rfl⟩))
    (fun os started H enc _ => lifted os started H enc)

/-- the statement -/
theorem proved : Rows.ChunksWholeSaid :=
  over
#print axioms proved
end Go.Proofs.Ytlemcijgjebekaa.chunksWhole
