/-
  The contracts of the document's own sums, frames and cuts.
-/
import Derived.Test.YtlemcijgjebekaaMText
import Derived.Test.YtlemcijgjebekaaMMath
import Derived.Test.YtlemcijgjebekaaCrcSpec
import Derived.Deep.RegionHeld3
import Derived.IntWalk
namespace Go.Proofs.Ytlemcijgjebekaa
open Go.RowKit

set_option maxRecDepth 100000 in
set_option maxHeartbeats 1000000 in
theorem turn_in (A B : Nat) (w : World) (hA : A < 4294967296) (hB : B < 4294967296) (T : Nat) (hT : Hid (A ^^^ B = T)) :
    Calls Try.prog 149 #[.int .u32 A, .int .u32 B] w fun e w' => e = .returned (.int .u32 T) ∧ w = w' := by
  go_enter Try.func149, Try.ntmps149
  go_wp2_with fail
  go_loop [0, 1, 5, 6, 7] (fun x y n p i => ∃ k X Y N Q : Nat, k ≤ 32 ∧ x = .int .u32 X ∧ y = .int .u32 Y ∧ n = .int .u32 N ∧ p = .int .u32 Q ∧ i = .int .i64 k ∧ Hid (X = A / 2 ^ k) ∧ Hid (Y = B / 2 ^ k) ∧ Hid (Q = 2 ^ k % 4294967296) ∧ Hid (N = (A ^^^ B) % 2 ^ k)) (fun _ _ _ _ i => 32 - (intOf i).toNat)
  case atStart => exact ⟨0, A, B, 0, 1, by omega, rfl, rfl, rfl, rfl, rfl, by show A = _; simp, by show B = _; simp, by show 1 = _; simp, by show 0 = _; simp; omega⟩
  case round =>
    obtain ⟨k, X, Y, N, Q, hk, rfl, rfl, rfl, rfl, rfl, hX, hY, hQ, hN⟩ := hrel
    by_cases hlt : k < 32
    · have hp := C.pow_lt k hlt
      have e1 : Q = 2 ^ k := by rw [hQ.out]; exact Nat.mod_eq_of_lt (Nat.lt_of_le_of_lt hp (by decide))
      have e2 : N < Q := by rw [hN.out, e1]; exact Nat.mod_lt _ (Nat.two_pow_pos k)
      have q1 : Q ≤ 2147483648 := by rw [e1]; exact hp
      have q2 : N + Q ≤ 4294967295 := by omega
      have E1 := Lib.hid e1
      clear e1 e2
      have q3 : N ≤ 4294967295 := by omega
      have x1 : X ≤ 4294967295 := by rw [hX.out]; exact Nat.le_trans (Nat.div_le_self _ _) (by omega)
      have y1 : Y ≤ 4294967295 := by rw [hY.out]; exact Nat.le_trans (Nat.div_le_self _ _) (by omega)
      clear hp
      by_cases e : X % 2 = Y % 2
      · have e' : ((X : Int) % 2 != (Y : Int) % 2) = false := by simp; omega
        have E := Lib.hid e
        clear e
        go_wp2_with fail
        go_round
        case rel => exact ⟨k + 1, X / 2, Y / 2, N, Q * 2 % 4294967296, by omega, by go_num, by go_num, rfl, by go_num, by go_num, by show X / 2 = _; rw [hX.out, C.pow_half], by show Y / 2 = _; rw [hY.out, C.pow_half], by show Q * 2 % _ = _; rw [E1.out, Nat.pow_succ], by show N = _; rw [C.turn_next, ← hX.out, ← hY.out, ← hN.out]; have := E.out; rw [show (X % 2 + Y % 2) % 2 = 0 by omega]; rfl⟩
        case measure => simp [intOf]; omega
      · have e' : ((X : Int) % 2 != (Y : Int) % 2) = true := by simp; omega
        have E := Lib.hid e
        clear e
        go_wp2_with fail
        go_round
        case rel => exact ⟨k + 1, X / 2, Y / 2, N + Q, Q * 2 % 4294967296, by omega, by go_num, by go_num, by go_num, by go_num, by go_num, by show X / 2 = _; rw [hX.out, C.pow_half], by show Y / 2 = _; rw [hY.out, C.pow_half], by show Q * 2 % _ = _; rw [E1.out, Nat.pow_succ], by show N + Q = _; rw [C.turn_next, ← hX.out, ← hY.out, ← hN.out]; have := E.out; rw [show (X % 2 + Y % 2) % 2 = 1 by omega, E1.out, Nat.mul_one]⟩
        case measure => simp [intOf]; omega
    · obtain rfl : k = 32 := by omega
      go_wp2_with fail
      go_ret
      exact ⟨ret_int (by rw [hN.out, ← hT.out, Nat.mod_eq_of_lt (Nat.xor_lt_two_pow (n := 32) hA hB)]), rfl⟩
theorem turn_any (a b t : Int) (w : World) (a0 : 0 ≤ a) (a1 : a ≤ 4294967295) (b0 : 0 ≤ b) (b1 : b ≤ 4294967295) (h : Hid ((a.toNat ^^^ b.toNat : Nat) = t)) :
    Calls Try.prog 149 #[.int .u32 a, .int .u32 b] w fun e w' => e = .returned (.int .u32 t) ∧ w = w' := by
  have k := turn_in a.toNat b.toNat w (by omega) (by omega) _ (Lib.hid rfl)
  rw [show ((a.toNat : Nat) : Int) = a by omega, show ((b.toNat : Nat) : Int) = b by omega, h.out] at k
  exact k

set_option maxRecDepth 100000 in
set_option maxHeartbeats 2000000 in
theorem refmore_in (S : Nat) (s : ByteArray) (w : World) (hS : S < 4294967296) (hs : s.size ≤ 281474976710656) (R : Nat) (hR : Hid (C.run (4294967295 - S) (V.nats s) = R)) (hR2 : R < 4294967296) :
    Calls Try.prog 133 #[.int .u32 S, .string s] w fun e w' => e = .returned (.int .u32 ((4294967295 - R : Nat) : Int)) ∧ w = w' := by
  have hS' : (S : Int) ≤ 4294967295 := by omega
  go_enter Try.func133, Try.ntmps133
  go_wp2_with fail
  go_loop [5, 6] (fun c i => ∃ k q : Nat, k ≤ s.size ∧ i = .int .i64 k ∧ c = .int .u32 q ∧ q ≤ 4294967295 ∧ Hid (C.run q ((V.nats s).drop k) = R)) (fun _ i => s.size - (intOf i).toNat)
  case atStart => exact ⟨0, 4294967295 - S, Nat.zero_le _, rfl, by congr 1; omega, by omega, by simpa using hR⟩
  case round =>
    obtain ⟨k, q, hk, rfl, rfl, hq, hrun⟩ := hrel
    by_cases hlt : k < s.size
    · obtain ⟨b, hbv⟩ : ∃ b, s[k].toNat = b := ⟨_, rfl⟩
      have hb2 : b ≤ 255 := by rw [← hbv]; exact Nat.le_of_lt_succ s[k].toNat_lt
      have HD : Hid ((V.nats s).drop k = b :: (V.nats s).drop (k + 1)) := by show _ = _; rw [V.drop_at s k hlt, hbv]
      obtain ⟨d, hd⟩ : ∃ d : Nat, q ^^^ b = d := ⟨_, rfl⟩
      have d1 : d ≤ 4294967295 := by rw [← hd]; exact Nat.le_of_lt_succ (Nat.xor_lt_two_pow (n := 32) (by omega) (by omega))
      have HT : Hid (((((q : Int)).toNat ^^^ ((b : Int)).toNat : Nat) : Int) = (d : Int)) := by show _ = _; rw [Int.toNat_natCast, Int.toNat_natCast, hd]
      have HDD := Lib.hid hd
      clear hd
      go_wp2_with (go_at_call 149; refine (turn_any _ _ _ _ (by omega) (by omega) (by omega) (by omega) HT).mono ?_; rintro e w' ⟨rfl, rfl⟩)
      go_loop [5, 7] (fun c i => ∃ j x : Nat, j ≤ 8 ∧ i = .int .i64 j ∧ c = .int .u32 x ∧ x ≤ 4294967295 ∧ Hid (C.steps (8 - j) x = C.steps 8 d)) (fun _ i => 8 - (intOf i).toNat)
      case atStart => exact ⟨0, d, by omega, rfl, rfl, d1, rfl⟩
      case round =>
        obtain ⟨j, x, hj, rfl, rfl, hx, hst⟩ := hrel
        by_cases hj8 : j < 8
        · have hs8 : 8 - j = (8 - (j + 1)) + 1 := by omega
          by_cases hodd : x % 2 = 1
          · have hodd' : ((x : Int) % 2 == 1) = true := by simp; omega
            obtain ⟨y, hy⟩ : ∃ y : Nat, x / 2 ^^^ 3988292384 = y := ⟨_, rfl⟩
            have y1 : y ≤ 4294967295 := by rw [← hy]; exact Nat.le_of_lt_succ (Nat.xor_lt_two_pow (n := 32) (by omega) (by decide))
            have HY : Hid (((((x : Int) / 2)).toNat ^^^ ((3988292384 : Int)).toNat : Nat) = (y : Int)) := by
              show _ = _
              rw [show ((x : Int) / 2).toNat = x / 2 by omega, show (3988292384 : Int).toNat = 3988292384 from rfl, hy]
            have HST : Hid (C.steps (8 - (j + 1)) y = C.steps 8 d) := by show _ = _; rw [← hst.out, hs8, C.steps_one _ _ hodd, hy]
            clear hodd hy hs8
            go_wp2_with (go_at_call 149; refine (turn_any _ _ _ _ (by omega) (by omega) (by omega) (by omega) HY).mono ?_; rintro e w' ⟨rfl, rfl⟩)
            go_round
            case rel => exact ⟨j + 1, y, by omega, by go_num, rfl, y1, HST⟩
            case measure => simp [intOf]; omega
          · have hodd' : ((x : Int) % 2 == 1) = false := by simp; omega
            have HST : Hid (C.steps (8 - (j + 1)) (x / 2) = C.steps 8 d) := by show _ = _; rw [← hst.out, hs8, C.steps_nil _ _ hodd]
            clear hodd hs8
            go_wp2_with fail
            go_round
            case rel => exact ⟨j + 1, x / 2, by omega, by go_num, by go_num, by omega, HST⟩
            case measure => simp [intOf]; omega
        · obtain rfl : j = 8 := by omega
          go_wp2_with fail
          go_round
          case rel => exact ⟨k + 1, x, by omega, by go_num, rfl, hx, by
            have h1 : x = C.steps 8 d := hst.out
            show C.run x _ = R
            rw [← hrun.out, HD.out, h1, ← HDD.out]
            rfl⟩
          case measure => simp [intOf]; omega
    · obtain rfl : k = s.size := by omega
      have hqR : q = R := by
        have := hrun.out
        rw [List.drop_of_length_le (by rw [V.nats_len]; exact Nat.le_refl _)] at this
        exact this
      subst hqR
      go_wp2_with fail
      go_ret
      exact ⟨ret_int (by omega), rfl⟩

theorem sums_byte (s : ByteArray) : ∀ b ∈ V.nats s, b < 256 := V.nats_byte s

theorem refmore_any (S : Int) (s : ByteArray) (w : World) (h0 : 0 ≤ S) (h1 : S ≤ 4294967295) (hs : s.size ≤ 281474976710656) :
    Calls Try.prog 133 #[.int .u32 S, .string s] w fun e w' => e = .returned (.int .u32 ((C.more S.toNat (V.nats s) : Nat) : Int)) ∧ w = w' := by
  have k := refmore_in S.toNat s w (by omega) hs _ (Lib.hid rfl) (C.run_lt _ (by omega) (sums_byte s))
  rw [show ((S.toNat : Nat) : Int) = S by omega] at k
  exact k

theorem refsum_any (s : ByteArray) (w : World) (hs : s.size ≤ 281474976710656) :
    Calls Try.prog 98 #[.string s] w fun e w' => e = .returned (.int .u32 ((C.sum (V.nats s) : Nat) : Int)) ∧ w = w' := by
  go_enter Try.func98, Try.ntmps98
  go_wp2_with (go_at_call 133; refine (refmore_any _ _ _ (by decide) (by decide) hs).mono ?_; rintro e w' ⟨rfl, rfl⟩)
  go_ret
  exact ⟨rfl, rfl⟩

theorem conv_four (W : World) (B : Nat) (a b c d : Int) (h0 : W.cell? ⟨B, 0, none⟩ = some (.int .u8 a)) (h1 : W.cell? ⟨B, 1, none⟩ = some (.int .u8 b)) (h2 : W.cell? ⟨B, 2, none⟩ = some (.int .u8 c)) (h3 : W.cell? ⟨B, 3, none⟩ = some (.int .u8 d)) :
    (convert 127 9 (.slice (some ⟨B, 0, none⟩) 4 4)).run Try.prog W = .ok (.string (strOfNums [a, b, c, d])) W :=
  run_convert_bytes_arg (P := Try.prog) W 127 5 Try.underlying127 Try.underlying5 B 0 4 4 [a, b, c, d] rfl (fun i hi => by
    have : i = 0 ∨ i = 1 ∨ i = 2 ∨ i = 3 := by omega
    rcases this with rfl | rfl | rfl | rfl
    · exact h0
    · exact h1
    · exact h2
    · exact h3) 9 Try.underlying9

theorem fourB_of (n : Int) (h0 : 0 ≤ n) : strOfNums [n % 256, n / 256 % 256, n / 65536 % 256, n / 16777216] = fourB n.toNat := by
  unfold fourB V.bytesOf C.four strOfNums
  have e0 : (n % 256).toNat = n.toNat % 256 := by omega
  have e1 : (n / 256 % 256).toNat = n.toNat / 256 % 256 := by omega
  have e2 : (n / 65536 % 256).toNat = n.toNat / 65536 % 256 := by omega
  have e3 : (n / 16777216).toNat = n.toNat / 16777216 := by omega
  simp only [List.map_cons, List.map_nil, e0, e1, e2, e3]

set_option maxRecDepth 100000 in
set_option maxHeartbeats 1000000 in
theorem reffour_any (n : Int) (w : World) (h0 : 0 ≤ n) (h1 : n ≤ 4294967295) :
    Calls Try.prog 136 #[.int .u32 n] w fun e w' => e = .returned (.string (fourB n.toNat)) ∧ Below w.heap.size w w' := by
  have kc := conv_four
  go_enter Try.func136, Try.ntmps136
  go_wp2_with fail
  go_ret
  exact ⟨ret_str (fourB_of n h0), (Below.refl _ _).alloc (Nat.le_refl _) _⟩

theorem reftext_any (s : ByteArray) (w : World) (hs : s.size ≤ 281474976710656) :
    Calls Try.prog 127 #[.string s] w fun e w' => e = .returned (.string (V.put s.size ++ s)) ∧ Below w.heap.size w w' := by
  have hz : (V.put s.size).size ≤ 10 := by rw [V.put_size]; exact V.puts_len _ (by omega)
  go_enter Try.func127, Try.ntmps127
  go_wp2_with (go_at_call 90; refine (refput_any s.size _ _ (by omega) (by omega) (by omega)).mono ?_; rintro e w' ⟨rfl, hb⟩)
  go_ret
  exact ⟨rfl, hb⟩

theorem reftext_is (s p : ByteArray) (w : World) (hs : s.size ≤ 281474976710656) (h : Hid (V.put s.size ++ s = p)) :
    Calls Try.prog 127 #[.string s] w fun e w' => e = .returned (.string p) ∧ Below w.heap.size w w' := by
  have k := reftext_any s w hs
  rw [h.out] at k
  exact k
theorem refsum_is (s : ByteArray) (c : Int) (w : World) (hs : s.size ≤ 281474976710656) (h : Hid (((sumOf s : Nat) : Int) = c)) :
    Calls Try.prog 98 #[.string s] w fun e w' => e = .returned (.int .u32 c) ∧ w = w' := by
  have k : Calls Try.prog 98 #[.string s] w fun e w' => e = .returned (.int .u32 ((sumOf s : Nat) : Int)) ∧ w = w' := refsum_any s w hs
  rw [h.out] at k
  exact k
theorem reffour_is (n : Int) (f : ByteArray) (w : World) (h0 : 0 ≤ n) (h1 : n ≤ 4294967295) (h : Hid (fourB n.toNat = f)) :
    Calls Try.prog 136 #[.int .u32 n] w fun e w' => e = .returned (.string f) ∧ Below w.heap.size w w' := by
  have k := reffour_any n w h0 h1
  rw [h.out] at k
  exact k
theorem four_hid {s f : ByteArray} {c : Int} (hc : Hid (((sumOf s : Nat) : Int) = c)) (hf : Hid (fourB (sumOf s) = f)) : Hid (fourB c.toNat = f) := by
  show _ = _
  rw [← hc.out, Int.toNat_natCast, hf.out]

theorem refframe_any (s : ByteArray) (w : World) (hs : s.size ≤ 140737488355328) :
    Calls Try.prog 103 #[.string s] w fun e w' => e = .returned (.string (frame s)) ∧ Below w.heap.size w w' := by
  have hB := Below.refl w.heap.size w
  have hl := sumOf_lt s
  have hz : (V.put s.size).size ≤ 10 := by rw [V.put_size]; exact V.puts_len _ (by omega)
  obtain ⟨p, hp⟩ : ∃ p, V.put s.size ++ s = p := ⟨_, rfl⟩
  have p1 : p.size ≤ 140737488355400 := by rw [← hp, ByteArray.size_append]; omega
  obtain ⟨f, hf⟩ : ∃ f, fourB (sumOf s) = f := ⟨_, rfl⟩
  have f1 : f.size ≤ 4 := by rw [← hf, fourB_size]; exact Nat.le_refl _
  have e : frame s = p ++ f := by rw [← hp, ← hf]; rfl
  rw [e]
  have HP := Lib.hid hp
  have HF := Lib.hid hf
  clear hp hf e hz
  obtain ⟨c, hc⟩ : ∃ c : Int, ((sumOf s : Nat) : Int) = c := ⟨_, rfl⟩
  have c0 : 0 ≤ c := by omega
  have c1 : c ≤ 4294967295 := by omega
  have HC := Lib.hid hc
  clear hc hl
  go_enter Try.func103, Try.ntmps103
  go_wp2_with (first
    | (go_at_call 127; refine (reftext_is _ _ _ (by omega) HP).mono ?_; rintro e w' ⟨rfl, hb⟩; replace hB := acc hB hb; clear hb)
    | (go_at_call 98; refine (refsum_is _ _ _ (by omega) HC).mono ?_; rintro e w' ⟨rfl, rfl⟩)
    | (go_at_call 136; refine (reffour_is _ _ _ c0 c1 (four_hid HC HF)).mono ?_; rintro e w' ⟨rfl, hb⟩; replace hB := acc hB hb; clear hb))
  go_ret
  exact ⟨rfl, hB⟩

theorem reftextget_is (s : ByteArray) (at_ most : Int) (w : World) (hs : s.size ≤ 281474976710656) (hmost : most ≤ 9223372036854775807) (t : ByteArray) (to e : Int) (h : Hid (V.text s at_ most = (t, to, e))) :
    Calls Try.prog 130 #[.string s, .int .i64 at_, .int .i64 most] w fun e1 w' => e1 = .returned (.tuple #[.string t, .int .i64 to, .int .i64 e]) ∧ Below w.heap.size w w' := by
  have := refgettext_any s at_ most w hs hmost
  rw [h.out] at this
  exact this

theorem bytes_ne {g f : ByteArray} (h : g ≠ f) : (g.toList == f.toList) = false := by
  rw [beq_eq_false_iff_ne]
  intro e
  rw [ByteArray.toList_eq, ByteArray.toList_eq] at e
  exact h (ByteArray.ext (Array.toList_inj.1 e))

set_option maxRecDepth 100000 in
set_option maxHeartbeats 2000000 in
theorem refcut_any (s : ByteArray) (at_ most : Int) (w : World) (hs : s.size ≤ 140737488355328) (hmost : most ≤ 9223372036854775807) :
    Calls Try.prog 106 #[.string s, .int .i64 at_, .int .i64 most] w fun e w' => e = .returned (.tuple #[.string (cut s at_ most).1, .int .i64 (cut s at_ most).2.1, .int .i64 (cut s at_ most).2.2]) ∧ Below w.heap.size w w' := by
  have hB := Below.refl w.heap.size w
  obtain ⟨t, to, e, hx⟩ : ∃ t to e, V.text s at_ most = (t, to, e) := ⟨_, _, _, rfl⟩
  have HX := Lib.hid hx
  by_cases he : e = 0
  · subst he
    obtain ⟨x1, x2, x3⟩ := text_some hx
    by_cases hsh : (s.size : Int) - to < 4
    · rw [cut_short hx hsh]
      clear hx x3
      go_enter Try.func106, Try.ntmps106
      go_wp2_with (go_at_call 130; refine (reftextget_is _ _ _ _ (by omega) hmost _ _ _ HX).mono ?_; rintro e w' ⟨rfl, hb⟩; replace hB := acc hB hb; clear hb)
      go_ret3
      exact ⟨rfl, hB⟩
    · obtain ⟨f, hf⟩ : ∃ f, fourB (sumOf t) = f := ⟨_, rfl⟩
      have HF := Lib.hid hf
      obtain ⟨c, hc⟩ : ∃ c : Int, ((sumOf t : Nat) : Int) = c := ⟨_, rfl⟩
      have hl := sumOf_lt t
      have C0 : Hid (0 ≤ c) := by show (0 : Int) ≤ c; omega
      have C1 : Hid (c ≤ 4294967295) := by show c ≤ (4294967295 : Int); omega
      have HC := Lib.hid hc
      have HT : Hid (t.size ≤ 281474976710656) := by show _ ≤ _; omega
      obtain ⟨g, hg⟩ : ∃ g, s.extract to.toNat (to + 4).toNat = g := ⟨_, rfl⟩
      have hsh1 : to + 4 ≤ (s.size : Int) := by omega
      have hsh2 : 0 ≤ to + 4 := by omega
      have hsh3 : to ≤ to + 4 := by omega
      have hsh4 : 4 ≤ (s.size : Int) - to := by omega
      by_cases hfg : g = f
      · rw [cut_ok hx hsh (by rw [hg, hf]; exact hfg)]
        subst hfg
        clear hx hsh hf hc hl x3
        go_enter Try.func106, Try.ntmps106
        go_wp2_with (go_at_call 130; refine (reftextget_is _ _ _ _ (by omega) hmost _ _ _ HX).mono ?_; rintro e w' ⟨rfl, hb⟩; replace hB := acc hB hb; clear hb)
        have hsum : IntKind.i64.wrap (to + 4) = to + 4 := IntWalk.i64_in _ (by omega)
        go_region_held3 (fun w' => Below w.heap.size w w')
          (first
            | assumption
            | exact Below.drew (by assumption)
            | exact acc (by assumption) (by assumption)
            | exact acc (Below.drew (by assumption)) (by assumption))
          (first
            | (go_at_call 98; (refine (refsum_is _ _ _ HT.out HC).mono ?_); rintro e w1 ⟨rfl, rfl⟩)
            | (go_at_call 136; (refine (reffour_is _ _ _ C0.out C1.out (four_hid HC HF)).mono ?_); rintro e w2 ⟨rfl, hb2⟩))
        clear hsum
        go_wp2_with fail
        go_ret3
        exact ⟨rfl, by assumption⟩
      · rw [cut_sum hx hsh (by rw [hg, hf]; exact hfg)]
        have hn1 : (g.toList == f.toList) = false := bytes_ne hfg
        clear hx hsh hf hc hl x3 hfg
        go_enter Try.func106, Try.ntmps106
        go_wp2_with (go_at_call 130; refine (reftextget_is _ _ _ _ (by omega) hmost _ _ _ HX).mono ?_; rintro e w' ⟨rfl, hb⟩; replace hB := acc hB hb; clear hb)
        have hsum : IntKind.i64.wrap (to + 4) = to + 4 := IntWalk.i64_in _ (by omega)
        go_region_held3 (fun w' => Below w.heap.size w w')
          (first
            | assumption
            | exact Below.drew (by assumption)
            | exact acc (by assumption) (by assumption)
            | exact acc (Below.drew (by assumption)) (by assumption))
          (first
            | (go_at_call 98; (refine (refsum_is _ _ _ HT.out HC).mono ?_); rintro e w1 ⟨rfl, rfl⟩)
            | (go_at_call 136; (refine (reffour_is _ _ _ C0.out C1.out (four_hid HC HF)).mono ?_); rintro e w2 ⟨rfl, hb2⟩))
        clear hsum
        go_wp2_with fail
        go_ret3
        exact ⟨rfl, by assumption⟩
  · rw [cut_err hx he]
    have he' : (e != 0) = true := by simpa using he
    clear hx he
    go_enter Try.func106, Try.ntmps106
    go_wp2_with (go_at_call 130; refine (reftextget_is _ _ _ _ (by omega) hmost _ _ _ HX).mono ?_; rintro e w' ⟨rfl, hb⟩; replace hB := acc hB hb; clear hb)
    go_ret3
    exact ⟨rfl, hB⟩

theorem refmore_is (S : Int) (s : ByteArray) (c : Int) (w : World) (h0 : 0 ≤ S) (h1 : S ≤ 4294967295) (hs : s.size ≤ 281474976710656) (h : Hid (((C.more S.toNat (V.nats s) : Nat) : Int) = c)) :
    Calls Try.prog 133 #[.int .u32 S, .string s] w fun e w' => e = .returned (.int .u32 c) ∧ w = w' := by
  have k := refmore_any S s w h0 h1 hs
  rw [h.out] at k
  exact k
theorem refframe_is (s f : ByteArray) (w : World) (hs : s.size ≤ 140737488355328) (h : Hid (frame s = f)) :
    Calls Try.prog 103 #[.string s] w fun e w' => e = .returned (.string f) ∧ Below w.heap.size w w' := by
  have k := refframe_any s w hs
  rw [h.out] at k
  exact k
theorem refcut_is (s : ByteArray) (at_ most : Int) (w : World) (hs : s.size ≤ 140737488355328) (hmost : most ≤ 9223372036854775807) (t : ByteArray) (to e : Int) (h : Hid (cut s at_ most = (t, to, e))) :
    Calls Try.prog 106 #[.string s, .int .i64 at_, .int .i64 most] w fun e1 w' => e1 = .returned (.tuple #[.string t, .int .i64 to, .int .i64 e]) ∧ Below w.heap.size w w' := by
  have k := refcut_any s at_ most w hs hmost
  rw [h.out] at k
  exact k
end Go.Proofs.Ytlemcijgjebekaa
