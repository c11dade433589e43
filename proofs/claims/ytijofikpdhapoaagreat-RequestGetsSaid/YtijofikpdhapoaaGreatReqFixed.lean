/-
  Calls whose answers the document fixes.
-/
import Derived.Test.YtijofikpdhapoaaGreatRepGet
import Derived.Test.YtijofikpdhapoaaGreatReqGet
namespace Go.Proofs.YtijofikpdhapoaaGreat.L4
open Go.RowKit
open L3

def oTick : O := ⟨12, ⟨#[]⟩, 0, 5, 0, 0, 0, 0, [], ⟨#[]⟩, ⟨#[]⟩, 0, false, []⟩
def oTop : O := ⟨0, ⟨#[97]⟩, 0, 2, 0, 0, 0, 0, [], ⟨#[]⟩, ⟨#[]⟩, 0, false, []⟩
def oGen : O := ⟨12, ⟨#[]⟩, 0, 0, 0, 0, 0, 0, [], ⟨#[]⟩, ⟨#[]⟩, 1, false, []⟩
def rOne : Rp := ⟨0, 0, 1, 0, [], [⟨⟨#[97]⟩, 1⟩]⟩
theorem chk_of {o : O} (hk : o.kind ≤ 12) (h : o.all (hasK o.kind)) (h1 : noForm o (hasK o.kind) = false) (h2 : noNum o (hasK o.kind) = false) (h3 : noBat o (hasK o.kind) = 0) : o.chk = 0 := by
  rw [← chk_kind o hk true ⟨fun _ => h, fun _ => rfl⟩, h1, h2, h3]
  rfl
theorem tick_chk : oTick.chk = 0 := chk_of (by decide) ⟨rfl, rfl, rfl, rfl, rfl, rfl, rfl, rfl, rfl, rfl, rfl, rfl, rfl⟩ (by decide) (by decide) (by decide)
theorem top_chk : oTop.chk = 0 := chk_of (by decide) ⟨rfl, rfl, rfl, rfl, rfl, rfl, rfl, rfl, rfl, rfl, rfl, rfl, rfl⟩ (by decide) (by decide) (by decide)
theorem gen_chk : oGen.chk = 40 := by
  have hn : ¬ oGen.all (hasK oGen.kind) := fun h => by
    have h11 := h.2.2.2.2.2.2.2.2.2.2.1
    exact absurd h11 (by decide)
  rw [← chk_kind oGen (by decide) false ⟨fun h => Bool.noConfusion h, fun h => absurd h hn⟩]
  simp
theorem put_small {n : Nat} (h : n < 128) : V.put n = ⟨#[UInt8.ofNat n]⟩ := by unfold V.put; rw [V.puts_small h]; rfl
theorem txt_a : txt ⟨#[97]⟩ = ⟨#[1, 97]⟩ := by
  show V.put 1 ++ ⟨#[97]⟩ = _
  rw [put_small (by decide)]
  rfl
theorem tick_bytes : oTick.bytes = ⟨#[12, 5]⟩ := by
  show V.put 12 ++ V.put (5 : Int).toNat = _
  rw [show (5 : Int).toNat = 5 from rfl, put_small (by decide), put_small (by decide)]
  rfl
theorem top_bytes : oTop.bytes = ⟨#[0, 1, 97, 2]⟩ := by
  show V.put 0 ++ txt ⟨#[97]⟩ ++ V.put (2 : Int).toNat = _
  rw [show (2 : Int).toNat = 2 from rfl, put_small (by decide), put_small (by decide), txt_a]
  rfl
theorem one_chk : rOne.chk = 0 := by decide
theorem one_bytes : rOne.bytes = ⟨#[0, 0, 1, 0, 0, 1, 1, 97, 1]⟩ := by
  show ⟨#[]⟩ ++ V.put (0 : Int).toNat ++ V.put (0 : Int).toNat ++ V.put (1 : Int).toNat ++ V.put (0 : Int).toNat ++ V.put 0 ++ V.put 1 ++ txt ⟨#[97]⟩ ++ V.put (1 : Int).toNat = _
  rw [show (0 : Int).toNat = 0 from rfl, show (1 : Int).toNat = 1 from rfl, put_small (by decide), put_small (by decide), txt_a]
  rfl
theorem short_read : (readO ⟨#[12]⟩ false).2 = none := by decide

theorem no_recs (w : World) (B : Nat) (A : Option Addr) : Reads w B A [] := fun h => absurd h (by simp)
theorem no_tops (w : World) (B : Nat) (A : Option Addr) : ReadsT w B A [] := fun h => absurd h (by simp)
theorem no_found (w : World) (B : Nat) (A : Option Addr) : ReadsF w B A [] := fun h => absurd h (by simp)
theorem emp_max : (⟨#[]⟩ : ByteArray).size ≤ maxLen := Nat.zero_le _
theorem a_max : (⟨#[97]⟩ : ByteArray).size ≤ maxLen := by unfold maxLen; decide

theorem y1 (w : World) : Calls Tryz.prog 18 #[.agg #[.int .i64 12, .string ⟨#[]⟩, .int .i64 0, .int .i64 5, .int .i64 0, .int .i64 0, .int .i64 0, .int .i64 0, .slice none 0 0, .string ⟨#[]⟩, .string ⟨#[]⟩, .int .i64 0, .bool false, .slice none 0 0]] w fun e w' => e = .returned (.tuple #[.string ⟨#[12, 5]⟩, .int .i64 0]) ∧ Below w.heap.size w w' := by
  have h := put_ok oTick none none 0 0 (by decide) (Lib.hid tick_chk) 0 w (Nat.zero_le _) (Lib.hid emp_max) (Lib.hid emp_max) (Lib.hid emp_max) (Lib.hid (no_recs _ _ _)) (by decide) (Lib.hid (by simp [oTick])) (Lib.hid (no_tops _ _ _)) (Lib.hid (Nat.zero_le _)) (Lib.hid (by simp [oTick]))
  rw [tick_bytes] at h
  exact h
theorem y2 (w : World) : Calls Tryz.prog 18 #[.agg #[.int .i64 0, .string ⟨#[97]⟩, .int .i64 0, .int .i64 2, .int .i64 0, .int .i64 0, .int .i64 0, .int .i64 0, .slice none 0 0, .string ⟨#[]⟩, .string ⟨#[]⟩, .int .i64 0, .bool false, .slice none 0 0]] w fun e w' => e = .returned (.tuple #[.string ⟨#[0, 1, 97, 2]⟩, .int .i64 0]) ∧ Below w.heap.size w w' := by
  have h := put_ok oTop none none 0 0 (by decide) (Lib.hid top_chk) 0 w (Nat.zero_le _) (Lib.hid a_max) (Lib.hid emp_max) (Lib.hid emp_max) (Lib.hid (no_recs _ _ _)) (by decide) (Lib.hid (by simp [oTop])) (Lib.hid (no_tops _ _ _)) (Lib.hid (Nat.zero_le _)) (Lib.hid (by simp [oTop]))
  rw [top_bytes] at h
  exact h
theorem y5 (w : World) : Calls Tryz.prog 18 #[.agg #[.int .i64 12, .string ⟨#[]⟩, .int .i64 0, .int .i64 0, .int .i64 0, .int .i64 0, .int .i64 0, .int .i64 0, .slice none 0 0, .string ⟨#[]⟩, .string ⟨#[]⟩, .int .i64 1, .bool false, .slice none 0 0]] w fun e w' => e = .returned (.tuple #[.string ⟨#[]⟩, .int .i64 40]) ∧ Below w.heap.size w w' :=
  put_bad oGen none none 0 0 (by decide) 40 (Lib.hid gen_chk) (by decide) 0 w (Nat.zero_le _) (Lib.hid emp_max) (Lib.hid emp_max) (Lib.hid emp_max) (Lib.hid (no_recs _ _ _)) (by decide) (Lib.hid (by simp [oGen])) (Lib.hid (no_tops _ _ _)) (Lib.hid (Nat.zero_le _)) (Lib.hid (by simp [oGen]))
theorem y3 (w : World) : Calls Tryz.prog 5 #[.string ⟨#[0, 1, 97, 2]⟩] w fun e w' => (∃ RA TA rc tc, e = .returned (.tuple #[.agg #[.int .i64 0, .string ⟨#[97]⟩, .int .i64 0, .int .i64 2, .int .i64 0, .int .i64 0, .int .i64 0, .int .i64 0, .slice RA 0 rc, .string ⟨#[]⟩, .string ⟨#[]⟩, .int .i64 0, .bool false, .slice TA 0 tc], .int .i64 0])) ∧ Below w.heap.size w w' := by
  have h := get_in oTop.bytes oTop _ w (by rw [top_bytes]; decide) (Lib.hid (readO_put (by decide) top_chk false))
  rw [if_pos ⟨rfl, top_chk⟩, if_pos ⟨rfl, top_chk⟩, top_bytes] at h
  exact h.mono fun e w' ⟨RA, TA, rc, tc, he, _, _, hb⟩ => ⟨⟨RA, TA, rc, tc, he⟩, hb⟩
theorem y4 (w : World) : Calls Tryz.prog 5 #[.string ⟨#[12]⟩] w fun e w' => (∃ RA TA rc tc, e = .returned (.tuple #[.agg #[.int .i64 0, .string ⟨#[]⟩, .int .i64 0, .int .i64 0, .int .i64 0, .int .i64 0, .int .i64 0, .int .i64 0, .slice RA 0 rc, .string ⟨#[]⟩, .string ⟨#[]⟩, .int .i64 0, .bool false, .slice TA 0 tc], .int .i64 40])) ∧ Below w.heap.size w w' := by
  have h := get_in ⟨#[12]⟩ (readO ⟨#[12]⟩ false).1 (readO ⟨#[12]⟩ false).2 w (by decide) (Lib.hid rfl)
  have hn : ¬ ((readO ⟨#[12]⟩ false).2 = some (((⟨#[12]⟩ : ByteArray).size : Nat) : Int) ∧ (readO ⟨#[12]⟩ false).1.chk = 0) := fun q => by rw [short_read] at q; cases q.1
  rw [if_neg hn, if_neg hn] at h
  exact h.mono fun e w' ⟨RA, TA, rc, tc, he, _, _, hb⟩ => ⟨⟨RA, TA, rc, tc, he⟩, hb⟩
def ROW1 (PA : Option Addr) (pc : Nat) (FA : Option Addr) (fc : Nat) : Array Value := #[.int .i64 0, .int .i64 0, .int .i64 1, .int .i64 0, .slice FA 0 fc, .slice PA 1 pc]
theorem p_sz : PSz [⟨⟨#[97]⟩, 1⟩] := fun f hf => by
  rw [List.mem_singleton.1 hf]
  exact a_max
theorem y6 (PA FA : Option Addr) (pc fc B : Nat) (w : World) (hP : Hid (ReadsP w B PA [⟨⟨#[97]⟩, 1⟩])) (hB : B ≤ w.heap.size) :
    Calls Tryz.prog 19 #[.agg #[.int .i64 0, .int .i64 0, .int .i64 1, .int .i64 0, .slice FA 0 fc, .slice PA 1 pc]] w fun e w' => e = .returned (.tuple #[.string ⟨#[0, 0, 1, 0, 0, 1, 1, 97, 1]⟩, .int .i64 0]) ∧ Below w.heap.size w w' := by
  have h := reply_ok rOne FA PA fc pc B w hB (Lib.hid (no_found _ _ _)) hP (Lib.hid (Nat.zero_le _)) (Lib.hid (by unfold maxLen; decide)) (Lib.hid (fun f hf => by simp [rOne] at hf)) (Lib.hid p_sz) (Lib.hid one_chk)
  rw [one_bytes] at h
  exact h
theorem y7 (w : World) : Calls Tryz.prog 20 #[.string ⟨#[0, 0, 1, 0, 0, 1, 1, 97, 1]⟩] w fun e w' => ∃ FA PA fc pc, e = .returned (.tuple #[.agg #[.int .i64 0, .int .i64 0, .int .i64 1, .int .i64 0, .slice FA 0 fc, .slice PA 1 pc], .int .i64 0]) ∧ Hid (ReadsP w' w'.heap.size PA [⟨⟨#[97]⟩, 1⟩]) ∧ Below w.heap.size w w' := by
  have h := parse_in rOne.bytes rOne _ w (by rw [one_bytes]; decide) (Lib.hid (readR_put (good_r one_chk) (Nat.le_refl 64)))
  rw [if_pos ⟨rfl, one_chk⟩, if_pos ⟨rfl, one_chk⟩, one_bytes] at h
  exact h.mono fun e w' ⟨FA, PA, fc, pc, he, _, hp, hb⟩ => ⟨FA, PA, fc, pc, he, Lib.hid (ReadsP.own hp), hb⟩
theorem y8 (RA TA : Option Addr) (rc tc : Nat) (w : World) :
    Calls Tryz.prog 6 #[.agg #[.int .i64 0, .string ⟨#[97]⟩, .int .i64 0, .int .i64 2, .int .i64 0, .int .i64 0, .int .i64 0, .int .i64 0, .slice RA 0 rc, .string ⟨#[]⟩, .string ⟨#[]⟩, .int .i64 0, .bool false, .slice TA 0 tc], .agg #[.int .i64 0, .string ⟨#[97]⟩, .int .i64 0, .int .i64 2, .int .i64 0, .int .i64 0, .int .i64 0, .int .i64 0, .slice none 0 0, .string ⟨#[]⟩, .string ⟨#[]⟩, .int .i64 0, .bool false, .slice none 0 0]] w fun e w' => e = .returned (.bool true) ∧ Below w.heap.size w w' :=
  rsame_is 0 ⟨#[97]⟩ 0 2 0 0 0 0 [] ⟨#[]⟩ ⟨#[]⟩ 0 false [] RA TA rc tc 0 ⟨#[97]⟩ 0 2 0 0 0 0 [] ⟨#[]⟩ ⟨#[]⟩ 0 false [] none none 0 0 0 true w (Lib.hid (no_recs _ _ _)) (Lib.hid (no_recs _ _ _)) (Lib.hid (no_tops _ _ _)) (Lib.hid (no_tops _ _ _)) (Nat.zero_le _) (Nat.zero_le _) (Nat.zero_le _) (Lib.hid (by simp))
theorem y13 (RA TA : Option Addr) (rc tc : Nat) (w : World) :
    Calls Tryz.prog 23 #[.agg #[.int .i64 0, .string ⟨#[97]⟩, .int .i64 0, .int .i64 2, .int .i64 0, .int .i64 0, .int .i64 0, .int .i64 0, .slice RA 0 rc, .string ⟨#[]⟩, .string ⟨#[]⟩, .int .i64 0, .bool false, .slice TA 0 tc], .agg #[.int .i64 0, .string ⟨#[97]⟩, .int .i64 0, .int .i64 2, .int .i64 0, .int .i64 0, .int .i64 0, .int .i64 0, .slice RA 0 rc, .string ⟨#[]⟩, .string ⟨#[]⟩, .int .i64 0, .bool false, .slice TA 0 tc]] w fun e w' => e = .returned (.bool true) ∧ Below w.heap.size w w' :=
  same_is 0 ⟨#[97]⟩ 0 2 0 0 0 0 [] ⟨#[]⟩ ⟨#[]⟩ 0 false [] RA TA rc tc 0 ⟨#[97]⟩ 0 2 0 0 0 0 [] ⟨#[]⟩ ⟨#[]⟩ 0 false [] RA TA rc tc 0 true w (Lib.hid (no_recs _ _ _)) (Lib.hid (no_recs _ _ _)) (Lib.hid (no_tops _ _ _)) (Lib.hid (no_tops _ _ _)) (Nat.zero_le _) (Nat.zero_le _) (Nat.zero_le _) (Lib.hid (by simp))
theorem y12 (w : World) : Calls Tryz.prog 15 #[.agg #[.int .i64 13, .string ⟨#[]⟩, .int .i64 0, .int .i64 0, .int .i64 0, .int .i64 0, .int .i64 0, .int .i64 0, .slice none 0 0, .string ⟨#[]⟩, .string ⟨#[]⟩, .int .i64 0, .bool false, .slice none 0 0]] w fun e w' => e = .returned (.int .i64 41) ∧ Below w.heap.size w w' := check_bad 13 _ _ _ _ _ _ _ _ _ _ _ _ _ w (by omega)
theorem y10 (w : World) : Calls Tryz.prog 22 #[.string ⟨#[97, 45, 49]⟩] w fun e w' => e = .returned (.bool true) ∧ Below w.heap.size w w' := name_is _ true w (Lib.hid (by unfold maxLen; decide)) (Lib.hid (by decide))
theorem y11 (w : World) : Calls Tryz.prog 22 #[.string ⟨#[65]⟩] w fun e w' => e = .returned (.bool false) ∧ Below w.heap.size w w' := name_is _ false w (Lib.hid (by unfold maxLen; decide)) (Lib.hid (by decide))


theorem reads_one {w : World} {g : Nat} (h : w.heap[g]? = some (.cells #[.string ⟨#[97]⟩, .int .i64 1] 23 (0, 0))) : ReadsP w w.heap.size (some ⟨g, 0, none⟩) [⟨⟨#[97]⟩, 1⟩] := fun _ => by
  refine ⟨g, rfl, at_lt h, fun i s hs => ?_⟩
  have hi : i = 0 := by
    have := (List.getElem?_eq_some_iff.1 hs).1
    simp at this
    exact this
  subst hi
  have e : s = ⟨⟨#[97]⟩, 1⟩ := by simpa using hs.symm
  subst e
  exact ⟨row_of h rfl, row_of h rfl⟩
theorem y9 (FA PA PA' : Option Addr) (fc pc B : Nat) (w : World) (hq : Hid (ReadsP w B PA [⟨⟨#[97]⟩, 1⟩])) (hr : Hid (ReadsP w B PA' [⟨⟨#[97]⟩, 1⟩])) (hB : B ≤ w.heap.size) :
    Calls Tryz.prog 21 #[.agg #[.int .i64 0, .int .i64 0, .int .i64 1, .int .i64 0, .slice FA 0 fc, .slice PA 1 pc], .agg #[.int .i64 0, .int .i64 0, .int .i64 1, .int .i64 0, .slice none 0 0, .slice PA' 1 1]] w fun e w' => e = .returned (.bool true) ∧ Below w.heap.size w w' :=
  ralike_is 0 0 1 0 [] [⟨⟨#[97]⟩, 1⟩] FA PA fc pc 0 0 1 0 [] [⟨⟨#[97]⟩, 1⟩] none PA' 0 1 B true w (Lib.hid (no_found _ _ _)) (Lib.hid (no_found _ _ _)) hq hr hB (Nat.zero_le _) (by unfold maxLen; decide) (Lib.hid (by simp))
theorem y14 (PA' : Option Addr) (B : Nat) (w : World) (hr : Hid (ReadsP w B PA' [⟨⟨#[97]⟩, 1⟩])) (hB : B ≤ w.heap.size) :
    Calls Tryz.prog 24 #[.agg #[.int .i64 0, .int .i64 0, .int .i64 1, .int .i64 0, .slice none 0 0, .slice PA' 1 1], .agg #[.int .i64 0, .int .i64 0, .int .i64 0, .int .i64 0, .slice none 0 0, .slice none 0 0]] w fun e w' => e = .returned (.bool false) ∧ Below w.heap.size w w' :=
  alike_is 0 0 1 0 [] [⟨⟨#[97]⟩, 1⟩] none PA' 0 1 0 0 0 0 [] [] none none 0 0 B false w (Lib.hid (no_found _ _ _)) (Lib.hid (no_found _ _ _)) hr (Lib.hid (fun h => absurd h (by simp))) hB (Nat.zero_le _) (by unfold maxLen; decide) (Lib.hid (by simp))


theorem row_keep2 {w w' : World} {b : Nat} {x : Obj} (h : w.heap[b]? = some x) (hb : Below w.heap.size w w') : w'.heap[b]? = some x := (hb.block b (at_lt h)).trans h
set_option maxRecDepth 100000 in
set_option maxHeartbeats 16000000 in
theorem fixed4_any (w : World) :
    Calls Tryz.prog 7 #[] w fun e w' => e = .returned (.bool true) ∧ Below w.heap.size w w' := by
  go_enter Tryz.func7, Tryz.ntmps7
  go_wp2_with (first
    | (go_at_call 24; have _q := HB13; refine (y14 (some ⟨w5.heap.size, 0, none⟩) w13.heap.size _ HP13 (Nat.le_refl _)).mono ?_; rintro e w14 ⟨rfl, hb14⟩; have HB14 := Lib.hid (acc HB13.out hb14))
    | (go_at_call 23; have _q := HB12; refine (y13 RA TA rc tc _).mono ?_; rintro e w13 ⟨rfl, hb13⟩; have q := HB12; have HB13 := Lib.hid (acc HB12.out hb13); have R13 := Lib.hid (row_keep2 R12.out hb13); have HP13 := Lib.hid ((HP12.out.below hb13).mono hb13.size); clear o0 o1 o2 o3 o4 o5 o6 o7 o8 o9 o10 o11 o12 o13; have r0 := row_of (j := 0) R13.out rfl; have r1 := row_of (j := 1) R13.out rfl; have r2 := row_of (j := 2) R13.out rfl; have r3 := row_of (j := 3) R13.out rfl; have r4 := row_of (j := 4) R13.out rfl; have r5 := row_of (j := 5) R13.out rfl; clear hb13)
    | (go_at_call 15; have _q := HB11; refine (y12 _).mono ?_; rintro e w12 ⟨rfl, hb12⟩; have q := HB11; have HB12 := Lib.hid (acc HB11.out hb12); have R12 := Lib.hid (row_keep2 R11.out hb12); have O12 := Lib.hid (row_keep2 O11.out hb12); have HP12 := Lib.hid ((HP11.out.below hb12).mono hb12.size); have o0 := row_of (j := 0) O12.out rfl; have o1 := row_of (j := 1) O12.out rfl; have o2 := row_of (j := 2) O12.out rfl; have o3 := row_of (j := 3) O12.out rfl; have o4 := row_of (j := 4) O12.out rfl; have o5 := row_of (j := 5) O12.out rfl; have o6 := row_of (j := 6) O12.out rfl; have o7 := row_of (j := 7) O12.out rfl; have o8 := row_of (j := 8) O12.out rfl; have o9 := row_of (j := 9) O12.out rfl; have o10 := row_of (j := 10) O12.out rfl; have o11 := row_of (j := 11) O12.out rfl; have o12 := row_of (j := 12) O12.out rfl; have o13 := row_of (j := 13) O12.out rfl; clear hb12)
    | (go_at_call 22; have _q := HB10; (with_reducible refine ((y11 _)).mono ?_); rintro e w11 ⟨rfl, hb11⟩; have q := HB10; have HB11 := Lib.hid (acc HB10.out hb11); have R11 := Lib.hid (row_keep2 R10.out hb11); have O11 := Lib.hid (row_keep2 O10.out hb11); have HP11 := Lib.hid ((HP10.out.below hb11).mono hb11.size); clear hb11)
    | (go_at_call 22; have _q := HB9; (with_reducible refine ((y10 _)).mono ?_); rintro e w10 ⟨rfl, hb10⟩; have HB10 := Lib.hid (acc HB9.out hb10); have R10 := Lib.hid (row_keep2 R9.out hb10); have O10 := Lib.hid (row_keep2 O9.out hb10); have HP10 := Lib.hid ((HP9.out.below hb10).mono hb10.size); clear hb10)
    | (go_at_call 21; have _q := HB8; refine (y9 FA PA (some ⟨w5.heap.size, 0, none⟩) fc pc w8.heap.size _ HQ8 HP8 (Nat.le_refl _)).mono ?_; rintro e w9 ⟨rfl, hb9⟩; have HB9 := Lib.hid (acc HB8.out hb9); have R9 := Lib.hid (row_keep2 R8.out hb9); have O9 := Lib.hid (row_keep2 O8.out hb9); have HP9 := Lib.hid ((HP8.out.below hb9).mono hb9.size); clear q0 q1 q2 q3 q4 q5; clear r0 r1 r2 r3 r4 r5; clear hb9)
    | (go_at_call 6; have _q := HB7; refine (y8 RA TA rc tc _).mono ?_; rintro e w8 ⟨rfl, hb8⟩; have HB8 := Lib.hid ((HB7.out.alloc HB7.out.size (.cells #[.int .i64 0, .int .i64 0, .int .i64 1, .int .i64 0, .slice FA 0 fc, .slice PA 1 pc] 59 (0, 0))).trans (hb8.mono (by have := HB7.out.size; simp; omega))); have R8 := Lib.hid ((hb8.block _ (by have := at_lt R7.out; simp; omega)).trans ((Below.heap_alloc w7 (.cells #[.int .i64 0, .int .i64 0, .int .i64 1, .int .i64 0, .slice FA 0 fc, .slice PA 1 pc] 59 (0, 0)) _ (at_lt R7.out)).trans R7.out)); have O8 := Lib.hid ((hb8.block _ (by have := at_lt O7.out; simp; omega)).trans ((Below.heap_alloc w7 (.cells #[.int .i64 0, .int .i64 0, .int .i64 1, .int .i64 0, .slice FA 0 fc, .slice PA 1 pc] 59 (0, 0)) _ (at_lt O7.out)).trans O7.out)); have Q8 := Lib.hid ((hb8.block w7.heap.size (by simp)).trans (heap_alloc_new w7 (.cells #[.int .i64 0, .int .i64 0, .int .i64 1, .int .i64 0, .slice FA 0 fc, .slice PA 1 pc] 59 (0, 0)))); have HP8 := Lib.hid (((HP7.out.below (one_box (.cells #[.int .i64 0, .int .i64 0, .int .i64 1, .int .i64 0, .slice FA 0 fc, .slice PA 1 pc] 59 (0, 0)))).mono (by simp)).below hb8 |>.mono hb8.size); have HQ8 := Lib.hid (((HQ7.out.below (one_box (.cells #[.int .i64 0, .int .i64 0, .int .i64 1, .int .i64 0, .slice FA 0 fc, .slice PA 1 pc] 59 (0, 0)))).mono (by simp)).below hb8 |>.mono hb8.size); clear o0 o1 o2 o3 o4 o5 o6 o7 o8 o9 o10 o11 o12 o13; have q0 := row_of (j := 0) Q8.out rfl; have q1 := row_of (j := 1) Q8.out rfl; have q2 := row_of (j := 2) Q8.out rfl; have q3 := row_of (j := 3) Q8.out rfl; have q4 := row_of (j := 4) Q8.out rfl; have q5 := row_of (j := 5) Q8.out rfl; have r0 := row_of (j := 0) R8.out rfl; have r1 := row_of (j := 1) R8.out rfl; have r2 := row_of (j := 2) R8.out rfl; have r3 := row_of (j := 3) R8.out rfl; have r4 := row_of (j := 4) R8.out rfl; have r5 := row_of (j := 5) R8.out rfl; clear hb8)
    | (go_at_call 20; have _q := HB6; refine (y7 _).mono ?_; rintro e w7 ⟨FA, PA, fc, pc, rfl, HQ7, hb7⟩; have HB7 := Lib.hid (acc HB6.out hb7); have R7 := Lib.hid (row_keep2 R6.out hb7); have O7 := Lib.hid (row_keep2 O6.out hb7); have HP7 := Lib.hid ((HP6.out.below hb7).mono hb7.size); have o0 := row_of (j := 0) O7.out rfl; have o1 := row_of (j := 1) O7.out rfl; have o2 := row_of (j := 2) O7.out rfl; have o3 := row_of (j := 3) O7.out rfl; have o4 := row_of (j := 4) O7.out rfl; have o5 := row_of (j := 5) O7.out rfl; have o6 := row_of (j := 6) O7.out rfl; have o7 := row_of (j := 7) O7.out rfl; have o8 := row_of (j := 8) O7.out rfl; have o9 := row_of (j := 9) O7.out rfl; have o10 := row_of (j := 10) O7.out rfl; have o11 := row_of (j := 11) O7.out rfl; have o12 := row_of (j := 12) O7.out rfl; have o13 := row_of (j := 13) O7.out rfl; have hl7 := at_lt O7.out; clear hb7)
    | (go_at_call 19; have _q := HB5; refine (y6 (some ⟨w5.heap.size, 0, none⟩) none 1 0 (w5.heap.size + 1) _ (Lib.hid ((reads_one (heap_alloc_new w5 (.cells #[.string ⟨#[97]⟩, .int .i64 1] 23 (0, 0)))).below (one_box (.cells #[.int .i64 0, .int .i64 0, .int .i64 1, .int .i64 0, .slice none 0 0, .slice (some ⟨w5.heap.size, 0, none⟩) 1 1] 59 (0, 0))) |>.mono (by simp))) (by simp)).mono ?_; rintro e w6 ⟨rfl, hb6⟩; have HB6 := Lib.hid (((HB5.out.alloc HB5.out.size (.cells #[.string ⟨#[97]⟩, .int .i64 1] 23 (0, 0))).alloc (by have := HB5.out.size; simp; omega) (.cells #[.int .i64 0, .int .i64 0, .int .i64 1, .int .i64 0, .slice none 0 0, .slice (some ⟨w5.heap.size, 0, none⟩) 1 1] 59 (0, 0))).trans (hb6.mono (by have := HB5.out.size; simp; omega))); have R6 := Lib.hid ((hb6.block (w5.heap.size + 1) (by simp)).trans (heap_alloc2_new w5 (.cells #[.string ⟨#[97]⟩, .int .i64 1] 23 (0, 0)) (.cells #[.int .i64 0, .int .i64 0, .int .i64 1, .int .i64 0, .slice none 0 0, .slice (some ⟨w5.heap.size, 0, none⟩) 1 1] 59 (0, 0)))); have O6 := Lib.hid ((hb6.block _ (by have := at_lt O5.out; simp; omega)).trans (((two_box (.cells #[.string ⟨#[97]⟩, .int .i64 1] 23 (0, 0)) (.cells #[.int .i64 0, .int .i64 0, .int .i64 1, .int .i64 0, .slice none 0 0, .slice (some ⟨w5.heap.size, 0, none⟩) 1 1] 59 (0, 0))).block _ (at_lt O5.out)).trans O5.out)); have HP6 := Lib.hid (reads_one ((hb6.block w5.heap.size (by simp; omega)).trans (heap_alloc2_old w5 (.cells #[.string ⟨#[97]⟩, .int .i64 1] 23 (0, 0)) (.cells #[.int .i64 0, .int .i64 0, .int .i64 1, .int .i64 0, .slice none 0 0, .slice (some ⟨w5.heap.size, 0, none⟩) 1 1] 59 (0, 0))))); clear hb6)
    | (go_at_call 18; have _q := HB4; (with_reducible refine ((y5 _)).mono ?_); rintro e w5 ⟨rfl, hb5⟩; have HB5 := Lib.hid ((HB4.out.alloc HB4.out.size (.cells #[.int .i64 0, .string ⟨#[]⟩, .int .i64 0, .int .i64 0, .int .i64 0, .int .i64 0, .int .i64 0, .int .i64 0, .slice RA4 0 rc4, .string ⟨#[]⟩, .string ⟨#[]⟩, .int .i64 0, .bool false, .slice TA4 0 tc4] 29 (0, 0))).trans (hb5.mono (by have := HB4.out.size; simp; omega))); have O5 := Lib.hid ((hb5.block _ (by have := at_lt O4.out; simp; omega)).trans ((Below.heap_alloc w4 (.cells #[.int .i64 0, .string ⟨#[]⟩, .int .i64 0, .int .i64 0, .int .i64 0, .int .i64 0, .int .i64 0, .int .i64 0, .slice RA4 0 rc4, .string ⟨#[]⟩, .string ⟨#[]⟩, .int .i64 0, .bool false, .slice TA4 0 tc4] 29 (0, 0)) _ (at_lt O4.out)).trans O4.out)); clear hb5)
    | (go_at_call 5; have _q := HB3; (with_reducible refine ((y4 _)).mono ?_); rintro e w4 ⟨⟨RA4, TA4, rc4, tc4, rfl⟩, hb4⟩; have HB4 := Lib.hid ((HB3.out.alloc HB3.out.size (.cells #[.int .i64 0, .string ⟨#[97]⟩, .int .i64 0, .int .i64 2, .int .i64 0, .int .i64 0, .int .i64 0, .int .i64 0, .slice RA 0 rc, .string ⟨#[]⟩, .string ⟨#[]⟩, .int .i64 0, .bool false, .slice TA 0 tc] 29 (0, 0))).trans (hb4.mono (by have := HB3.out.size; simp; omega))); have O4 := Lib.hid ((hb4.block w3.heap.size (by simp)).trans (heap_alloc_new w3 (.cells #[.int .i64 0, .string ⟨#[97]⟩, .int .i64 0, .int .i64 2, .int .i64 0, .int .i64 0, .int .i64 0, .int .i64 0, .slice RA 0 rc, .string ⟨#[]⟩, .string ⟨#[]⟩, .int .i64 0, .bool false, .slice TA 0 tc] 29 (0, 0)))); clear hb4)
    | (go_at_call 5; have _q := HB2; (with_reducible refine ((y3 _)).mono ?_); rintro e w3 ⟨⟨RA, TA, rc, tc, rfl⟩, hb3⟩; have HB3 := Lib.hid (acc HB2.out hb3); clear hb3)
    | (go_at_call 18; have _q := HB1; (with_reducible refine ((y2 _)).mono ?_); rintro e w2 ⟨rfl, hb2⟩; have HB2 := Lib.hid (acc HB1.out hb2); clear hb2)
    | (go_at_call 18; (with_reducible refine ((y1 _)).mono ?_); rintro e w1 ⟨rfl, hb1⟩; have HB1 := Lib.hid hb1; clear hb1))
  go_ret
  exact ⟨rfl, HB14.out⟩


end Go.Proofs.YtijofikpdhapoaaGreat.L4
