/-
  Contracts: whether a batch may be, by the document.
-/
import Derived.Test.YtijofikpdhapoaaGreatMRecAll
import Derived.Test.YtijofikpdhapoaaGreatMText
import Derived.Deep.RegionHeld3
import Derived.IntWalk
namespace Go.Proofs.YtijofikpdhapoaaGreat.L3
open Go.RowKit

theorem num_is (n : Int) (v : Bool) (w : World) (h : Hid (numB n = v)) :
    Calls Tryz.prog 55 #[.int .i64 n] w fun e w' => e = .returned (.bool v) ∧ w = w' := by
  have k := num_any n w
  rw [h.out] at k
  exact k

set_option maxRecDepth 100000 in
set_option maxHeartbeats 1000000 in
theorem rall_arg (p e q : Int) (A : Option Addr) (n cap : Nat) (w : World) (hbad : Hid ((numB p && numB e && numB q) = false)) :
    Calls Tryz.prog 56 #[.agg #[.int .i64 p, .int .i64 e, .int .i64 q, .slice A n cap]] w fun e w' => e = .returned (.int .i64 1) ∧ Below w.heap.size w w' := by
  cases hp : numB p with
  | false =>
    have HP := Lib.hid hp
    clear hp hbad
    go_enter Tryz.func56, Tryz.ntmps56
    go_wp2_with (go_at_call 55; (with_reducible refine (num_is _ _ _ HP).mono ?_); rintro e w' ⟨rfl, rfl⟩)
    go_ret
    exact ⟨rfl, one_box _⟩
  | true =>
    cases he : numB e with
    | false =>
      have HP := Lib.hid hp
      have HE := Lib.hid he
      clear hp he hbad
      go_enter Tryz.func56, Tryz.ntmps56
      go_wp2_with (go_at_call 55; (first | (with_reducible refine (num_is _ _ _ HP).mono ?_) | (with_reducible refine (num_is _ _ _ HE).mono ?_)); rintro e w' ⟨rfl, rfl⟩)
      go_ret
      exact ⟨rfl, one_box _⟩
    | true =>
      have HQ : Hid (numB q = false) := Lib.hid (by have := hbad.out; rw [hp, he] at this; simpa using this)
      have HP := Lib.hid hp
      have HE := Lib.hid he
      clear hp he hbad
      go_enter Tryz.func56, Tryz.ntmps56
      go_wp2_with (go_at_call 55; (first | (with_reducible refine (num_is _ _ _ HP).mono ?_) | (with_reducible refine (num_is _ _ _ HE).mono ?_) | (with_reducible refine (num_is _ _ _ HQ).mono ?_)); rintro e w' ⟨rfl, rfl⟩)
      go_ret
      exact ⟨rfl, one_box _⟩

set_option maxRecDepth 100000 in
set_option maxHeartbeats 1000000 in
theorem rall_none (p e q : Int) (A : Option Addr) (n cap : Nat) (w : World) (HP : Hid (numB p = true)) (HE : Hid (numB e = true)) (HQ : Hid (numB q = true)) (hc : n = 0 ∨ (16 < n ∧ n ≤ maxLen)) :
    Calls Tryz.prog 56 #[.agg #[.int .i64 p, .int .i64 e, .int .i64 q, .slice A n cap]] w fun e w' => e = .returned (.int .i64 (if n = 0 then 30 else 2)) ∧ Below w.heap.size w w' := by
  rcases hc with rfl | ⟨h1, h2⟩
  · rw [if_pos rfl]
    go_enter Tryz.func56, Tryz.ntmps56
    go_wp2_with (go_at_call 55; (first | (with_reducible refine (num_is _ _ _ HP).mono ?_) | (with_reducible refine (num_is _ _ _ HE).mono ?_) | (with_reducible refine (num_is _ _ _ HQ).mono ?_)); rintro e w' ⟨rfl, rfl⟩)
    go_ret
    exact ⟨rfl, one_box _⟩
  · rw [if_neg (by omega)]
    unfold maxLen at h2
    have h3 : ((n : Int) == 0) = false := by simp; omega
    go_enter Tryz.func56, Tryz.ntmps56
    go_wp2_with (go_at_call 55; (first | (with_reducible refine (num_is _ _ _ HP).mono ?_) | (with_reducible refine (num_is _ _ _ HE).mono ?_) | (with_reducible refine (num_is _ _ _ HQ).mono ?_)); rintro e w' ⟨rfl, rfl⟩)
    go_ret
    exact ⟨rfl, one_box _⟩

set_option maxRecDepth 100000 in
set_option maxHeartbeats 1000000 in
theorem rall_ok (p e q : Int) (A : Option Addr) (l : List R) (cap B : Nat) (x : Int) (w : World) (hR : Hid (Reads w B A l)) (hB : B ≤ w.heap.size) (hl : l.length ≤ 20) (hs : Hid (∀ r ∈ l, r.key.size ≤ maxLen ∧ r.val.size ≤ maxLen))
    (HP : Hid (numB p = true)) (HE : Hid (numB e = true)) (HQ : Hid (numB q = true)) (h7 : 0 < l.length) (h8 : l.length ≤ 16) (HX : Hid (chkL l = x)) :
    Calls Tryz.prog 56 #[.agg #[.int .i64 p, .int .i64 e, .int .i64 q, .slice A l.length cap]] w fun e w' => e = .returned (.int .i64 x) ∧ Below w.heap.size w w' := by
  obtain ⟨g, rfl, hg, hcells⟩ := hR.out h7
  have HC := Lib.hid hcells
  clear hcells
  have h9 : ((l.length : Int) == 0) = false := by rw [beq_eq_false_iff_ne]; omega
  go_enter Tryz.func56, Tryz.ntmps56
  go_wp2_with (go_at_call 55; (first | (with_reducible refine (num_is _ _ _ HP).mono ?_) | (with_reducible refine (num_is _ _ _ HE).mono ?_) | (with_reducible refine (num_is _ _ _ HQ).mono ?_)); rintro e w' ⟨rfl, rfl⟩)
  go_loopw [3] (fun i wr => ∃ k : Nat, k ≤ l.length ∧ i = .int .i64 k ∧ Below (w.heap.size + 1) (w.alloc (.cells #[.int .i64 p, .int .i64 e, .int .i64 q, .slice (some ⟨g, 0, none⟩) l.length cap] 26)) wr ∧ Hid (chkL (l.drop k) = x)) (fun i _ => l.length - (intOf i).toNat)
  case atStart => exact ⟨0, by omega, rfl, Below.refl _ _, by simpa using HX⟩
  case round =>
    obtain ⟨k, hk, rfl, hbel, hX⟩ := hrel
    have hbox : wr.cell? ⟨w.heap.size, 3, none⟩ = some (.slice (some ⟨g, 0, none⟩) l.length cap) := (hbel.cell (p := ⟨w.heap.size, 3, none⟩) (by show w.heap.size < _; omega)).trans (by simp [go_sem])
    have hbel0 : Below w.heap.size w wr := (one_box _).trans (hbel.mono (by omega))
    have hsz : w.heap.size + 1 ≤ wr.heap.size := by have := hbel.size; simpa using this
    by_cases hlt : k < l.length
    · obtain ⟨⟨rk, key, tb, val⟩, hr⟩ : ∃ r, l[k]? = some r := ⟨l[k], List.getElem?_eq_getElem hlt⟩
      obtain ⟨z1, z2⟩ := hs.out _ (List.mem_of_getElem? hr)
      have Z1 := Lib.hid z1
      have Z2 := Lib.hid z2
      obtain ⟨c0, c1, c2, c3⟩ := HC.out k _ hr
      have d0 := (hbel0.cell (p := ⟨g, k * 4, none⟩) (by show g < _; omega)).trans c0
      have d1 := (hbel0.cell (p := ⟨g, k * 4 + 1, none⟩) (by show g < _; omega)).trans c1
      have d2 := (hbel0.cell (p := ⟨g, k * 4 + 2, none⟩) (by show g < _; omega)).trans c2
      have d3 := (hbel0.cell (p := ⟨g, k * 4 + 3, none⟩) (by show g < _; omega)).trans c3
      have HR := Lib.hid hr
      clear c0 c1 c2 c3 hr z1 z2
      dsimp only at d0 d1 d2 d3 Z1 Z2
      obtain ⟨y, hy⟩ : ∃ y, chk rk key tb val = y := ⟨_, rfl⟩
      have HY := Lib.hid hy
      have hnext := chkL_next HR.out hy
      clear hy
      by_cases hy0 : y = 0
      · subst hy0
        have hX' : Hid (chkL (l.drop (k + 1)) = x) := Lib.hid ((hnext.2 rfl).symm.trans hX.out)
        clear hnext
        go_wp2_with (go_at_call 74; refine (refcheck_any _ _ _ _ _ Z1.out Z2.out).mono ?_; rw [HY.out]; rintro e w1 ⟨rfl, hb1⟩)
        go_roundw
        case rel => exact ⟨k + 1, by omega, by go_num, hbel.trans (hb1.mono hsz), hX'⟩
        case measure => simp [intOf]; omega
      · have hy1 : (y != 0) = true := by simpa using hy0
        obtain rfl : x = y := hX.out.symm.trans (hnext.1 hy0)
        clear hnext hy0
        go_wp2_with (go_at_call 74; refine (refcheck_any _ _ _ _ _ Z1.out Z2.out).mono ?_; rw [HY.out]; rintro e w1 ⟨rfl, hb1⟩)
        go_ret
        exact ⟨rfl, hbel0.trans (hb1.mono (by omega))⟩
    · obtain rfl : k = l.length := by omega
      have hx0 : x = 0 := by have := hX.out; rw [List.drop_length] at this; exact this.symm
      subst hx0
      go_wp2_with fail
      go_ret
      exact ⟨rfl, hbel0⟩

theorem rall_is (p e q : Int) (A : Option Addr) (l : List R) (cap B : Nat) (x : Int) (w : World) (hR : Hid (Reads w B A l)) (hB : B ≤ w.heap.size) (hl : l.length ≤ 20) (hs : Hid (∀ r ∈ l, r.key.size ≤ maxLen ∧ r.val.size ≤ maxLen)) (HX : Hid (allN p e q l = x)) :
    Calls Tryz.prog 56 #[.agg #[.int .i64 p, .int .i64 e, .int .i64 q, .slice A l.length cap]] w fun e w' => e = .returned (.int .i64 x) ∧ Below w.heap.size w w' := by
  have hx := HX.out
  unfold allN at hx
  cases hn : (numB p && numB e && numB q) with
  | false =>
    rw [if_pos hn] at hx
    subst hx
    exact rall_arg p e q A l.length cap w (Lib.hid hn)
  | true =>
    rw [hn, if_neg (by decide)] at hx
    simp only [Bool.and_eq_true] at hn
    by_cases h0 : l.length = 0
    · rw [if_pos h0] at hx
      have k := rall_none p e q A l.length cap w (Lib.hid hn.1.1) (Lib.hid hn.1.2) (Lib.hid hn.2) (.inl h0)
      rw [if_pos h0, hx] at k
      exact k
    · rw [if_neg h0] at hx
      by_cases h1 : 16 < l.length
      · rw [if_pos h1] at hx
        have k := rall_none p e q A l.length cap w (Lib.hid hn.1.1) (Lib.hid hn.1.2) (Lib.hid hn.2) (.inr ⟨h1, by unfold maxLen; omega⟩)
        rw [if_neg h0, hx] at k
        exact k
      · rw [if_neg h1] at hx
        exact rall_ok p e q A l cap B x w hR hB hl hs (Lib.hid hn.1.1) (Lib.hid hn.1.2) (Lib.hid hn.2) (by omega) (by omega) (Lib.hid hx)
end Go.Proofs.YtijofikpdhapoaaGreat.L3
/-
  Contracts: a record's bytes, in one; how many they are; the document's own.
-/
namespace Go.Proofs.YtijofikpdhapoaaGreat.L3
open Go.RowKit

theorem put_is (hk : Bool) (k : ByteArray) (tb : Bool) (v : ByteArray) (x : Int) (p : ByteArray) (w : World) (h1 : k.size ≤ maxLen) (h2 : v.size ≤ maxLen) (HC : Hid (chk hk k tb v = x)) (HP : Hid (putT hk k tb v = p)) :
    Calls Tryz.prog 38 #[.agg #[.bool hk, .string k, .bool tb, .string v]] w fun e w' => e = .returned (.tuple #[.string p, .int .i64 x]) ∧ Below w.heap.size w w' := by
  have hp := HP.out
  unfold putT at hp
  by_cases h : x = 0
  · subst h
    obtain ⟨q1, q2, q3, q4⟩ := chk_parts HC.out
    have e1 := txt_size k (by omega)
    have e2 := txt_size v (by omega)
    rw [if_pos HC.out] at hp
    subst hp
    cases hk
    · obtain ⟨_, rfl⟩ := q3 rfl
      exact put_zero k v _ w q1 q2 (by omega) (Lib.hid rfl) HC
    · cases tb
      · exact put_one k v _ _ w q1 q2 (by omega) (by omega) (Lib.hid rfl) (Lib.hid rfl) HC
      · exact put_three k v _ w q1 q2 (by omega) (Lib.hid rfl) HC
  · rw [if_neg (by rw [HC.out]; exact h)] at hp
    subst hp
    exact put_err hk k tb v x w h1 h2 (by simpa using h) HC

/-- the two texts of a record in its box, all that was ahead of it as it was -/
theorem keep_call {w w1 w2 : World} {g : Nat} {k v : Value} (h : (w1.cell? ⟨g, 1, none⟩ = some k ∧ w1.cell? ⟨g, 3, none⟩ = some v) ∧ Below g w w1 ∧ g < w1.heap.size) (hb : Below w1.heap.size w1 w2) :
    (w2.cell? ⟨g, 1, none⟩ = some k ∧ w2.cell? ⟨g, 3, none⟩ = some v) ∧ Below g w w2 ∧ g < w2.heap.size :=
  ⟨⟨(hb.cell (p := ⟨g, 1, none⟩) h.2.2).trans h.1.1, (hb.cell (p := ⟨g, 3, none⟩) h.2.2).trans h.1.2⟩, h.2.1.trans (hb.mono (by have := h.2.2; omega)), Nat.lt_of_lt_of_le h.2.2 hb.size⟩

set_option maxRecDepth 100000 in
set_option maxHeartbeats 1000000 in
theorem reftext_one (k v tk tv : ByteArray) (w : World) (hk1 : k.size ≤ 64) (hv1 : v.size ≤ 512) (htk : tk.size ≤ 100) (htv : tv.size ≤ 600) (TK : Hid (txt k = tk)) (TV : Hid (txt v = tv)) :
    Calls Tryz.prog 75 #[.agg #[.bool true, .string k, .bool false, .string v]] w fun e w' => e = .returned (.string (⟨#[1]⟩ ++ tk ++ tv)) ∧ Below w.heap.size w w' := by
  go_enter Tryz.func75, Tryz.ntmps75
  go_wp2_with fail
  have hS : ((w.alloc (.cells #[.bool true, .string k, .bool false, .string v] 35)).cell? ⟨w.heap.size, 1, none⟩ = some (.string k) ∧ (w.alloc (.cells #[.bool true, .string k, .bool false, .string v] 35)).cell? ⟨w.heap.size, 3, none⟩ = some (.string v)) ∧ Below w.heap.size w (w.alloc (.cells #[.bool true, .string k, .bool false, .string v] 35)) ∧ w.heap.size < (w.alloc (.cells #[.bool true, .string k, .bool false, .string v] 35)).heap.size :=
    ⟨⟨by simp [go_sem], by simp [go_sem]⟩, one_box _, by simp⟩
  have hno1 : (9223372036854775807 < 1 + tk.size) = False := by simp; omega
  have hno2 : (9223372036854775807 < 1 + tk.size + tv.size) = False := by simp; omega
  go_region_held3 (fun w' => (w'.cell? ⟨w.heap.size, 1, none⟩ = some (.string k) ∧ w'.cell? ⟨w.heap.size, 3, none⟩ = some (.string v)) ∧ Below w.heap.size w w' ∧ w.heap.size < w'.heap.size)
    (first | assumption | exact keep_call (by assumption) (by assumption) | exact keep_call (keep_call (by assumption) ((Below.refl _ _).drew)) (by assumption) | exact keep_call (by assumption) ((Below.refl _ _).drew))
    (first
      | (go_at_call 58; (first | (with_reducible refine (reftxt_is _ _ _ (by omega) TK).mono ?_) | (with_reducible refine (reftxt_is _ _ _ (by omega) TV).mono ?_)); rintro e w1 ⟨rfl, hb1⟩))
  go_wp2_with fail
  all_goals
    go_ret
    refine ⟨rfl, ?_⟩
    rename_i hh
    exact hh.2.1

set_option maxHeartbeats 1000000 in
theorem reftext_three (k v tk : ByteArray) (w : World) (hk1 : k.size ≤ 64) (htk : tk.size ≤ 100) (TK : Hid (txt k = tk)) :
    Calls Tryz.prog 75 #[.agg #[.bool true, .string k, .bool true, .string v]] w fun e w' => e = .returned (.string (⟨#[3]⟩ ++ tk)) ∧ Below w.heap.size w w' := by
  have hno1 : (9223372036854775807 < 1 + tk.size) = False := by simp; omega
  go_enter Tryz.func75, Tryz.ntmps75
  go_wp2_with (go_at_call 58; refine (reftxt_is _ _ _ (by omega) TK).mono ?_; rintro e w1 ⟨rfl, hb1⟩)
  go_ret
  exact ⟨rfl, (one_box _).trans (hb1.mono (by simp))⟩
set_option maxHeartbeats 1000000 in
theorem reftext_zero (k v tv : ByteArray) (w : World) (hv1 : v.size ≤ 512) (htv : tv.size ≤ 600) (TV : Hid (txt v = tv)) :
    Calls Tryz.prog 75 #[.agg #[.bool false, .string k, .bool false, .string v]] w fun e w' => e = .returned (.string (⟨#[0]⟩ ++ tv)) ∧ Below w.heap.size w w' := by
  have hno1 : (9223372036854775807 < 1 + tv.size) = False := by simp; omega
  go_enter Tryz.func75, Tryz.ntmps75
  go_wp2_with (go_at_call 58; refine (reftxt_is _ _ _ (by omega) TV).mono ?_; rintro e w1 ⟨rfl, hb1⟩)
  go_ret
  exact ⟨rfl, (one_box _).trans (hb1.mono (by simp))⟩

theorem refrec_is (hk : Bool) (k : ByteArray) (tb : Bool) (v : ByteArray) (p : ByteArray) (w : World) (HC : Hid (chk hk k tb v = 0)) (HP : Hid (putT hk k tb v = p)) :
    Calls Tryz.prog 75 #[.agg #[.bool hk, .string k, .bool tb, .string v]] w fun e w' => e = .returned (.string p) ∧ Below w.heap.size w w' := by
  have hp := HP.out
  unfold putT at hp
  obtain ⟨q1, q2, q3, q4⟩ := chk_parts HC.out
  have e1 := txt_size k (by omega)
  have e2 := txt_size v (by omega)
  rw [if_pos HC.out] at hp
  subst hp
  cases hk
  · obtain ⟨_, rfl⟩ := q3 rfl
    exact reftext_zero k v _ w q2 (by omega) (Lib.hid rfl)
  · cases tb
    · exact reftext_one k v _ _ w q1 q2 (by omega) (by omega) (Lib.hid rfl) (Lib.hid rfl)
    · exact reftext_three k v _ w q1 (by omega) (Lib.hid rfl)

end Go.Proofs.YtijofikpdhapoaaGreat.L3
/-
  Contracts: a batch's bytes, by the document.
-/
namespace Go.Proofs.YtijofikpdhapoaaGreat.L3
open Go.RowKit

/-- a batch's bytes -/
def batN (p e q : Int) (l : List R) : List Nat := V.puts p.toNat ++ (V.puts e.toNat ++ (V.puts q.toNat ++ (V.puts l.length ++ l.flatMap fun r => V.nats r.put)))
def batT (p e q : Int) (l : List R) : ByteArray := V.bytesOf (batN p e q l)
theorem batN_byte (p e q : Int) (l : List R) : ∀ b ∈ batN p e q l, b < 256 := by
  intro b hb
  simp only [batN, List.mem_append, List.mem_flatMap] at hb
  rcases hb with h | h | h | h | ⟨r, _, h⟩
  · exact V.puts_byte _ b h
  · exact V.puts_byte _ b h
  · exact V.puts_byte _ b h
  · exact V.puts_byte _ b h
  · exact V.nats_byte _ b h
theorem nats_bat (p e q : Int) (l : List R) : V.nats (batT p e q l) = batN p e q l := V.nats_bytesOf (batN_byte p e q l)

theorem chkL_all : ∀ (l : List R), chkL l = 0 → ∀ r ∈ l, r.chk = 0
  | [], _, r, h => by simp at h
  | q :: t, h, r, hr => by
    have h' : (if q.chk ≠ 0 then q.chk else chkL t) = 0 := h
    by_cases hq : q.chk = 0
    · rw [if_neg (by simpa using hq)] at h'
      rcases List.mem_cons.1 hr with rfl | hr
      · exact hq
      · exact chkL_all t h' r hr
    · rw [if_pos hq] at h'
      exact absurd h' hq
theorem allN_ok {p e q : Int} {l : List R} (h : allN p e q l = 0) : (0 ≤ p ∧ p ≤ 1099511627776) ∧ (0 ≤ e ∧ e ≤ 1099511627776) ∧ (0 ≤ q ∧ q ≤ 1099511627776) ∧ 0 < l.length ∧ l.length ≤ 16 ∧ ∀ r ∈ l, r.chk = 0 := by
  unfold allN at h
  split at h
  · omega
  · rename_i hn
    split at h
    · omega
    · split at h
      · omega
      · have hn' : (numB p && numB e && numB q) = true := eq_true_of_ne_false hn
        simp only [numB, Bool.and_eq_true, decide_eq_true_eq] at hn'
        exact ⟨hn'.1.1, hn'.1.2, hn'.2, by omega, by omega, chkL_all l h⟩

theorem rput_is (n : Int) (s : ByteArray) (w : World) (h0 : 0 ≤ n) (h1 : n ≤ 1099511627776) (h : Hid (V.put n.toNat = s)) :
    Calls Tryz.prog 57 #[.int .u64 n] w fun e w' => e = .returned (.string s) ∧ Below w.heap.size w w' := by
  have k := refput_any n.toNat n w (by omega) h0 (by omega)
  rw [h.out] at k
  exact k

/-- the bytes of the first records -/
theorem bat_next {l : List R} {k : Nat} {hk tb : Bool} {key val : ByteArray} {hd : List Nat} {s p : ByteArray} (hr : l[k]? = some ⟨hk, key, tb, val⟩) (hp : putT hk key tb val = p)
    (h : V.nats s = hd ++ (l.take k).flatMap fun r => V.nats r.put) : V.nats (s ++ p) = hd ++ (l.take (k + 1)).flatMap fun r => V.nats r.put := by
  rw [V.nats_append, h, List.take_add_one, hr, List.flatMap_append, List.append_assoc]
  congr 2
  rw [← hp]
  simp [R.put]
theorem flat_le (l : List R) (k : Nat) : ((l.take k).flatMap fun r => V.nats r.put).length ≤ 600 * k := by
  induction k with
  | zero => simp
  | succ k ih =>
    cases hr : l[k]? with
    | none =>
      have hl : l.length ≤ k := List.getElem?_eq_none_iff.1 hr
      rw [List.take_of_length_le (by omega)]
      rw [List.take_of_length_le hl] at ih
      omega
    | some r =>
      rw [List.take_add_one, hr, List.flatMap_append, List.length_append]
      have := putT_size r.hk r.key r.tb r.val
      have e : (List.flatMap (fun r : R => V.nats r.put) (some r).toList).length = (putT r.hk r.key r.tb r.val).size := by simp [R.put, V.nats_len]
      rw [e]
      omega

theorem keep4 {w w1 w2 : World} {g : Nat} {a b c d : Value} (h : (w1.cell? ⟨g, 0, none⟩ = some a ∧ w1.cell? ⟨g, 1, none⟩ = some b ∧ w1.cell? ⟨g, 2, none⟩ = some c ∧ w1.cell? ⟨g, 3, none⟩ = some d) ∧ Below g w w1 ∧ g < w1.heap.size) (hb : Below w1.heap.size w1 w2) :
    (w2.cell? ⟨g, 0, none⟩ = some a ∧ w2.cell? ⟨g, 1, none⟩ = some b ∧ w2.cell? ⟨g, 2, none⟩ = some c ∧ w2.cell? ⟨g, 3, none⟩ = some d) ∧ Below g w w2 ∧ g < w2.heap.size :=
  ⟨⟨(hb.cell (p := ⟨g, 0, none⟩) h.2.2).trans h.1.1, (hb.cell (p := ⟨g, 1, none⟩) h.2.2).trans h.1.2.1, (hb.cell (p := ⟨g, 2, none⟩) h.2.2).trans h.1.2.2.1, (hb.cell (p := ⟨g, 3, none⟩) h.2.2).trans h.1.2.2.2⟩, h.2.1.trans (hb.mono (by have := h.2.2; omega)), Nat.lt_of_lt_of_le h.2.2 hb.size⟩

theorem put_le (n : Int) (h1 : n ≤ 1099511627776) : (V.put n.toNat).size ≤ 10 := by rw [V.put_size]; exact V.puts_len _ (by omega)

set_option maxRecDepth 100000 in
set_option maxHeartbeats 4000000 in
theorem rbatch_ok (p e q : Int) (A : Option Addr) (l : List R) (cap B : Nat) (w : World) (hR : Hid (Reads w B A l)) (hB : B ≤ w.heap.size) (hs : Hid (∀ r ∈ l, r.key.size ≤ maxLen ∧ r.val.size ≤ maxLen)) (HX : Hid (allN p e q l = 0)) :
    Calls Tryz.prog 59 #[.agg #[.int .i64 p, .int .i64 e, .int .i64 q, .slice A l.length cap]] w fun e' w' => e' = .returned (.tuple #[.string (batT p e q l), .int .i64 0]) ∧ Below w.heap.size w w' := by
  obtain ⟨⟨p0, p1⟩, ⟨e0, e1⟩, ⟨q0, q1⟩, l0, l1, hall⟩ := allN_ok HX.out
  have HALL := Lib.hid hall
  obtain ⟨sp, hsp⟩ : ∃ s, V.put p.toNat = s := ⟨_, rfl⟩
  obtain ⟨se, hse⟩ : ∃ s, V.put e.toNat = s := ⟨_, rfl⟩
  obtain ⟨sq, hsq⟩ : ∃ s, V.put q.toNat = s := ⟨_, rfl⟩
  obtain ⟨sn, hsn⟩ : ∃ s, V.put (l.length : Int).toNat = s := ⟨_, rfl⟩
  have zp : sp.size ≤ 10 := by rw [← hsp]; exact put_le _ p1
  have ze : se.size ≤ 10 := by rw [← hse]; exact put_le _ e1
  have zq : sq.size ≤ 10 := by rw [← hsq]; exact put_le _ q1
  have zn : sn.size ≤ 10 := by rw [← hsn]; exact put_le _ (by omega)
  have SP := Lib.hid hsp
  have SE := Lib.hid hse
  have SQ := Lib.hid hsq
  have SN := Lib.hid hsn
  have hd : Hid (V.nats (sp ++ se ++ sq ++ sn) = V.puts p.toNat ++ (V.puts e.toNat ++ (V.puts q.toNat ++ V.puts l.length))) := Lib.hid (by rw [← hsp, ← hse, ← hsq, ← hsn]; simp [V.nats_append, V.nats_put])
  obtain ⟨g, rfl, hg, hcells⟩ := hR.out l0
  have HC := Lib.hid hcells
  clear hcells hall hsp hse hsq hsn
  go_enter Tryz.func59, Tryz.ntmps59
  go_wp2_with (go_at_call 56; refine (rall_is _ _ _ _ _ _ _ _ _ (Lib.hid (hR.out.below ((one_box _).mono hB))) (by simp; omega) (by omega) hs HX).mono ?_; rintro e w1 ⟨rfl, hb1⟩)
  have hS : (w1.cell? ⟨w.heap.size, 0, none⟩ = some (.int .i64 p) ∧ w1.cell? ⟨w.heap.size, 1, none⟩ = some (.int .i64 e) ∧ w1.cell? ⟨w.heap.size, 2, none⟩ = some (.int .i64 q) ∧ w1.cell? ⟨w.heap.size, 3, none⟩ = some (.slice (some ⟨g, 0, none⟩) l.length cap)) ∧ Below w.heap.size w w1 ∧ w.heap.size < w1.heap.size := keep4 ⟨⟨by simp [go_sem], by simp [go_sem], by simp [go_sem], by simp [go_sem]⟩, one_box _, by simp⟩ hb1
  have cp : IntKind.u64.wrap p = p := by rw [IntKind.wrap_u64]; omega
  have ce : IntKind.u64.wrap e = e := by rw [IntKind.wrap_u64]; omega
  have cq : IntKind.u64.wrap q = q := by rw [IntKind.wrap_u64]; omega
  have cn : IntKind.u64.wrap (l.length : Int) = (l.length : Int) := by rw [IntKind.wrap_u64]; omega
  have n1 : (9223372036854775807 < sp.size + se.size) = False := by simp; omega
  have n2 : (9223372036854775807 < sp.size + se.size + sq.size) = False := by simp; omega
  have n3 : (9223372036854775807 < sp.size + se.size + sq.size + sn.size) = False := by simp; omega
  have P0 := Lib.hid p0
  have E0 := Lib.hid e0
  have Q0 := Lib.hid q0
  have P1 := Lib.hid p1
  have E1 := Lib.hid e1
  have Q1 := Lib.hid q1
  go_region_held3 (fun w' => (w'.cell? ⟨w.heap.size, 0, none⟩ = some (.int .i64 p) ∧ w'.cell? ⟨w.heap.size, 1, none⟩ = some (.int .i64 e) ∧ w'.cell? ⟨w.heap.size, 2, none⟩ = some (.int .i64 q) ∧ w'.cell? ⟨w.heap.size, 3, none⟩ = some (.slice (some ⟨g, 0, none⟩) l.length cap)) ∧ Below w.heap.size w w' ∧ w.heap.size < w'.heap.size)
    (first | assumption | exact keep4 (by assumption) ((Below.refl _ _).drew) | exact keep4 (keep4 (by assumption) ((Below.refl _ _).drew)) (by assumption) | exact keep4 (by assumption) (by assumption))
    (first
      | (go_at_call 57; (first | (with_reducible refine (rput_is _ _ _ P0.out P1.out SP).mono ?_) | (with_reducible refine (rput_is _ _ _ E0.out E1.out SE).mono ?_) | (with_reducible refine (rput_is _ _ _ Q0.out Q1.out SQ).mono ?_) | (with_reducible refine (rput_is _ _ _ (by omega) (by omega) SN).mono ?_)); rintro e2 w2 ⟨rfl, hb2⟩))
  rename_i hh
  go_wp2_with fail
  obtain ⟨hhc, hhb, hhz⟩ := hh
  have hc3 := hhc.2.2.2
  clear hhc hS cp ce cq cn n1 n2 n3 hb1
  go_loopw [5, 6] (fun s i wr => ∃ (k : Nat) (S : ByteArray), k ≤ l.length ∧ i = .int .i64 k ∧ s = .string S ∧ Hid (V.nats S = (V.puts p.toNat ++ (V.puts e.toNat ++ (V.puts q.toNat ++ V.puts l.length))) ++ (l.take k).flatMap fun r => V.nats r.put) ∧ Below w.heap.size w wr ∧ w.heap.size < wr.heap.size ∧ wr.cell? ⟨w.heap.size, 3, none⟩ = some (.slice (some ⟨g, 0, none⟩) l.length cap)) (fun _ i _ => l.length - (intOf i).toNat)
  case atStart => exact ⟨0, _, by omega, rfl, rfl, Lib.hid (by rw [hd.out]; simp), hhb, hhz, hc3⟩
  case round =>
    obtain ⟨k, S, hk, rfl, rfl, hN, hbel, hsz, hbox⟩ := hrel
    have hS1 : S.size ≤ 40 + 600 * k := by
      have := congrArg List.length hN.out
      rw [V.nats_len] at this
      rw [this]
      have f1 := V.puts_len p.toNat (by omega)
      have f2 := V.puts_len e.toNat (by omega)
      have f3 := V.puts_len q.toNat (by omega)
      have f4 := V.puts_len l.length (by omega)
      have f5 := flat_le l k
      simp only [List.length_append]
      omega
    by_cases hlt : k < l.length
    · obtain ⟨⟨rk, key, tb, val⟩, hr⟩ : ∃ r, l[k]? = some r := ⟨l[k], List.getElem?_eq_getElem hlt⟩
      have Z0 : Hid (chk rk key tb val = 0) := Lib.hid (HALL.out _ (List.mem_of_getElem? hr))
      obtain ⟨c0, c1, c2, c3⟩ := HC.out k _ hr
      have d0 := (hbel.cell (p := ⟨g, k * 4, none⟩) (by show g < _; omega)).trans c0
      have d1 := (hbel.cell (p := ⟨g, k * 4 + 1, none⟩) (by show g < _; omega)).trans c1
      have d2 := (hbel.cell (p := ⟨g, k * 4 + 2, none⟩) (by show g < _; omega)).trans c2
      have d3 := (hbel.cell (p := ⟨g, k * 4 + 3, none⟩) (by show g < _; omega)).trans c3
      have HR := Lib.hid hr
      clear c0 c1 c2 c3 hr
      dsimp only at d0 d1 d2 d3
      obtain ⟨t, ht⟩ : ∃ t, putT rk key tb val = t := ⟨_, rfl⟩
      have ht1 : t.size ≤ 600 := by rw [← ht]; exact putT_size _ _ _ _
      have HT := Lib.hid ht
      clear ht
      have nn : (9223372036854775807 < S.size + t.size) = False := by simp; omega
      go_wp2_with (go_at_call 75; refine (refrec_is _ _ _ _ _ _ Z0 HT).mono ?_; rintro e w2 ⟨rfl, hb2⟩)
      go_roundw
      case rel => exact ⟨k + 1, _, by omega, by go_num, rfl, Lib.hid (bat_next HR.out HT.out hN.out), hbel.trans (hb2.mono (by omega)), Nat.lt_of_lt_of_le hsz hb2.size, (hb2.cell (p := ⟨w.heap.size, 3, none⟩) hsz).trans hbox⟩
      case measure => simp [intOf]; omega
    · obtain rfl : k = l.length := by omega
      have hfin : S = batT p e q l := V.nats_inj (by rw [hN.out, nats_bat, List.take_length]; simp [batN])
      have HF := Lib.hid hfin
      clear hfin
      go_wp2_with fail
      go_ret2
      exact ⟨by rw [← HF.out]; rfl, hbel⟩

/-- a batch's bytes, none if it may not be -/
def batP (p e q : Int) (l : List R) : ByteArray := if allN p e q l = 0 then batT p e q l else ⟨#[]⟩
theorem batP_err {p e q : Int} {l : List R} {x : Int} (h : allN p e q l = x) (hx : x ≠ 0) : batP p e q l = ⟨#[]⟩ := if_neg (by rw [h]; exact hx)
theorem batP_ok {p e q : Int} {l : List R} (h : allN p e q l = 0) : batP p e q l = batT p e q l := if_pos h
theorem batP_size (p e q : Int) (l : List R) : (batP p e q l).size ≤ 10000 := by
  by_cases h : allN p e q l = 0
  · rw [batP_ok h]
    obtain ⟨⟨p0, p1⟩, ⟨e0, e1⟩, ⟨q0, q1⟩, l0, l1, hall⟩ := allN_ok h
    rw [← V.nats_len, nats_bat]
    have f1 := V.puts_len p.toNat (by omega)
    have f2 := V.puts_len e.toNat (by omega)
    have f3 := V.puts_len q.toNat (by omega)
    have f4 := V.puts_len l.length (by omega)
    have f5 := flat_le l l.length
    rw [List.take_length] at f5
    simp only [batN, List.length_append]
    omega
  · rw [batP_err rfl h]
    show 0 ≤ 10000
    omega

set_option maxHeartbeats 1000000 in
theorem rbatch_err (p e q : Int) (A : Option Addr) (l : List R) (cap B : Nat) (x : Int) (w : World) (hR : Hid (Reads w B A l)) (hB : B ≤ w.heap.size) (hl : l.length ≤ 20) (hs : Hid (∀ r ∈ l, r.key.size ≤ maxLen ∧ r.val.size ≤ maxLen)) (HX : Hid (allN p e q l = x)) (hx : (x != 0) = true) :
    Calls Tryz.prog 59 #[.agg #[.int .i64 p, .int .i64 e, .int .i64 q, .slice A l.length cap]] w fun e' w' => e' = .returned (.tuple #[.string ⟨#[]⟩, .int .i64 x]) ∧ Below w.heap.size w w' := by
  go_enter Tryz.func59, Tryz.ntmps59
  go_wp2_with (go_at_call 56; refine (rall_is _ _ _ _ _ _ _ _ _ (Lib.hid (hR.out.below ((one_box _).mono hB))) (by simp; omega) hl hs HX).mono ?_; rintro e w1 ⟨rfl, hb1⟩)
  go_ret2
  exact ⟨rfl, (one_box _).trans (hb1.mono (by simp))⟩

theorem rbatch_is (p e q : Int) (A : Option Addr) (l : List R) (cap B : Nat) (x : Int) (t : ByteArray) (w : World) (hR : Hid (Reads w B A l)) (hB : B ≤ w.heap.size) (hl : l.length ≤ 20) (hs : Hid (∀ r ∈ l, r.key.size ≤ maxLen ∧ r.val.size ≤ maxLen)) (HX : Hid (allN p e q l = x)) (HT : Hid (batP p e q l = t)) :
    Calls Tryz.prog 59 #[.agg #[.int .i64 p, .int .i64 e, .int .i64 q, .slice A l.length cap]] w fun e' w' => e' = .returned (.tuple #[.string t, .int .i64 x]) ∧ Below w.heap.size w w' := by
  have ht := HT.out
  by_cases hx : x = 0
  · subst hx
    rw [batP_ok HX.out] at ht
    subst ht
    exact rbatch_ok p e q A l cap B w hR hB hs HX
  · rw [batP_err HX.out hx] at ht
    subst ht
    exact rbatch_err p e q A l cap B x w hR hB hl hs HX (by simpa using hx)
end Go.Proofs.YtijofikpdhapoaaGreat.L3
