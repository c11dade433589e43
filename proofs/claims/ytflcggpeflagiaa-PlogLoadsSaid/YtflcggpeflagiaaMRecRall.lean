/-
  Contracts: whether a batch may be, by the document.
-/
import Derived.Test.YtflcggpeflagiaaMRecAll
import Derived.Test.YtflcggpeflagiaaMText
import Derived.Deep.RegionHeld3
import Derived.IntWalk
namespace Go.Proofs.Ytflcggpeflagiaa.L3
open Go.RowKit

theorem num_is (n : Int) (v : Bool) (w : World) (h : Hid (numB n = v)) :
    Calls Try.prog 66 #[.int .i64 n] w fun e w' => e = .returned (.bool v) ∧ w = w' := by
  have k := num_any n w
  rw [h.out] at k
  exact k

end Go.Proofs.Ytflcggpeflagiaa.L3
/-
  Contracts: a record's bytes, in one; how many they are; the document's own.
-/
namespace Go.Proofs.Ytflcggpeflagiaa.L3
open Go.RowKit

theorem put_is (hk : Bool) (k : ByteArray) (tb : Bool) (v : ByteArray) (x : Int) (p : ByteArray) (w : World) (h1 : k.size ≤ maxLen) (h2 : v.size ≤ maxLen) (HC : Hid (chk hk k tb v = x)) (HP : Hid (putT hk k tb v = p)) :
    Calls Try.prog 75 #[.agg #[.bool hk, .string k, .bool tb, .string v]] w fun e w' => e = .returned (.tuple #[.string p, .int .i64 x]) ∧ Below w.heap.size w w' := by
  have hp := HP.out
  unfold putT at hp
  by_cases h : x = 0
  · subst h
    obtain ⟨q1, q2, q3, q4⟩ := chk_parts HC.out
    have e1 := txt_size k (by omega)
    have e2 := txt_size v (by omega)
    rw [if_pos HC.out] at hp
    subst hp
    cases hk
    · obtain ⟨_, rfl⟩ := q3 rfl
      exact put_zero k v _ w q1 q2 (by omega) (Lib.hid rfl) HC
    · cases tb
      · exact put_one k v _ _ w q1 q2 (by omega) (by omega) (Lib.hid rfl) (Lib.hid rfl) HC
      · exact put_three k v _ w q1 q2 (by omega) (Lib.hid rfl) HC
  · rw [if_neg (by rw [HC.out]; exact h)] at hp
    subst hp
    exact put_err hk k tb v x w h1 h2 (by simpa using h) HC

set_option maxHeartbeats 1000000 in
theorem size_is (hk : Bool) (k : ByteArray) (tb : Bool) (v : ByteArray) (p : ByteArray) (w : World) (h1 : k.size ≤ maxLen) (h2 : v.size ≤ maxLen) (HP : Hid (putT hk k tb v = p)) :
    Calls Try.prog 72 #[.agg #[.bool hk, .string k, .bool tb, .string v]] w fun e w' => e = .returned (.int .i64 p.size) ∧ Below w.heap.size w w' := by
  have H1 := Lib.hid h1
  have H2 := Lib.hid h2
  obtain ⟨x, hx⟩ : ∃ x, chk hk k tb v = x := ⟨_, rfl⟩
  have HX := Lib.hid hx
  clear h1 h2 hx
  go_enter Try.func72, Try.ntmps72
  go_wp2_with (go_at_call 75; refine (put_is _ _ _ _ _ _ _ H1.out H2.out HX HP).mono ?_; rintro e w1 ⟨rfl, hb1⟩)
  go_ret
  exact ⟨rfl, (one_box _).trans (hb1.mono (by simp))⟩

/-- the two texts of a record in its box, all that was ahead of it as it was -/
theorem keep_call {w w1 w2 : World} {g : Nat} {k v : Value} (h : (w1.cell? ⟨g, 1, none⟩ = some k ∧ w1.cell? ⟨g, 3, none⟩ = some v) ∧ Below g w w1 ∧ g < w1.heap.size) (hb : Below w1.heap.size w1 w2) :
    (w2.cell? ⟨g, 1, none⟩ = some k ∧ w2.cell? ⟨g, 3, none⟩ = some v) ∧ Below g w w2 ∧ g < w2.heap.size :=
  ⟨⟨(hb.cell (p := ⟨g, 1, none⟩) h.2.2).trans h.1.1, (hb.cell (p := ⟨g, 3, none⟩) h.2.2).trans h.1.2⟩, h.2.1.trans (hb.mono (by have := h.2.2; omega)), Nat.lt_of_lt_of_le h.2.2 hb.size⟩

set_option maxRecDepth 100000 in
set_option maxHeartbeats 1000000 in
theorem reftext_one (k v tk tv : ByteArray) (w : World) (hk1 : k.size ≤ 64) (hv1 : v.size ≤ 512) (htk : tk.size ≤ 100) (htv : tv.size ≤ 600) (TK : Hid (txt k = tk)) (TV : Hid (txt v = tv)) :
    Calls Try.prog 63 #[.agg #[.bool true, .string k, .bool false, .string v]] w fun e w' => e = .returned (.string (⟨#[1]⟩ ++ tk ++ tv)) ∧ Below w.heap.size w w' := by
  go_enter Try.func63, Try.ntmps63
  go_wp2_with fail
  have hS : ((w.alloc (.cells #[.bool true, .string k, .bool false, .string v] 41)).cell? ⟨w.heap.size, 1, none⟩ = some (.string k) ∧ (w.alloc (.cells #[.bool true, .string k, .bool false, .string v] 41)).cell? ⟨w.heap.size, 3, none⟩ = some (.string v)) ∧ Below w.heap.size w (w.alloc (.cells #[.bool true, .string k, .bool false, .string v] 41)) ∧ w.heap.size < (w.alloc (.cells #[.bool true, .string k, .bool false, .string v] 41)).heap.size :=
    ⟨⟨by simp [go_sem], by simp [go_sem]⟩, one_box _, by simp⟩
  have hno1 : (9223372036854775807 < 1 + tk.size) = False := by simp; omega
  have hno2 : (9223372036854775807 < 1 + tk.size + tv.size) = False := by simp; omega
  go_region_held3 (fun w' => (w'.cell? ⟨w.heap.size, 1, none⟩ = some (.string k) ∧ w'.cell? ⟨w.heap.size, 3, none⟩ = some (.string v)) ∧ Below w.heap.size w w' ∧ w.heap.size < w'.heap.size)
    (first | assumption | exact keep_call (by assumption) (by assumption) | exact keep_call (keep_call (by assumption) ((Below.refl _ _).drew)) (by assumption) | exact keep_call (by assumption) ((Below.refl _ _).drew))
    (first
      | (go_at_call 73; (first | (with_reducible refine (reftxt_is _ _ _ (by omega) TK).mono ?_) | (with_reducible refine (reftxt_is _ _ _ (by omega) TV).mono ?_)); rintro e w1 ⟨rfl, hb1⟩))
  go_wp2_with fail
  all_goals
    go_ret
    refine ⟨rfl, ?_⟩
    rename_i hh
    exact hh.2.1

set_option maxHeartbeats 1000000 in
theorem reftext_three (k v tk : ByteArray) (w : World) (hk1 : k.size ≤ 64) (htk : tk.size ≤ 100) (TK : Hid (txt k = tk)) :
    Calls Try.prog 63 #[.agg #[.bool true, .string k, .bool true, .string v]] w fun e w' => e = .returned (.string (⟨#[3]⟩ ++ tk)) ∧ Below w.heap.size w w' := by
  have hno1 : (9223372036854775807 < 1 + tk.size) = False := by simp; omega
  go_enter Try.func63, Try.ntmps63
  go_wp2_with (go_at_call 73; refine (reftxt_is _ _ _ (by omega) TK).mono ?_; rintro e w1 ⟨rfl, hb1⟩)
  go_ret
  exact ⟨rfl, (one_box _).trans (hb1.mono (by simp))⟩
set_option maxHeartbeats 1000000 in
theorem reftext_zero (k v tv : ByteArray) (w : World) (hv1 : v.size ≤ 512) (htv : tv.size ≤ 600) (TV : Hid (txt v = tv)) :
    Calls Try.prog 63 #[.agg #[.bool false, .string k, .bool false, .string v]] w fun e w' => e = .returned (.string (⟨#[0]⟩ ++ tv)) ∧ Below w.heap.size w w' := by
  have hno1 : (9223372036854775807 < 1 + tv.size) = False := by simp; omega
  go_enter Try.func63, Try.ntmps63
  go_wp2_with (go_at_call 73; refine (reftxt_is _ _ _ (by omega) TV).mono ?_; rintro e w1 ⟨rfl, hb1⟩)
  go_ret
  exact ⟨rfl, (one_box _).trans (hb1.mono (by simp))⟩

theorem refrec_is (hk : Bool) (k : ByteArray) (tb : Bool) (v : ByteArray) (p : ByteArray) (w : World) (HC : Hid (chk hk k tb v = 0)) (HP : Hid (putT hk k tb v = p)) :
    Calls Try.prog 63 #[.agg #[.bool hk, .string k, .bool tb, .string v]] w fun e w' => e = .returned (.string p) ∧ Below w.heap.size w w' := by
  have hp := HP.out
  unfold putT at hp
  obtain ⟨q1, q2, q3, q4⟩ := chk_parts HC.out
  have e1 := txt_size k (by omega)
  have e2 := txt_size v (by omega)
  rw [if_pos HC.out] at hp
  subst hp
  cases hk
  · obtain ⟨_, rfl⟩ := q3 rfl
    exact reftext_zero k v _ w q2 (by omega) (Lib.hid rfl)
  · cases tb
    · exact reftext_one k v _ _ w q1 q2 (by omega) (by omega) (Lib.hid rfl) (Lib.hid rfl)
    · exact reftext_three k v _ w q1 (by omega) (Lib.hid rfl)

end Go.Proofs.Ytflcggpeflagiaa.L3
/-
  Contracts: a batch's bytes, by the document.
-/
namespace Go.Proofs.Ytflcggpeflagiaa.L3
open Go.RowKit

/-- a batch's bytes -/
def batN (p e q : Int) (l : List R) : List Nat := V.puts p.toNat ++ (V.puts e.toNat ++ (V.puts q.toNat ++ (V.puts l.length ++ l.flatMap fun r => V.nats r.put)))
def batT (p e q : Int) (l : List R) : ByteArray := V.bytesOf (batN p e q l)
theorem batN_byte (p e q : Int) (l : List R) : ∀ b ∈ batN p e q l, b < 256 := by
  intro b hb
  simp only [batN, List.mem_append, List.mem_flatMap] at hb
  rcases hb with h | h | h | h | ⟨r, _, h⟩
  · exact V.puts_byte _ b h
  · exact V.puts_byte _ b h
  · exact V.puts_byte _ b h
  · exact V.puts_byte _ b h
  · exact V.nats_byte _ b h
theorem nats_bat (p e q : Int) (l : List R) : V.nats (batT p e q l) = batN p e q l := V.nats_bytesOf (batN_byte p e q l)

theorem chkL_all : ∀ (l : List R), chkL l = 0 → ∀ r ∈ l, r.chk = 0
  | [], _, r, h => by simp at h
  | q :: t, h, r, hr => by
    have h' : (if q.chk ≠ 0 then q.chk else chkL t) = 0 := h
    by_cases hq : q.chk = 0
    · rw [if_neg (by simpa using hq)] at h'
      rcases List.mem_cons.1 hr with rfl | hr
      · exact hq
      · exact chkL_all t h' r hr
    · rw [if_pos hq] at h'
      exact absurd h' hq
theorem allN_ok {p e q : Int} {l : List R} (h : allN p e q l = 0) : (0 ≤ p ∧ p ≤ 1099511627776) ∧ (0 ≤ e ∧ e ≤ 1099511627776) ∧ (0 ≤ q ∧ q ≤ 1099511627776) ∧ 0 < l.length ∧ l.length ≤ 16 ∧ ∀ r ∈ l, r.chk = 0 := by
  unfold allN at h
  split at h
  · omega
  · rename_i hn
    split at h
    · omega
    · split at h
      · omega
      · have hn' : (numB p && numB e && numB q) = true := eq_true_of_ne_false hn
        simp only [numB, Bool.and_eq_true, decide_eq_true_eq] at hn'
        exact ⟨hn'.1.1, hn'.1.2, hn'.2, by omega, by omega, chkL_all l h⟩

theorem rput_is (n : Int) (s : ByteArray) (w : World) (h0 : 0 ≤ n) (h1 : n ≤ 1099511627776) (h : Hid (V.put n.toNat = s)) :
    Calls Try.prog 76 #[.int .u64 n] w fun e w' => e = .returned (.string s) ∧ Below w.heap.size w w' := by
  have k := refput_any n.toNat n w (by omega) h0 (by omega)
  rw [h.out] at k
  exact k

/-- the bytes of the first records -/
theorem bat_next {l : List R} {k : Nat} {hk tb : Bool} {key val : ByteArray} {hd : List Nat} {s p : ByteArray} (hr : l[k]? = some ⟨hk, key, tb, val⟩) (hp : putT hk key tb val = p)
    (h : V.nats s = hd ++ (l.take k).flatMap fun r => V.nats r.put) : V.nats (s ++ p) = hd ++ (l.take (k + 1)).flatMap fun r => V.nats r.put := by
  rw [V.nats_append, h, List.take_add_one, hr, List.flatMap_append, List.append_assoc]
  congr 2
  rw [← hp]
  simp [R.put]
theorem flat_le (l : List R) (k : Nat) : ((l.take k).flatMap fun r => V.nats r.put).length ≤ 600 * k := by
  induction k with
  | zero => simp
  | succ k ih =>
    cases hr : l[k]? with
    | none =>
      have hl : l.length ≤ k := List.getElem?_eq_none_iff.1 hr
      rw [List.take_of_length_le (by omega)]
      rw [List.take_of_length_le hl] at ih
      omega
    | some r =>
      rw [List.take_add_one, hr, List.flatMap_append, List.length_append]
      have := putT_size r.hk r.key r.tb r.val
      have e : (List.flatMap (fun r : R => V.nats r.put) (some r).toList).length = (putT r.hk r.key r.tb r.val).size := by simp [R.put, V.nats_len]
      rw [e]
      omega

theorem keep4 {w w1 w2 : World} {g : Nat} {a b c d : Value} (h : (w1.cell? ⟨g, 0, none⟩ = some a ∧ w1.cell? ⟨g, 1, none⟩ = some b ∧ w1.cell? ⟨g, 2, none⟩ = some c ∧ w1.cell? ⟨g, 3, none⟩ = some d) ∧ Below g w w1 ∧ g < w1.heap.size) (hb : Below w1.heap.size w1 w2) :
    (w2.cell? ⟨g, 0, none⟩ = some a ∧ w2.cell? ⟨g, 1, none⟩ = some b ∧ w2.cell? ⟨g, 2, none⟩ = some c ∧ w2.cell? ⟨g, 3, none⟩ = some d) ∧ Below g w w2 ∧ g < w2.heap.size :=
  ⟨⟨(hb.cell (p := ⟨g, 0, none⟩) h.2.2).trans h.1.1, (hb.cell (p := ⟨g, 1, none⟩) h.2.2).trans h.1.2.1, (hb.cell (p := ⟨g, 2, none⟩) h.2.2).trans h.1.2.2.1, (hb.cell (p := ⟨g, 3, none⟩) h.2.2).trans h.1.2.2.2⟩, h.2.1.trans (hb.mono (by have := h.2.2; omega)), Nat.lt_of_lt_of_le h.2.2 hb.size⟩

theorem put_le (n : Int) (h1 : n ≤ 1099511627776) : (V.put n.toNat).size ≤ 10 := by rw [V.put_size]; exact V.puts_len _ (by omega)

/-- a batch's bytes, none if it may not be -/
def batP (p e q : Int) (l : List R) : ByteArray := if allN p e q l = 0 then batT p e q l else ⟨#[]⟩
theorem batP_err {p e q : Int} {l : List R} {x : Int} (h : allN p e q l = x) (hx : x ≠ 0) : batP p e q l = ⟨#[]⟩ := if_neg (by rw [h]; exact hx)
theorem batP_ok {p e q : Int} {l : List R} (h : allN p e q l = 0) : batP p e q l = batT p e q l := if_pos h
theorem batP_size (p e q : Int) (l : List R) : (batP p e q l).size ≤ 10000 := by
  by_cases h : allN p e q l = 0
  · rw [batP_ok h]
    obtain ⟨⟨p0, p1⟩, ⟨e0, e1⟩, ⟨q0, q1⟩, l0, l1, hall⟩ := allN_ok h
    rw [← V.nats_len, nats_bat]
    have f1 := V.puts_len p.toNat (by omega)
    have f2 := V.puts_len e.toNat (by omega)
    have f3 := V.puts_len q.toNat (by omega)
    have f4 := V.puts_len l.length (by omega)
    have f5 := flat_le l l.length
    rw [List.take_length] at f5
    simp only [batN, List.length_append]
    omega
  · rw [batP_err rfl h]
    show 0 ≤ 10000
    omega

end Go.Proofs.Ytflcggpeflagiaa.L3
