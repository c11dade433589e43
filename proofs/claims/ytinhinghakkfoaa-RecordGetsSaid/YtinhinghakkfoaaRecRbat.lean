/-
  Contracts: a batch's bytes, by the document.
-/
import Derived.Test.YtinhinghakkfoaaRecRall
import Derived.Test.YtinhinghakkfoaaRecPut2
import Derived.Test.YtinhinghakkfoaaRecCut
import Derived.Deep.RegionHeld3
import Derived.IntWalk
namespace Go.Proofs.Ytinhinghakkfoaa.L3
open Go.RowKit

/-- a batch's bytes -/
def batN (p e q : Int) (l : List R) : List Nat := V.puts p.toNat ++ (V.puts e.toNat ++ (V.puts q.toNat ++ (V.puts l.length ++ l.flatMap fun r => V.nats r.put)))
def batT (p e q : Int) (l : List R) : ByteArray := V.bytesOf (batN p e q l)
theorem batN_byte (p e q : Int) (l : List R) : ∀ b ∈ batN p e q l, b < 256 := by
  intro b hb
  simp only [batN, List.mem_append, List.mem_flatMap] at hb
  rcases hb with h | h | h | h | ⟨r, _, h⟩
  · exact V.puts_byte _ b h
  · exact V.puts_byte _ b h
  · exact V.puts_byte _ b h
  · exact V.puts_byte _ b h
  · exact V.nats_byte _ b h
theorem nats_bat (p e q : Int) (l : List R) : V.nats (batT p e q l) = batN p e q l := V.nats_bytesOf (batN_byte p e q l)

theorem chkL_all : ∀ (l : List R), chkL l = 0 → ∀ r ∈ l, r.chk = 0
  | [], _, r, h => by simp at h
  | q :: t, h, r, hr => by
    have h' : (if q.chk ≠ 0 then q.chk else chkL t) = 0 := h
    by_cases hq : q.chk = 0
    · rw [if_neg (by simpa using hq)] at h'
      rcases List.mem_cons.1 hr with rfl | hr
      · exact hq
      · exact chkL_all t h' r hr
    · rw [if_pos hq] at h'
      exact absurd h' hq
theorem allN_ok {p e q : Int} {l : List R} (h : allN p e q l = 0) : (0 ≤ p ∧ p ≤ 1099511627776) ∧ (0 ≤ e ∧ e ≤ 1099511627776) ∧ (0 ≤ q ∧ q ≤ 1099511627776) ∧ 0 < l.length ∧ l.length ≤ 16 ∧ ∀ r ∈ l, r.chk = 0 := by
  unfold allN at h
  split at h
  · omega
  · rename_i hn
    split at h
    · omega
    · split at h
      · omega
      · have hn' : (numB p && numB e && numB q) = true := eq_true_of_ne_false hn
        simp only [numB, Bool.and_eq_true, decide_eq_true_eq] at hn'
        exact ⟨hn'.1.1, hn'.1.2, hn'.2, by omega, by omega, chkL_all l h⟩

theorem rput_is (n : Int) (s : ByteArray) (w : World) (h0 : 0 ≤ n) (h1 : n ≤ 1099511627776) (h : Hid (V.put n.toNat = s)) :
    Calls Try.prog 30 #[.int .u64 n] w fun e w' => e = .returned (.string s) ∧ Below w.heap.size w w' := by
  have k := refput_any n.toNat n w (by omega) h0 (by omega)
  rw [h.out] at k
  exact k

/-- the bytes of the first records -/
theorem bat_next {l : List R} {k : Nat} {hk tb : Bool} {key val : ByteArray} {hd : List Nat} {s p : ByteArray} (hr : l[k]? = some ⟨hk, key, tb, val⟩) (hp : putT hk key tb val = p)
    (h : V.nats s = hd ++ (l.take k).flatMap fun r => V.nats r.put) : V.nats (s ++ p) = hd ++ (l.take (k + 1)).flatMap fun r => V.nats r.put := by
  rw [V.nats_append, h, List.take_add_one, hr, List.flatMap_append, List.append_assoc]
  congr 2
  rw [← hp]
  simp [R.put]
theorem flat_le (l : List R) (k : Nat) : ((l.take k).flatMap fun r => V.nats r.put).length ≤ 600 * k := by
  induction k with
  | zero => simp
  | succ k ih =>
    cases hr : l[k]? with
    | none =>
      have hl : l.length ≤ k := List.getElem?_eq_none_iff.1 hr
      rw [List.take_of_length_le (by omega)]
      rw [List.take_of_length_le hl] at ih
      omega
    | some r =>
      rw [List.take_add_one, hr, List.flatMap_append, List.length_append]
      have := putT_size r.hk r.key r.tb r.val
      have e : (List.flatMap (fun r : R => V.nats r.put) (some r).toList).length = (putT r.hk r.key r.tb r.val).size := by simp [R.put, V.nats_len]
      rw [e]
      omega

theorem keep4 {w w1 w2 : World} {g : Nat} {a b c d : Value} (h : (w1.cell? ⟨g, 0, none⟩ = some a ∧ w1.cell? ⟨g, 1, none⟩ = some b ∧ w1.cell? ⟨g, 2, none⟩ = some c ∧ w1.cell? ⟨g, 3, none⟩ = some d) ∧ Below g w w1 ∧ g < w1.heap.size) (hb : Below w1.heap.size w1 w2) :
    (w2.cell? ⟨g, 0, none⟩ = some a ∧ w2.cell? ⟨g, 1, none⟩ = some b ∧ w2.cell? ⟨g, 2, none⟩ = some c ∧ w2.cell? ⟨g, 3, none⟩ = some d) ∧ Below g w w2 ∧ g < w2.heap.size :=
  ⟨⟨(hb.cell (p := ⟨g, 0, none⟩) h.2.2).trans h.1.1, (hb.cell (p := ⟨g, 1, none⟩) h.2.2).trans h.1.2.1, (hb.cell (p := ⟨g, 2, none⟩) h.2.2).trans h.1.2.2.1, (hb.cell (p := ⟨g, 3, none⟩) h.2.2).trans h.1.2.2.2⟩, h.2.1.trans (hb.mono (by have := h.2.2; omega)), Nat.lt_of_lt_of_le h.2.2 hb.size⟩

theorem put_le (n : Int) (h1 : n ≤ 1099511627776) : (V.put n.toNat).size ≤ 10 := by rw [V.put_size]; exact V.puts_len _ (by omega)

set_option maxRecDepth 100000 in
set_option maxHeartbeats 4000000 in
theorem rbatch_ok (p e q : Int) (A : Option Addr) (l : List R) (cap B : Nat) (w : World) (hR : Hid (Reads w B A l)) (hB : B ≤ w.heap.size) (hs : Hid (∀ r ∈ l, r.key.size ≤ maxLen ∧ r.val.size ≤ maxLen)) (HX : Hid (allN p e q l = 0)) :
    Calls Try.prog 14 #[.agg #[.int .i64 p, .int .i64 e, .int .i64 q, .slice A l.length cap]] w fun e' w' => e' = .returned (.tuple #[.string (batT p e q l), .int .i64 0]) ∧ Below w.heap.size w w' := by
  obtain ⟨⟨p0, p1⟩, ⟨e0, e1⟩, ⟨q0, q1⟩, l0, l1, hall⟩ := allN_ok HX.out
  have HALL := Lib.hid hall
  obtain ⟨sp, hsp⟩ : ∃ s, V.put p.toNat = s := ⟨_, rfl⟩
  obtain ⟨se, hse⟩ : ∃ s, V.put e.toNat = s := ⟨_, rfl⟩
  obtain ⟨sq, hsq⟩ : ∃ s, V.put q.toNat = s := ⟨_, rfl⟩
  obtain ⟨sn, hsn⟩ : ∃ s, V.put (l.length : Int).toNat = s := ⟨_, rfl⟩
  have zp : sp.size ≤ 10 := by rw [← hsp]; exact put_le _ p1
  have ze : se.size ≤ 10 := by rw [← hse]; exact put_le _ e1
  have zq : sq.size ≤ 10 := by rw [← hsq]; exact put_le _ q1
  have zn : sn.size ≤ 10 := by rw [← hsn]; exact put_le _ (by omega)
  have SP := Lib.hid hsp
  have SE := Lib.hid hse
  have SQ := Lib.hid hsq
  have SN := Lib.hid hsn
  have hd : Hid (V.nats (sp ++ se ++ sq ++ sn) = V.puts p.toNat ++ (V.puts e.toNat ++ (V.puts q.toNat ++ V.puts l.length))) := Lib.hid (by rw [← hsp, ← hse, ← hsq, ← hsn]; simp [V.nats_append, V.nats_put])
  obtain ⟨g, rfl, hg, hcells⟩ := hR.out l0
  have HC := Lib.hid hcells
  clear hcells hall hsp hse hsq hsn
  go_enter Try.func14, Try.ntmps14
  go_wp2_with (go_at_call 18; refine (rall_is _ _ _ _ _ _ _ _ _ (Lib.hid (hR.out.below ((one_box _).mono hB))) (by simp; omega) (by omega) hs HX).mono ?_; rintro e w1 ⟨rfl, hb1⟩)
  have hS : (w1.cell? ⟨w.heap.size, 0, none⟩ = some (.int .i64 p) ∧ w1.cell? ⟨w.heap.size, 1, none⟩ = some (.int .i64 e) ∧ w1.cell? ⟨w.heap.size, 2, none⟩ = some (.int .i64 q) ∧ w1.cell? ⟨w.heap.size, 3, none⟩ = some (.slice (some ⟨g, 0, none⟩) l.length cap)) ∧ Below w.heap.size w w1 ∧ w.heap.size < w1.heap.size := keep4 ⟨⟨by simp [go_sem], by simp [go_sem], by simp [go_sem], by simp [go_sem]⟩, one_box _, by simp⟩ hb1
  have cp : IntKind.u64.wrap p = p := by rw [IntKind.wrap_u64]; omega
  have ce : IntKind.u64.wrap e = e := by rw [IntKind.wrap_u64]; omega
  have cq : IntKind.u64.wrap q = q := by rw [IntKind.wrap_u64]; omega
  have cn : IntKind.u64.wrap (l.length : Int) = (l.length : Int) := by rw [IntKind.wrap_u64]; omega
  have n1 : (9223372036854775807 < sp.size + se.size) = False := by simp; omega
  have n2 : (9223372036854775807 < sp.size + se.size + sq.size) = False := by simp; omega
  have n3 : (9223372036854775807 < sp.size + se.size + sq.size + sn.size) = False := by simp; omega
  have P0 := Lib.hid p0
  have E0 := Lib.hid e0
  have Q0 := Lib.hid q0
  have P1 := Lib.hid p1
  have E1 := Lib.hid e1
  have Q1 := Lib.hid q1
  go_region_held3 (fun w' => (w'.cell? ⟨w.heap.size, 0, none⟩ = some (.int .i64 p) ∧ w'.cell? ⟨w.heap.size, 1, none⟩ = some (.int .i64 e) ∧ w'.cell? ⟨w.heap.size, 2, none⟩ = some (.int .i64 q) ∧ w'.cell? ⟨w.heap.size, 3, none⟩ = some (.slice (some ⟨g, 0, none⟩) l.length cap)) ∧ Below w.heap.size w w' ∧ w.heap.size < w'.heap.size)
    (first | assumption | exact keep4 (by assumption) ((Below.refl _ _).drew) | exact keep4 (keep4 (by assumption) ((Below.refl _ _).drew)) (by assumption) | exact keep4 (by assumption) (by assumption))
    (first
      | (go_at_call 30; (first | (with_reducible refine (rput_is _ _ _ P0.out P1.out SP).mono ?_) | (with_reducible refine (rput_is _ _ _ E0.out E1.out SE).mono ?_) | (with_reducible refine (rput_is _ _ _ Q0.out Q1.out SQ).mono ?_) | (with_reducible refine (rput_is _ _ _ (by omega) (by omega) SN).mono ?_)); rintro e2 w2 ⟨rfl, hb2⟩))
  rename_i hh
  go_wp2_with fail
  obtain ⟨hhc, hhb, hhz⟩ := hh
  have hc3 := hhc.2.2.2
  clear hhc hS cp ce cq cn n1 n2 n3 hb1
  go_loopw [5, 6] (fun s i wr => ∃ (k : Nat) (S : ByteArray), k ≤ l.length ∧ i = .int .i64 k ∧ s = .string S ∧ Hid (V.nats S = (V.puts p.toNat ++ (V.puts e.toNat ++ (V.puts q.toNat ++ V.puts l.length))) ++ (l.take k).flatMap fun r => V.nats r.put) ∧ Below w.heap.size w wr ∧ w.heap.size < wr.heap.size ∧ wr.cell? ⟨w.heap.size, 3, none⟩ = some (.slice (some ⟨g, 0, none⟩) l.length cap)) (fun _ i _ => l.length - (intOf i).toNat)
  case atStart => exact ⟨0, _, by omega, rfl, rfl, Lib.hid (by rw [hd.out]; simp), hhb, hhz, hc3⟩
  case round =>
    obtain ⟨k, S, hk, rfl, rfl, hN, hbel, hsz, hbox⟩ := hrel
    have hS1 : S.size ≤ 40 + 600 * k := by
      have := congrArg List.length hN.out
      rw [V.nats_len] at this
      rw [this]
      have f1 := V.puts_len p.toNat (by omega)
      have f2 := V.puts_len e.toNat (by omega)
      have f3 := V.puts_len q.toNat (by omega)
      have f4 := V.puts_len l.length (by omega)
      have f5 := flat_le l k
      simp only [List.length_append]
      omega
    by_cases hlt : k < l.length
    · obtain ⟨⟨rk, key, tb, val⟩, hr⟩ : ∃ r, l[k]? = some r := ⟨l[k], List.getElem?_eq_getElem hlt⟩
      have Z0 : Hid (chk rk key tb val = 0) := Lib.hid (HALL.out _ (List.mem_of_getElem? hr))
      obtain ⟨c0, c1, c2, c3⟩ := HC.out k _ hr
      have d0 := (hbel.cell (p := ⟨g, k * 4, none⟩) (by show g < _; omega)).trans c0
      have d1 := (hbel.cell (p := ⟨g, k * 4 + 1, none⟩) (by show g < _; omega)).trans c1
      have d2 := (hbel.cell (p := ⟨g, k * 4 + 2, none⟩) (by show g < _; omega)).trans c2
      have d3 := (hbel.cell (p := ⟨g, k * 4 + 3, none⟩) (by show g < _; omega)).trans c3
      have HR := Lib.hid hr
      clear c0 c1 c2 c3 hr
      dsimp only at d0 d1 d2 d3
      obtain ⟨t, ht⟩ : ∃ t, putT rk key tb val = t := ⟨_, rfl⟩
      have ht1 : t.size ≤ 600 := by rw [← ht]; exact putT_size _ _ _ _
      have HT := Lib.hid ht
      clear ht
      have nn : (9223372036854775807 < S.size + t.size) = False := by simp; omega
      go_wp2_with (go_at_call 28; refine (refrec_is _ _ _ _ _ _ Z0 HT).mono ?_; rintro e w2 ⟨rfl, hb2⟩)
      go_roundw
      case rel => exact ⟨k + 1, _, by omega, by go_num, rfl, Lib.hid (bat_next HR.out HT.out hN.out), hbel.trans (hb2.mono (by omega)), Nat.lt_of_lt_of_le hsz hb2.size, (hb2.cell (p := ⟨w.heap.size, 3, none⟩) hsz).trans hbox⟩
      case measure => simp [intOf]; omega
    · obtain rfl : k = l.length := by omega
      have hfin : S = batT p e q l := V.nats_inj (by rw [hN.out, nats_bat, List.take_length]; simp [batN])
      have HF := Lib.hid hfin
      clear hfin
      go_wp2_with fail
      go_ret2
      exact ⟨by rw [← HF.out]; rfl, hbel⟩

/-- a batch's bytes, none if it may not be -/
def batP (p e q : Int) (l : List R) : ByteArray := if allN p e q l = 0 then batT p e q l else ⟨#[]⟩
theorem batP_err {p e q : Int} {l : List R} {x : Int} (h : allN p e q l = x) (hx : x ≠ 0) : batP p e q l = ⟨#[]⟩ := if_neg (by rw [h]; exact hx)
theorem batP_ok {p e q : Int} {l : List R} (h : allN p e q l = 0) : batP p e q l = batT p e q l := if_pos h
theorem batP_size (p e q : Int) (l : List R) : (batP p e q l).size ≤ 10000 := by
  by_cases h : allN p e q l = 0
  · rw [batP_ok h]
    obtain ⟨⟨p0, p1⟩, ⟨e0, e1⟩, ⟨q0, q1⟩, l0, l1, hall⟩ := allN_ok h
    rw [← V.nats_len, nats_bat]
    have f1 := V.puts_len p.toNat (by omega)
    have f2 := V.puts_len e.toNat (by omega)
    have f3 := V.puts_len q.toNat (by omega)
    have f4 := V.puts_len l.length (by omega)
    have f5 := flat_le l l.length
    rw [List.take_length] at f5
    simp only [batN, List.length_append]
    omega
  · rw [batP_err rfl h]
    show 0 ≤ 10000
    omega

set_option maxHeartbeats 1000000 in
theorem rbatch_err (p e q : Int) (A : Option Addr) (l : List R) (cap B : Nat) (x : Int) (w : World) (hR : Hid (Reads w B A l)) (hB : B ≤ w.heap.size) (hl : l.length ≤ 20) (hs : Hid (∀ r ∈ l, r.key.size ≤ maxLen ∧ r.val.size ≤ maxLen)) (HX : Hid (allN p e q l = x)) (hx : (x != 0) = true) :
    Calls Try.prog 14 #[.agg #[.int .i64 p, .int .i64 e, .int .i64 q, .slice A l.length cap]] w fun e' w' => e' = .returned (.tuple #[.string ⟨#[]⟩, .int .i64 x]) ∧ Below w.heap.size w w' := by
  go_enter Try.func14, Try.ntmps14
  go_wp2_with (go_at_call 18; refine (rall_is _ _ _ _ _ _ _ _ _ (Lib.hid (hR.out.below ((one_box _).mono hB))) (by simp; omega) hl hs HX).mono ?_; rintro e w1 ⟨rfl, hb1⟩)
  go_ret2
  exact ⟨rfl, (one_box _).trans (hb1.mono (by simp))⟩

theorem rbatch_is (p e q : Int) (A : Option Addr) (l : List R) (cap B : Nat) (x : Int) (t : ByteArray) (w : World) (hR : Hid (Reads w B A l)) (hB : B ≤ w.heap.size) (hl : l.length ≤ 20) (hs : Hid (∀ r ∈ l, r.key.size ≤ maxLen ∧ r.val.size ≤ maxLen)) (HX : Hid (allN p e q l = x)) (HT : Hid (batP p e q l = t)) :
    Calls Try.prog 14 #[.agg #[.int .i64 p, .int .i64 e, .int .i64 q, .slice A l.length cap]] w fun e' w' => e' = .returned (.tuple #[.string t, .int .i64 x]) ∧ Below w.heap.size w w' := by
  have ht := HT.out
  by_cases hx : x = 0
  · subst hx
    rw [batP_ok HX.out] at ht
    subst ht
    exact rbatch_ok p e q A l cap B w hR hB hs HX
  · rw [batP_err HX.out hx] at ht
    subst ht
    exact rbatch_err p e q A l cap B x w hR hB hl hs HX (by simpa using hx)
end Go.Proofs.Ytinhinghakkfoaa.L3
