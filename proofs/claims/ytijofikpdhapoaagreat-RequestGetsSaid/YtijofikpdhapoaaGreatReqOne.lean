/-
  Contracts: what a letter stands for, as bytes: the document's.
-/
import Derived.Test.YtijofikpdhapoaaGreatReqCut
import Derived.Test.YtijofikpdhapoaaGreatMRecRall
import Derived.Deep.RegionHeld3
namespace Go.Proofs.YtijofikpdhapoaaGreat.L4
open Go.RowKit
open L3

theorem keep_one {W0 wa wb : World} {B : Nat} {P : World → Prop} (h : ∀ w', Below B W0 w' → P w' ∧ Below B W0 w') (ha : P wa ∧ Below B W0 wa) (hb : Below wa.heap.size wa wb) (hB : B ≤ W0.heap.size) : P wb ∧ Below B W0 wb :=
  h wb (ha.2.trans (hb.mono (Nat.le_trans hB ha.2.size)))
theorem rnum_is (n : Int) (s : ByteArray) (w : World) (h0 : 0 ≤ n) (h1 : n ≤ 1099511627776) (h : Hid (V.put n.toNat = s)) :
    Calls Tryz.prog 29 #[.int .i64 n] w fun e w' => e = .returned (.string s) ∧ Below w.heap.size w w' := by
  have c0 : IntKind.u64.wrap n = n := by rw [IntKind.wrap_u64]; omega
  go_enter Tryz.func29, Tryz.ntmps29
  go_wp2_with (go_at_call 57; refine (rput_is _ _ _ h0 h1 h).mono ?_; rintro e w1 ⟨rfl, hb1⟩)
  go_ret
  exact ⟨rfl, hb1⟩

set_option maxRecDepth 100000 in
set_option maxHeartbeats 4000000 in
theorem one_t (kind : Int) (topic : ByteArray) (pn : Int) (n : Int) (off : Int) (bp : Int) (be : Int) (bq : Int) (recs : List R) (group : ByteArray) (member : ByteArray) (gen : Int) (robin : Bool) (tops : List ByteArray) (RA TA : Option Addr) (rc tc : Nat) (p : ByteArray) (w : World) (hs : topic.size ≤ 281474976710656) (HT : Hid (txt topic = p)) :
    Calls Tryz.prog 30 #[.agg #[.int .i64 kind, .string topic, .int .i64 pn, .int .i64 n, .int .i64 off, .int .i64 bp, .int .i64 be, .int .i64 bq, .slice RA recs.length rc, .string group, .string member, .int .i64 gen, .bool robin, .slice TA tops.length tc], .int .u8 116] w fun e w' => e = .returned (.string p) ∧ Below w.heap.size w w' := by
  go_enter Tryz.func30, Tryz.ntmps30
  go_wp2_with (go_at_call 58; refine (reftxt_is _ _ _ hs HT).mono ?_; rintro e w1 ⟨rfl, hb1⟩)
  go_ret
  exact ⟨rfl, (one_box _).trans (hb1.mono (by simp))⟩

set_option maxRecDepth 100000 in
set_option maxHeartbeats 4000000 in
theorem one_g (kind : Int) (topic : ByteArray) (pn : Int) (n : Int) (off : Int) (bp : Int) (be : Int) (bq : Int) (recs : List R) (group : ByteArray) (member : ByteArray) (gen : Int) (robin : Bool) (tops : List ByteArray) (RA TA : Option Addr) (rc tc : Nat) (p : ByteArray) (w : World) (hs : group.size ≤ 281474976710656) (HT : Hid (txt group = p)) :
    Calls Tryz.prog 30 #[.agg #[.int .i64 kind, .string topic, .int .i64 pn, .int .i64 n, .int .i64 off, .int .i64 bp, .int .i64 be, .int .i64 bq, .slice RA recs.length rc, .string group, .string member, .int .i64 gen, .bool robin, .slice TA tops.length tc], .int .u8 103] w fun e w' => e = .returned (.string p) ∧ Below w.heap.size w w' := by
  go_enter Tryz.func30, Tryz.ntmps30
  go_wp2_with (go_at_call 58; refine (reftxt_is _ _ _ hs HT).mono ?_; rintro e w1 ⟨rfl, hb1⟩)
  go_ret
  exact ⟨rfl, (one_box _).trans (hb1.mono (by simp))⟩

set_option maxRecDepth 100000 in
set_option maxHeartbeats 4000000 in
theorem one_m (kind : Int) (topic : ByteArray) (pn : Int) (n : Int) (off : Int) (bp : Int) (be : Int) (bq : Int) (recs : List R) (group : ByteArray) (member : ByteArray) (gen : Int) (robin : Bool) (tops : List ByteArray) (RA TA : Option Addr) (rc tc : Nat) (p : ByteArray) (w : World) (hs : member.size ≤ 281474976710656) (HT : Hid (txt member = p)) :
    Calls Tryz.prog 30 #[.agg #[.int .i64 kind, .string topic, .int .i64 pn, .int .i64 n, .int .i64 off, .int .i64 bp, .int .i64 be, .int .i64 bq, .slice RA recs.length rc, .string group, .string member, .int .i64 gen, .bool robin, .slice TA tops.length tc], .int .u8 109] w fun e w' => e = .returned (.string p) ∧ Below w.heap.size w w' := by
  go_enter Tryz.func30, Tryz.ntmps30
  go_wp2_with (go_at_call 58; refine (reftxt_is _ _ _ hs HT).mono ?_; rintro e w1 ⟨rfl, hb1⟩)
  go_ret
  exact ⟨rfl, (one_box _).trans (hb1.mono (by simp))⟩

set_option maxRecDepth 100000 in
set_option maxHeartbeats 4000000 in
theorem one_n (kind : Int) (topic : ByteArray) (pn : Int) (n : Int) (off : Int) (bp : Int) (be : Int) (bq : Int) (recs : List R) (group : ByteArray) (member : ByteArray) (gen : Int) (robin : Bool) (tops : List ByteArray) (RA TA : Option Addr) (rc tc : Nat) (p : ByteArray) (w : World) (h0 : 0 ≤ n) (h1 : n ≤ 1099511627776) (HT : Hid (V.put n.toNat = p)) :
    Calls Tryz.prog 30 #[.agg #[.int .i64 kind, .string topic, .int .i64 pn, .int .i64 n, .int .i64 off, .int .i64 bp, .int .i64 be, .int .i64 bq, .slice RA recs.length rc, .string group, .string member, .int .i64 gen, .bool robin, .slice TA tops.length tc], .int .u8 110] w fun e w' => e = .returned (.string p) ∧ Below w.heap.size w w' := by
  go_enter Tryz.func30, Tryz.ntmps30
  go_wp2_with (go_at_call 29; refine (rnum_is _ _ _ h0 h1 HT).mono ?_; rintro e w1 ⟨rfl, hb1⟩)
  go_ret
  exact ⟨rfl, (one_box _).trans (hb1.mono (by simp))⟩

set_option maxRecDepth 100000 in
set_option maxHeartbeats 4000000 in
theorem one_o (kind : Int) (topic : ByteArray) (pn : Int) (n : Int) (off : Int) (bp : Int) (be : Int) (bq : Int) (recs : List R) (group : ByteArray) (member : ByteArray) (gen : Int) (robin : Bool) (tops : List ByteArray) (RA TA : Option Addr) (rc tc : Nat) (p : ByteArray) (w : World) (h0 : 0 ≤ off) (h1 : off ≤ 1099511627776) (HT : Hid (V.put off.toNat = p)) :
    Calls Tryz.prog 30 #[.agg #[.int .i64 kind, .string topic, .int .i64 pn, .int .i64 n, .int .i64 off, .int .i64 bp, .int .i64 be, .int .i64 bq, .slice RA recs.length rc, .string group, .string member, .int .i64 gen, .bool robin, .slice TA tops.length tc], .int .u8 111] w fun e w' => e = .returned (.string p) ∧ Below w.heap.size w w' := by
  go_enter Tryz.func30, Tryz.ntmps30
  go_wp2_with (go_at_call 29; refine (rnum_is _ _ _ h0 h1 HT).mono ?_; rintro e w1 ⟨rfl, hb1⟩)
  go_ret
  exact ⟨rfl, (one_box _).trans (hb1.mono (by simp))⟩

set_option maxRecDepth 100000 in
set_option maxHeartbeats 4000000 in
theorem one_e (kind : Int) (topic : ByteArray) (pn : Int) (n : Int) (off : Int) (bp : Int) (be : Int) (bq : Int) (recs : List R) (group : ByteArray) (member : ByteArray) (gen : Int) (robin : Bool) (tops : List ByteArray) (RA TA : Option Addr) (rc tc : Nat) (p : ByteArray) (w : World) (h0 : 0 ≤ gen) (h1 : gen ≤ 1099511627776) (HT : Hid (V.put gen.toNat = p)) :
    Calls Tryz.prog 30 #[.agg #[.int .i64 kind, .string topic, .int .i64 pn, .int .i64 n, .int .i64 off, .int .i64 bp, .int .i64 be, .int .i64 bq, .slice RA recs.length rc, .string group, .string member, .int .i64 gen, .bool robin, .slice TA tops.length tc], .int .u8 101] w fun e w' => e = .returned (.string p) ∧ Below w.heap.size w w' := by
  go_enter Tryz.func30, Tryz.ntmps30
  go_wp2_with (go_at_call 29; refine (rnum_is _ _ _ h0 h1 HT).mono ?_; rintro e w1 ⟨rfl, hb1⟩)
  go_ret
  exact ⟨rfl, (one_box _).trans (hb1.mono (by simp))⟩

set_option maxRecDepth 100000 in
set_option maxHeartbeats 4000000 in
theorem one_b (kind : Int) (topic : ByteArray) (pn : Int) (n : Int) (off : Int) (bp : Int) (be : Int) (bq : Int) (recs : List R) (group : ByteArray) (member : ByteArray) (gen : Int) (robin : Bool) (tops : List ByteArray) (RA TA : Option Addr) (rc tc : Nat) (p : ByteArray) (x : Int) (B : Nat) (w : World) (hR : Hid (Reads w B RA recs)) (hB : B ≤ w.heap.size) (hl : recs.length ≤ 20) (hs : Hid (∀ r ∈ recs, r.key.size ≤ maxLen ∧ r.val.size ≤ maxLen)) (HX : Hid (allN bp be bq recs = x)) (HT : Hid (batP bp be bq recs = p)) :
    Calls Tryz.prog 30 #[.agg #[.int .i64 kind, .string topic, .int .i64 pn, .int .i64 n, .int .i64 off, .int .i64 bp, .int .i64 be, .int .i64 bq, .slice RA recs.length rc, .string group, .string member, .int .i64 gen, .bool robin, .slice TA tops.length tc], .int .u8 98] w fun e w' => e = .returned (.string p) ∧ Below w.heap.size w w' := by
  go_enter Tryz.func30, Tryz.ntmps30
  go_wp2_with (go_at_call 59; refine (rbatch_is _ _ _ _ _ _ w.heap.size _ _ _ (Lib.hid ((hR.out.mono hB).below (one_box _))) (by simp) hl hs HX HT).mono ?_; rintro e w1 ⟨rfl, hb1⟩)
  go_ret
  exact ⟨rfl, (one_box _).trans (hb1.mono (by simp))⟩

set_option maxRecDepth 100000 in
set_option maxHeartbeats 4000000 in
theorem one_r (kind : Int) (topic : ByteArray) (pn : Int) (n : Int) (off : Int) (bp : Int) (be : Int) (bq : Int) (recs : List R) (group : ByteArray) (member : ByteArray) (gen : Int) (robin : Bool) (tops : List ByteArray) (RA TA : Option Addr) (rc tc : Nat) (w : World) :
    Calls Tryz.prog 30 #[.agg #[.int .i64 kind, .string topic, .int .i64 pn, .int .i64 n, .int .i64 off, .int .i64 bp, .int .i64 be, .int .i64 bq, .slice RA recs.length rc, .string group, .string member, .int .i64 gen, .bool robin, .slice TA tops.length tc], .int .u8 114] w fun e w' => e = .returned (.string (if robin then ⟨#[1]⟩ else ⟨#[0]⟩)) ∧ Below w.heap.size w w' := by
  cases robin
  all_goals
    go_enter Tryz.func30, Tryz.ntmps30
    go_wp2_with fail
    go_ret
    exact ⟨rfl, one_box _⟩

set_option maxRecDepth 100000 in
set_option maxHeartbeats 8000000 in
theorem one_p (kind : Int) (topic : ByteArray) (pn : Int) (n : Int) (off : Int) (bp : Int) (be : Int) (bq : Int) (recs : List R) (group : ByteArray) (member : ByteArray) (gen : Int) (robin : Bool) (tops : List ByteArray) (RA TA : Option Addr) (rc tc : Nat) (a b : ByteArray) (w : World) (hs : topic.size ≤ 40) (ha : a.size ≤ 100) (hb : b.size ≤ 100) (h0 : 0 ≤ pn) (h1 : pn ≤ 1099511627776) (HA : Hid (txt topic = a)) (HN : Hid (V.put pn.toNat = b)) :
    Calls Tryz.prog 30 #[.agg #[.int .i64 kind, .string topic, .int .i64 pn, .int .i64 n, .int .i64 off, .int .i64 bp, .int .i64 be, .int .i64 bq, .slice RA recs.length rc, .string group, .string member, .int .i64 gen, .bool robin, .slice TA tops.length tc], .int .u8 112] w fun e w' => e = .returned (.string (a ++ b)) ∧ Below w.heap.size w w' := by
  have hs1 : topic.size ≤ 281474976710656 := by omega
  have hno1 : (9223372036854775807 < a.size + b.size) = False := by simp; omega
  go_enter Tryz.func30, Tryz.ntmps30
  go_wp2_with fail
  have HT : Hid (∀ w', Below (w.heap.size + 1) (w.alloc (.cells #[.int .i64 kind, .string topic, .int .i64 pn, .int .i64 n, .int .i64 off, .int .i64 bp, .int .i64 be, .int .i64 bq, .slice RA recs.length rc, .string group, .string member, .int .i64 gen, .bool robin, .slice TA tops.length tc] 29)) w' → (w'.cell? ⟨w.heap.size, 1, none⟩ = some (.string topic) ∧ w'.cell? ⟨w.heap.size, 2, none⟩ = some (.int .i64 pn)) ∧ Below (w.heap.size + 1) (w.alloc (.cells #[.int .i64 kind, .string topic, .int .i64 pn, .int .i64 n, .int .i64 off, .int .i64 bp, .int .i64 be, .int .i64 bq, .slice RA recs.length rc, .string group, .string member, .int .i64 gen, .bool robin, .slice TA tops.length tc] 29)) w') := Lib.hid (fun w' hb => ⟨⟨(hb.cell (by show w.heap.size < _; omega)).trans (by simp [go_sem]), (hb.cell (by show w.heap.size < _; omega)).trans (by simp [go_sem])⟩, hb⟩)
  go_region_held3 (fun w' => (w'.cell? ⟨w.heap.size, 1, none⟩ = some (.string topic) ∧ w'.cell? ⟨w.heap.size, 2, none⟩ = some (.int .i64 pn)) ∧ Below (w.heap.size + 1) (w.alloc (.cells #[.int .i64 kind, .string topic, .int .i64 pn, .int .i64 n, .int .i64 off, .int .i64 bp, .int .i64 be, .int .i64 bq, .slice RA recs.length rc, .string group, .string member, .int .i64 gen, .bool robin, .slice TA tops.length tc] 29)) w')
    (first | with_reducible assumption | exact HT.out _ (Below.refl _ _).drew | exact keep_one (P := fun w' => w'.cell? ⟨w.heap.size, 1, none⟩ = some (.string topic) ∧ w'.cell? ⟨w.heap.size, 2, none⟩ = some (.int .i64 pn)) HT.out (by assumption) (by assumption) (by simp))
    (first
      | (go_at_call 58; refine (reftxt_is _ _ _ hs1 HA).mono ?_; rintro e w1 ⟨rfl, hb1⟩)
      | (go_at_call 29; refine (rnum_is _ _ _ h0 h1 HN).mono ?_; rintro e w2 ⟨rfl, hb2⟩))
  all_goals
    rename_i hh
    go_wp2_with fail
    go_ret
    exact ⟨rfl, (one_box _).trans (hh.2.mono (by omega))⟩

/-! ### Topics -/
/-- texts one behind the other -/
def catS : List ByteArray → ByteArray
  | [] => ⟨#[]⟩
  | s :: t => txt s ++ catS t
def topsT (l : List ByteArray) : ByteArray := V.put l.length ++ catS l
theorem catS_app : ∀ (a : List ByteArray) (s : ByteArray), catS (a ++ [s]) = catS a ++ txt s
  | [], s => by
    apply V.nats_inj
    show V.nats (txt s ++ ⟨#[]⟩) = V.nats (⟨#[]⟩ ++ txt s)
    rw [V.nats_append, V.nats_append]
    show V.nats (txt s) ++ [] = [] ++ V.nats (txt s)
    simp
  | r :: t, s => by
    show txt r ++ catS (t ++ [s]) = txt r ++ catS t ++ txt s
    rw [catS_app t s, ByteArray.append_assoc]
theorem catS_none (p : ByteArray) (l : List ByteArray) : p ++ catS (l.take 0) = p := by
  apply V.nats_inj
  rw [V.nats_append]
  show V.nats p ++ [] = V.nats p
  simp
theorem catS_next {l : List ByteArray} {k : Nat} {s : ByteArray} (h : l[k]? = some s) : catS (l.take (k + 1)) = catS (l.take k) ++ txt s := by
  rw [List.take_add_one, h]
  exact catS_app _ _
theorem catS_size (l : List ByteArray) (h : ∀ s ∈ l, s.size ≤ 40) : (catS l).size ≤ 50 * l.length := by
  induction l with
  | nil => exact Nat.zero_le _
  | cons s t ih =>
    have e := txt_size s (by have := h s (by simp); omega)
    have h0 := h s (by simp)
    have h1 := ih (fun q hq => h q (by simp [hq]))
    show (txt s ++ catS t).size ≤ 50 * (t.length + 1)
    rw [ByteArray.size_append]
    omega
set_option maxRecDepth 100000 in
set_option maxHeartbeats 8000000 in
theorem one_l (kind : Int) (topic : ByteArray) (pn : Int) (n : Int) (off : Int) (bp : Int) (be : Int) (bq : Int) (recs : List R) (group : ByteArray) (member : ByteArray) (gen : Int) (robin : Bool) (tops : List ByteArray) (RA TA : Option Addr) (rc tc : Nat) (B : Nat) (w : World) (hT : Hid (ReadsT w B TA tops)) (hB : B ≤ w.heap.size) (hl : tops.length ≤ 12) (hs : Hid (∀ s ∈ tops, s.size ≤ 40)) :
    Calls Tryz.prog 30 #[.agg #[.int .i64 kind, .string topic, .int .i64 pn, .int .i64 n, .int .i64 off, .int .i64 bp, .int .i64 be, .int .i64 bq, .slice RA recs.length rc, .string group, .string member, .int .i64 gen, .bool robin, .slice TA tops.length tc], .int .u8 108] w fun e w' => e = .returned (.string (topsT tops)) ∧ Below w.heap.size w w' := by
  obtain ⟨p, hp⟩ : ∃ p, V.put tops.length = p := ⟨_, rfl⟩
  have hp1 : p.size ≤ 10 := by rw [← hp]; exact put_le (tops.length : Int) (by omega)
  have HP : Hid (V.put ((tops.length : Int)).toNat = p) := Lib.hid (by rw [← hp]; rfl)
  have HP2 := Lib.hid hp
  have h0 : (0 : Int) ≤ (tops.length : Int) := by omega
  have h1 : (tops.length : Int) ≤ 1099511627776 := by omega
  clear hp
  go_enter Tryz.func30, Tryz.ntmps30
  go_wp2_with (go_at_call 29; refine (rnum_is _ _ _ h0 h1 HP).mono ?_; rintro e w1 ⟨rfl, hb1⟩; have r0 := Lib.hid ((hb1.block w.heap.size (by simp)).trans (heap_alloc_new w _)); have x13 := (cell_of_row _ _ 13 _ _ _ r0.out).trans rfl; have hz1 : w.heap.size < w1.heap.size := (by have := hb1.size; simp at this; omega); have HB1 := Lib.hid ((one_box _).trans (hb1.mono (by simp))))
  go_loopw [7, 8] (fun s i wr => ∃ k : Nat, k ≤ tops.length ∧ i = .int .i64 k ∧ s = .string (p ++ catS (tops.take k)) ∧ Below w1.heap.size w1 wr) (fun _ i _ => tops.length - (intOf i).toNat)
  case atStart => exact ⟨0, by omega, rfl, by rw [catS_none], Below.refl _ _⟩
  case round =>
    obtain ⟨k, hk, rfl, rfl, hbel⟩ := hrel
    have y13 := (hbel.cell (p := ⟨w.heap.size, 13, none⟩) hz1).trans x13
    clear x13
    by_cases hlt : k < tops.length
    · obtain ⟨g, rfl, hg, hcells⟩ := hT.out (by omega)
      obtain ⟨st, hst⟩ : ∃ st, tops[k]? = some st := ⟨tops[k], List.getElem?_eq_getElem hlt⟩
      have hs1 := hs.out _ (List.mem_of_getElem? hst)
      have hs2 : st.size ≤ 281474976710656 := by omega
      have d0 := ((acc HB1.out hbel).cell (p := ⟨g, k, none⟩) (by show g < _; omega)).trans (hcells k st hst)
      obtain ⟨al, hal⟩ : ∃ al, p ++ catS (tops.take k) = al := ⟨_, rfl⟩
      have al1 : al.size ≤ 1000 := by
        rw [← hal, ByteArray.size_append]
        have := catS_size (tops.take k) (fun q hq => hs.out q (List.mem_of_mem_take hq))
        rw [List.length_take] at this
        omega
      obtain ⟨t, ht⟩ : ∃ t, txt st = t := ⟨_, rfl⟩
      have t1 : t.size ≤ 100 := by rw [← ht]; have := txt_size st hs2; omega
      have hsn : p ++ catS (tops.take (k + 1)) = al ++ t := by rw [catS_next hst, ← hal, ← ht, ByteArray.append_assoc]
      have HT := Lib.hid ht
      have HSN := Lib.hid hsn
      have k0 : (0 : Int) ≤ (k : Int) := by omega
      have kl : (k : Int) < (tops.length : Int) := by omega
      rw [hal]
      clear hst hcells ht hsn hal
      go_wp2_with (go_at_call 58; refine (reftxt_is _ _ _ hs2 HT).mono ?_; rintro e w2 ⟨rfl, hb2⟩)
      go_roundw
      case rel => exact ⟨k + 1, by omega, by go_num, by rw [HSN.out], hbel.trans (hb2.mono hbel.size)⟩
      case measure => simp [intOf]; omega
    · obtain rfl : k = tops.length := by omega
      rw [List.take_length]
      go_wp2_with fail
      go_ret
      exact ⟨by rw [← HP2.out]; rfl, acc HB1.out hbel⟩

end Go.Proofs.YtijofikpdhapoaaGreat.L4
