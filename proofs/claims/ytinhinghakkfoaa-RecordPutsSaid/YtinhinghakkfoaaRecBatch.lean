/-
  Contracts: a batch's bytes, the program's.
-/
import Derived.Test.YtinhinghakkfoaaRecRbat
import Derived.Lib.AppendStr
import Derived.Laws.IdiomStrings
namespace Go.Proofs.Ytinhinghakkfoaa.L3
open Go.RowKit
open Go.Lib (strCells wpList_append_own_string)

theorem byteInfo : (Try.prog.info? 5).map (fun i => (i.zero, i.size, i.bytes)) = some (some (.int .u8 0), 1, 1) := by kernel_rfl

/-- a row of bytes, turned into a text -/
theorem own_conv {w : World} {base : Nat} {V : Value} {S : ByteArray} (h : w.ownsRow base 5 1 V S.size (strCells S)) : (convert 48 9 V).run Try.prog w = .ok (.string S) w := by
  rcases h.2 with ⟨rfl, h0⟩ | ⟨g, cap, cur, rfl, _⟩
  · have e := run_convert_bytes_nil (P := Try.prog) w 48 5 Try.underlying48 Try.underlying5 0 0 9 Try.underlying9
    rw [e, empty_of h0]
    rfl
  · have hc := h.cells (g := g) rfl
    have e := run_convert_bytes_back (P := Try.prog) w 48 9 5 ⟨g, 0, none⟩ cap S.data.toList Try.underlying48 Try.underlying5 Try.underlying9 (fun j hj => by
      refine hc j _ ?_
      simp [strCells, List.getElem?_eq_getElem hj])
    have hl : S.data.toList.length = S.size := by rw [Array.length_toList]; rfl
    rw [hl] at e
    rw [e]
theorem strCells_app (a b : ByteArray) : strCells a ++ strCells b = strCells (a ++ b) := by
  simp [strCells, ByteArray.data_append]

def preS (a b c d : ByteArray) : Nat → ByteArray
  | 0 => ⟨#[]⟩
  | 1 => ⟨#[]⟩ ++ a
  | 2 => ⟨#[]⟩ ++ a ++ b
  | 3 => ⟨#[]⟩ ++ a ++ b ++ c
  | _ => ⟨#[]⟩ ++ a ++ b ++ c ++ d

/-- behind the append: the longer row, and all that was ahead of the call's own -/
theorem bat_row {w0 wr w2 w3 : World} {B : Nat} {v v' : Value} {S s : ByteArray} (hown : wr.ownsRow B 5 1 v S.size (strCells S)) (hb2 : Below wr.heap.size wr w2) (hgrow : w2.grownBy w3 v.ownBlock)
    (hown3 : w3.ownsRow B 5 1 v' (S.size + s.size) (strCells S ++ strCells s)) (hbel : Below B w0 wr) (hsz : B ≤ wr.heap.size) : w3.ownsRow B 5 1 v' (S ++ s).size (strCells (S ++ s)) ∧ Below B w0 w3 := by
  refine ⟨by rw [ByteArray.size_append, ← strCells_app]; exact hown3, ?_⟩
  exact (hbel.trans (hb2.mono hsz)).grown hgrow (Nat.le_trans hsz hb2.size) (fun j e => (hown.lt j e).1)

theorem iput_is (n : Int) (s : ByteArray) (w : World) (h0 : 0 ≤ n) (h1 : n ≤ 1099511627776) (h : Hid (V.put n.toNat = s)) :
    Calls Try.prog 29 #[.int .u64 n] w fun e w' => e = .returned (.string s) ∧ Below w.heap.size w w' := by
  have k := put_any n w h0 (by omega)
  rw [h.out] at k
  exact k

set_option maxRecDepth 100000 in
set_option maxHeartbeats 4000000 in
theorem batch_ok (p e q : Int) (A : Option Addr) (l : List R) (cap B : Nat) (w : World) (hR : Hid (Reads w B A l)) (hB : B ≤ w.heap.size) (hs : Hid (∀ r ∈ l, r.key.size ≤ maxLen ∧ r.val.size ≤ maxLen)) (HX : Hid (allN p e q l = 0)) :
    Calls Try.prog 13 #[.agg #[.int .i64 p, .int .i64 e, .int .i64 q, .slice A l.length cap]] w fun e' w' => e' = .returned (.tuple #[.string (batT p e q l), .int .i64 0]) ∧ Below w.heap.size w w' := by
  obtain ⟨⟨p0, p1⟩, ⟨e0, e1⟩, ⟨q0, q1⟩, l0, l1, hall⟩ := allN_ok HX.out
  have HALL := Lib.hid hall
  obtain ⟨b0, hb0, hbz, hby, hbb⟩ := info_parts byteInfo
  obtain ⟨sp, hsp⟩ : ∃ s, V.put p.toNat = s := ⟨_, rfl⟩
  obtain ⟨se, hse⟩ : ∃ s, V.put e.toNat = s := ⟨_, rfl⟩
  obtain ⟨sq, hsq⟩ : ∃ s, V.put q.toNat = s := ⟨_, rfl⟩
  obtain ⟨sn, hsn⟩ : ∃ s, V.put (l.length : Int).toNat = s := ⟨_, rfl⟩
  have zp : sp.size ≤ 10 := by rw [← hsp]; exact put_le _ p1
  have ze : se.size ≤ 10 := by rw [← hse]; exact put_le _ e1
  have zq : sq.size ≤ 10 := by rw [← hsq]; exact put_le _ q1
  have zn : sn.size ≤ 10 := by rw [← hsn]; exact put_le _ (by omega)
  have SP := Lib.hid hsp
  have SE := Lib.hid hse
  have SQ := Lib.hid hsq
  have SN := Lib.hid hsn
  have hd : Hid (V.nats (sp ++ se ++ sq ++ sn) = V.puts p.toNat ++ (V.puts e.toNat ++ (V.puts q.toNat ++ V.puts l.length))) := Lib.hid (by rw [← hsp, ← hse, ← hsq, ← hsn]; simp [V.nats_append, V.nats_put])
  obtain ⟨g, rfl, hg, hcells⟩ := hR.out l0
  have HC := Lib.hid hcells
  have i0 : ∀ w, (Instr.index 53 (.agg #[.int .u64 p, .int .u64 e, .int .u64 q, .int .u64 l.length]) (.int .i64 0)).run Try.prog w = .ok (.int .u64 p) w := fun _ => by kernel_rfl
  have i1 : ∀ w, (Instr.index 53 (.agg #[.int .u64 p, .int .u64 e, .int .u64 q, .int .u64 l.length]) (.int .i64 1)).run Try.prog w = .ok (.int .u64 e) w := fun _ => by kernel_rfl
  have i2 : ∀ w, (Instr.index 53 (.agg #[.int .u64 p, .int .u64 e, .int .u64 q, .int .u64 l.length]) (.int .i64 2)).run Try.prog w = .ok (.int .u64 q) w := fun _ => by kernel_rfl
  have i3 : ∀ w, (Instr.index 53 (.agg #[.int .u64 p, .int .u64 e, .int .u64 q, .int .u64 l.length]) (.int .i64 3)).run Try.prog w = .ok (.int .u64 l.length) w := fun _ => by kernel_rfl
  clear hcells hall hsp hse hsq hsn
  have cp : IntKind.u64.wrap p = p := by rw [IntKind.wrap_u64]; omega
  have ce : IntKind.u64.wrap e = e := by rw [IntKind.wrap_u64]; omega
  have cq : IntKind.u64.wrap q = q := by rw [IntKind.wrap_u64]; omega
  have cn : IntKind.u64.wrap (l.length : Int) = (l.length : Int) := by rw [IntKind.wrap_u64]; omega
  have P0 := Lib.hid p0
  have E0 := Lib.hid e0
  have Q0 := Lib.hid q0
  have P1 := Lib.hid p1
  have E1 := Lib.hid e1
  have Q1 := Lib.hid q1
  go_enter Try.func13, Try.ntmps13
  go_wp2_with (go_at_call 17; refine (all_is _ _ _ _ _ _ _ _ _ (Lib.hid (hR.out.below ((one_box _).mono hB))) (by simp; omega) (by omega) hs HX).mono ?_; rintro e w1 ⟨rfl, hb1⟩; obtain ⟨hc1, hf1⟩ := box_cells hb1)
  have hsz1 : w.heap.size + 1 ≤ w1.heap.size := by have := hb1.size; simpa using this
  go_loopw [5, 31] (fun v i wr => ∃ (k : Nat) (S : ByteArray), k ≤ 4 ∧ i = .int .i64 k ∧ wr.ownsRow (w.heap.size + 1) 5 1 v S.size (strCells S) ∧ S.size ≤ 10 * k ∧ Hid (S = preS sp se sq sn k) ∧ Below (w.heap.size + 1) w1 wr) (fun _ i _ => 4 - (intOf i).toNat)
  case atStart => exact ⟨0, ⟨#[]⟩, by omega, rfl, World.ownsRow_nil _ _ _ _, by show 0 ≤ _; omega, Lib.hid rfl, Below.refl _ _⟩
  case round =>
    obtain ⟨k, S, hk, rfl, hown, hz, hS, hbel⟩ := hrel
    have hsz : w.heap.size + 1 ≤ wr.heap.size := Nat.le_trans hsz1 hbel.size
    have hk4 : k = 0 ∨ k = 1 ∨ k = 2 ∨ k = 3 ∨ k = 4 := by omega
    rcases hk4 with rfl | rfl | rfl | rfl | rfl
    · go_wp2_with (first
        | (go_at_call 29; (with_reducible refine (iput_is _ _ _ P0.out P1.out SP).mono ?_); rintro e2 w2 ⟨rfl, hb2⟩; have hown2 := own_below hown hb2)
        | (at_builtin; refine wpList_append_own_string _ rfl _ _ 48 9 rfl (w.heap.size + 1) 5 b0 Try.underlying48 Try.underlying9 hb0 hbz hby hbb _ _ _ rfl hown2 sp rfl (by unfold maxLen; omega) (by omega) (Nat.le_trans hsz hb2.size) ?_; intro v' w3 hown3 hgrow _))
      have hnx := bat_row hown hb2 hgrow hown3 hbel hsz
      go_roundw
      case rel => exact ⟨1, S ++ sp, by omega, rfl, hnx.1, by rw [ByteArray.size_append]; omega, Lib.hid (by rw [hS.out]; rfl), hnx.2⟩
      case measure => simp [intOf]
    · go_wp2_with (first
        | (go_at_call 29; (with_reducible refine (iput_is _ _ _ E0.out E1.out SE).mono ?_); rintro e2 w2 ⟨rfl, hb2⟩; have hown2 := own_below hown hb2)
        | (at_builtin; refine wpList_append_own_string _ rfl _ _ 48 9 rfl (w.heap.size + 1) 5 b0 Try.underlying48 Try.underlying9 hb0 hbz hby hbb _ _ _ rfl hown2 se rfl (by unfold maxLen; omega) (by omega) (Nat.le_trans hsz hb2.size) ?_; intro v' w3 hown3 hgrow _))
      have hnx := bat_row hown hb2 hgrow hown3 hbel hsz
      go_roundw
      case rel => exact ⟨2, S ++ se, by omega, rfl, hnx.1, by rw [ByteArray.size_append]; omega, Lib.hid (by rw [hS.out]; rfl), hnx.2⟩
      case measure => simp [intOf]
    · go_wp2_with (first
        | (go_at_call 29; (with_reducible refine (iput_is _ _ _ Q0.out Q1.out SQ).mono ?_); rintro e2 w2 ⟨rfl, hb2⟩; have hown2 := own_below hown hb2)
        | (at_builtin; refine wpList_append_own_string _ rfl _ _ 48 9 rfl (w.heap.size + 1) 5 b0 Try.underlying48 Try.underlying9 hb0 hbz hby hbb _ _ _ rfl hown2 sq rfl (by unfold maxLen; omega) (by omega) (Nat.le_trans hsz hb2.size) ?_; intro v' w3 hown3 hgrow _))
      have hnx := bat_row hown hb2 hgrow hown3 hbel hsz
      go_roundw
      case rel => exact ⟨3, S ++ sq, by omega, rfl, hnx.1, by rw [ByteArray.size_append]; omega, Lib.hid (by rw [hS.out]; rfl), hnx.2⟩
      case measure => simp [intOf]
    · go_wp2_with (first
        | (go_at_call 29; (with_reducible refine (iput_is _ _ _ (by omega) (by omega) SN).mono ?_); rintro e2 w2 ⟨rfl, hb2⟩; have hown2 := own_below hown hb2)
        | (at_builtin; refine wpList_append_own_string _ rfl _ _ 48 9 rfl (w.heap.size + 1) 5 b0 Try.underlying48 Try.underlying9 hb0 hbz hby hbb _ _ _ rfl hown2 sn rfl (by unfold maxLen; omega) (by omega) (Nat.le_trans hsz hb2.size) ?_; intro v' w3 hown3 hgrow _))
      have hnx := bat_row hown hb2 hgrow hown3 hbel hsz
      go_roundw
      case rel => exact ⟨4, S ++ sn, by omega, rfl, hnx.1, by rw [ByteArray.size_append]; omega, Lib.hid (by rw [hS.out]; rfl), hnx.2⟩
      case measure => simp [intOf]
    · have hbox : wr.cell? ⟨w.heap.size, 3, none⟩ = some (.slice (some ⟨g, 0, none⟩) l.length cap) := (hbel.cell (p := ⟨w.heap.size, 3, none⟩) (by show w.heap.size < _; omega)).trans ((hb1.cell (p := ⟨w.heap.size, 3, none⟩) (by simp)).trans (by simp [go_sem]))
      have hbw : Below w.heap.size w w1 := (one_box _).trans (hb1.mono (by simp))
      clear hc1 hf1
      rw [show ((4 : Nat) : Int) = 4 from rfl]
      go_wp2_with fail
      go_loopw [5, 42] (fun v i wq => ∃ (k : Nat) (S : ByteArray), k ≤ l.length ∧ i = .int .i64 k ∧ wq.ownsRow (w.heap.size + 1) 5 1 v S.size (strCells S) ∧ Hid (V.nats S = (V.puts p.toNat ++ (V.puts e.toNat ++ (V.puts q.toNat ++ V.puts l.length))) ++ (l.take k).flatMap fun r => V.nats r.put) ∧ Below (w.heap.size + 1) w1 wq) (fun _ i _ => l.length - (intOf i).toNat)
      case atStart => exact ⟨0, S, by omega, rfl, hown, Lib.hid (by rw [hS.out]; show V.nats (⟨#[]⟩ ++ sp ++ se ++ sq ++ sn) = _; rw [show (⟨#[]⟩ : ByteArray) ++ sp = sp from ByteArray.empty_append]; rw [hd.out]; simp), hbel⟩
      clear hS hz hown hbel hbox
      case round =>
        obtain ⟨k, S, hk, rfl, hown, hN, hbel⟩ := hrel
        have hsq : w.heap.size + 1 ≤ wr.heap.size := Nat.le_trans hsz1 hbel.size
        have hbelw : Below w.heap.size w wr := hbw.trans (hbel.mono (by omega))
        have hS1 : S.size ≤ 40 + 600 * k := by
          have := congrArg List.length hN.out
          rw [V.nats_len] at this
          rw [this]
          have f1 := V.puts_len p.toNat (by omega)
          have f2 := V.puts_len e.toNat (by omega)
          have f3 := V.puts_len q.toNat (by omega)
          have f4 := V.puts_len l.length (by omega)
          have f5 := flat_le l k
          simp only [List.length_append]
          omega
        by_cases hlt : k < l.length
        · obtain ⟨⟨rk, key, tb, val⟩, hr⟩ : ∃ r, l[k]? = some r := ⟨l[k], List.getElem?_eq_getElem hlt⟩
          have Z0 : Hid (chk rk key tb val = 0) := Lib.hid (HALL.out _ (List.mem_of_getElem? hr))
          obtain ⟨z1, z2⟩ := hs.out _ (List.mem_of_getElem? hr)
          have Z1 := Lib.hid z1
          have Z2 := Lib.hid z2
          obtain ⟨c0, c1, c2, c3⟩ := HC.out k _ hr
          have d0 := (hbelw.cell (p := ⟨g, k * 4, none⟩) (by show g < _; omega)).trans c0
          have d1 := (hbelw.cell (p := ⟨g, k * 4 + 1, none⟩) (by show g < _; omega)).trans c1
          have d2 := (hbelw.cell (p := ⟨g, k * 4 + 2, none⟩) (by show g < _; omega)).trans c2
          have d3 := (hbelw.cell (p := ⟨g, k * 4 + 3, none⟩) (by show g < _; omega)).trans c3
          have HR := Lib.hid hr
          clear c0 c1 c2 c3 hr z1 z2
          dsimp only at d0 d1 d2 d3 Z1 Z2
          obtain ⟨t, ht⟩ : ∃ t, putT rk key tb val = t := ⟨_, rfl⟩
          have ht1 : t.size ≤ 600 := by rw [← ht]; exact putT_size _ _ _ _
          have HT := Lib.hid ht
          clear ht
          go_wp2_with (first
            | (go_at_call 11; refine (put_is _ _ _ _ _ _ _ Z1.out Z2.out Z0 HT).mono ?_; rintro e w2 ⟨rfl, hb2⟩; have hb3 : Below wr.heap.size wr w2 := ((one_box _).trans (hb2.mono (by simp))); have hown2 := own_below hown hb3)
            | (at_builtin; refine wpList_append_own_string _ rfl _ _ 48 9 rfl (w.heap.size + 1) 5 b0 Try.underlying48 Try.underlying9 hb0 hbz hby hbb _ _ _ rfl hown2 t rfl (by unfold maxLen; omega) (by omega) (Nat.le_trans hsq hb3.size) ?_; intro v' w3 hown3 hgrow _))
          have hnx := bat_row hown hb3 hgrow hown3 hbel hsq
          go_roundw
          case rel => exact ⟨k + 1, S ++ t, by omega, by go_num, hnx.1, Lib.hid (bat_next HR.out HT.out hN.out), hnx.2⟩
          case measure => simp [intOf]; omega
        · obtain rfl : k = l.length := by omega
          have hfin : S = batT p e q l := V.nats_inj (by rw [hN.out, nats_bat, List.take_length]; simp [batN])
          have HF := Lib.hid hfin
          have kc := own_conv hown
          clear hfin
          go_wp2_with fail
          go_ret2
          exact ⟨by rw [← HF.out]; rfl, hbelw⟩

set_option maxHeartbeats 1000000 in
theorem batch_err (p e q : Int) (A : Option Addr) (l : List R) (cap B : Nat) (x : Int) (w : World) (hR : Hid (Reads w B A l)) (hB : B ≤ w.heap.size) (hl : l.length ≤ 20) (hs : Hid (∀ r ∈ l, r.key.size ≤ maxLen ∧ r.val.size ≤ maxLen)) (HX : Hid (allN p e q l = x)) (hx : (x != 0) = true) :
    Calls Try.prog 13 #[.agg #[.int .i64 p, .int .i64 e, .int .i64 q, .slice A l.length cap]] w fun e' w' => e' = .returned (.tuple #[.string ⟨#[]⟩, .int .i64 x]) ∧ Below w.heap.size w w' := by
  go_enter Try.func13, Try.ntmps13
  go_wp2_with (go_at_call 17; refine (all_is _ _ _ _ _ _ _ _ _ (Lib.hid (hR.out.below ((one_box _).mono hB))) (by simp; omega) hl hs HX).mono ?_; rintro e w1 ⟨rfl, hb1⟩)
  go_ret2
  exact ⟨rfl, (one_box _).trans (hb1.mono (by simp))⟩

theorem batch_is (p e q : Int) (A : Option Addr) (l : List R) (cap B : Nat) (x : Int) (t : ByteArray) (w : World) (hR : Hid (Reads w B A l)) (hB : B ≤ w.heap.size) (hl : l.length ≤ 20) (hs : Hid (∀ r ∈ l, r.key.size ≤ maxLen ∧ r.val.size ≤ maxLen)) (HX : Hid (allN p e q l = x)) (HT : Hid (batP p e q l = t)) :
    Calls Try.prog 13 #[.agg #[.int .i64 p, .int .i64 e, .int .i64 q, .slice A l.length cap]] w fun e' w' => e' = .returned (.tuple #[.string t, .int .i64 x]) ∧ Below w.heap.size w w' := by
  have ht := HT.out
  by_cases hx : x = 0
  · subst hx
    rw [batP_ok HX.out] at ht
    subst ht
    exact batch_ok p e q A l cap B w hR hB hs HX
  · rw [batP_err HX.out hx] at ht
    subst ht
    exact batch_err p e q A l cap B x w hR hB hl hs HX (by simpa using hx)
end Go.Proofs.Ytinhinghakkfoaa.L3
