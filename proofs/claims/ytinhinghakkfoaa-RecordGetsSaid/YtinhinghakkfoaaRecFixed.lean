/-
  The calls on records and batches whose answers the document fixes.
-/
import Derived.Test.YtinhinghakkfoaaRecBack
import Derived.Test.YtinhinghakkfoaaRecBatch
import Derived.Test.YtinhinghakkfoaaRecParse
import Derived.Test.YtinhinghakkfoaaRecSame
namespace Go.Proofs.Ytinhinghakkfoaa.L3
open Go.RowKit

theorem put_one1 : V.put 1 = ⟨#[1]⟩ := by unfold V.put; rw [V.puts_small (by decide)]; rfl
theorem txt_one (c : UInt8) : txt ⟨#[c]⟩ = ⟨#[1, c]⟩ := by
  unfold txt
  rw [show (ByteArray.mk #[c]).size = 1 from rfl, put_one1]
  rfl
theorem putT_ab : putT true ⟨#[97]⟩ false ⟨#[98]⟩ = ⟨#[1, 1, 97, 1, 98]⟩ := by
  have h : chk true ⟨#[97]⟩ false ⟨#[98]⟩ = 0 := by decide
  unfold putT
  rw [if_pos h]
  show (⟨#[1]⟩ : ByteArray) ++ txt ⟨#[97]⟩ ++ txt ⟨#[98]⟩ = _
  rw [txt_one, txt_one]
  rfl
theorem putT_tomb : putT true ⟨#[97]⟩ true ⟨#[]⟩ = ⟨#[3, 1, 97]⟩ := by
  have h : chk true ⟨#[97]⟩ true ⟨#[]⟩ = 0 := by decide
  unfold putT
  rw [if_pos h]
  show (⟨#[3]⟩ : ByteArray) ++ txt ⟨#[97]⟩ = _
  rw [txt_one]
  rfl
theorem putT_v : putT false ⟨#[]⟩ false ⟨#[118]⟩ = ⟨#[0, 1, 118]⟩ := by
  have h : chk false ⟨#[]⟩ false ⟨#[118]⟩ = 0 := by decide
  unfold putT
  rw [if_pos h]
  show (⟨#[0]⟩ : ByteArray) ++ txt ⟨#[118]⟩ = _
  rw [txt_one]
  rfl
def two : List R := [⟨true, ⟨#[97]⟩, true, ⟨#[]⟩⟩, ⟨false, ⟨#[]⟩, false, ⟨#[118]⟩⟩]
theorem two_ok : allN 1 2 300 two = 0 := by decide
theorem bat_two : batT 1 2 300 two = ⟨#[1, 2, 172, 2, 2, 3, 1, 97, 0, 1, 118]⟩ := by
  apply V.nats_inj
  rw [nats_bat]
  have p1 : V.puts (1 : Int).toNat = [1] := V.puts_small (by decide)
  have p2 : V.puts (2 : Int).toNat = [2] := V.puts_small (by decide)
  have p3 : V.puts (300 : Int).toNat = [172, 2] := by rw [V.puts_big (by decide), V.puts_small (by decide)]; rfl
  have p4 : V.puts two.length = [2] := V.puts_small (by decide)
  unfold batN
  rw [p1, p2, p3, p4]
  show _ ++ (_ ++ (_ ++ (_ ++ (V.nats (putT true ⟨#[97]⟩ true ⟨#[]⟩) ++ (V.nats (putT false ⟨#[]⟩ false ⟨#[118]⟩) ++ []))))) = _
  rw [putT_tomb, putT_v]
  rfl

theorem y1 (w : World) : Calls Try.prog 11 #[.agg #[.bool true, .string ⟨#[97]⟩, .bool false, .string ⟨#[98]⟩]] w fun e w' => e = .returned (.tuple #[.string ⟨#[1, 1, 97, 1, 98]⟩, .int .i64 0]) ∧ Below w.heap.size w w' :=
  put_is _ _ _ _ _ _ w (by decide) (by decide) (Lib.hid (by decide)) (Lib.hid putT_ab)
theorem y2 (w : World) : Calls Try.prog 11 #[.agg #[.bool true, .string ⟨#[97]⟩, .bool true, .string ⟨#[]⟩]] w fun e w' => e = .returned (.tuple #[.string ⟨#[3, 1, 97]⟩, .int .i64 0]) ∧ Below w.heap.size w w' :=
  put_is _ _ _ _ _ _ w (by decide) (by decide) (Lib.hid (by decide)) (Lib.hid putT_tomb)
theorem y3 (w : World) : Calls Try.prog 22 #[.string ⟨#[120, 3, 1, 97, 121]⟩, .int .i64 1] w fun e w' => e = .returned (.tuple #[.agg #[.bool true, .string ⟨#[97]⟩, .bool true, .string ⟨#[]⟩], .int .i64 4, .int .i64 0]) ∧ Below w.heap.size w w' := by
  have h := getR_put (s := ⟨#[120, 3, 1, 97, 121]⟩) (r := ⟨true, ⟨#[97]⟩, true, ⟨#[]⟩⟩) (l := [120]) (b := [121]) (by decide) (by
    show _ = [120] ++ (V.nats (putT true ⟨#[97]⟩ true ⟨#[]⟩) ++ [121])
    rw [putT_tomb]; rfl)
  have e : V.nats (R.put ⟨true, ⟨#[97]⟩, true, ⟨#[]⟩⟩) = [3, 1, 97] := by
    show V.nats (putT true ⟨#[97]⟩ true ⟨#[]⟩) = _
    rw [putT_tomb]; rfl
  rw [e] at h
  exact getrec_is _ _ _ _ _ w (by decide) (Lib.hid h)
theorem y4 (w : World) : Calls Try.prog 22 #[.string ⟨#[2]⟩, .int .i64 0] w fun e w' => e = .returned (.tuple #[.agg #[.bool false, .string ⟨#[]⟩, .bool false, .string ⟨#[]⟩], .int .i64 0, .int .i64 30]) ∧ Below w.heap.size w w' := by
  have h : getR ⟨#[2]⟩ 0 = (R.zero, 0, 30) := (getR_in (c := 2) (by decide) rfl).trans (bodyR_no (by decide))
  exact getrec_is _ _ _ _ _ w (by decide) (Lib.hid h)
theorem y5 (A : Option Addr) (cap B : Nat) (w : World) (hR : Hid (Reads w B A two)) (hB : B ≤ w.heap.size) :
    Calls Try.prog 13 #[.agg #[.int .i64 1, .int .i64 2, .int .i64 300, .slice A 2 cap]] w fun e w' => e = .returned (.tuple #[.string ⟨#[1, 2, 172, 2, 2, 3, 1, 97, 0, 1, 118]⟩, .int .i64 0]) ∧ Below w.heap.size w w' :=
  batch_is 1 2 300 A two cap B 0 _ w hR hB (by decide) (Lib.hid (by decide)) (Lib.hid two_ok) (Lib.hid ((batP_ok two_ok).trans bat_two))
/-- what is told of the two -/
def Post6 (w : World) (e : Ending) (w' : World) : Prop :=
  ∃ A cap, e = .returned (.tuple #[.agg #[.int .i64 1, .int .i64 2, .int .i64 300, .slice A 2 cap], .int .i64 11, .int .i64 0]) ∧ Hid (Reads w' w'.heap.size A two) ∧ Below w.heap.size w w'
theorem y6 (w : World) : Calls Try.prog 24 #[.string ⟨#[1, 2, 172, 2, 2, 3, 1, 97, 0, 1, 118, 120]⟩, .int .i64 0] w (Post6 w) := by
  have h := parse_put (s := ⟨#[1, 2, 172, 2, 2, 3, 1, 97, 0, 1, 118, 120]⟩) two_ok (pre := []) (post := [120]) (by rw [bat_two]; rfl)
  rw [bat_two] at h
  exact (parse_is _ _ _ _ _ w (by decide) (Lib.hid h)).mono fun e w' ⟨A, cap, he, ho, hb⟩ => ⟨A, cap, he, Lib.hid (Reads.own ho), hb⟩
theorem y7 (w : World) : Calls Try.prog 13 #[.agg #[.int .i64 0, .int .i64 0, .int .i64 0, .slice none 0 0]] w fun e w' => e = .returned (.tuple #[.string ⟨#[]⟩, .int .i64 30]) ∧ Below w.heap.size w w' :=
  batch_is 0 0 0 none [] 0 0 30 _ w (Lib.hid (fun h => absurd h (by decide))) (Nat.zero_le _) (by decide) (Lib.hid (fun r hr => by simp at hr)) (Lib.hid (by decide)) (Lib.hid (batP_err (x := 30) (by decide) (by decide)))
theorem y8 (w : World) : Calls Try.prog 19 #[.agg #[.bool true, .string ⟨#[97]⟩, .bool true, .string ⟨#[]⟩]] w fun e w' => e = .returned (.int .i64 3) ∧ Below w.heap.size w w' :=
  size_is _ _ _ _ _ w (by decide) (by decide) (Lib.hid putT_tomb)
theorem y9 (w : World) : Calls Try.prog 15 #[.agg #[.bool false, .string ⟨#[97]⟩, .bool false, .string ⟨#[]⟩]] w fun e w' => e = .returned (.int .i64 30) ∧ Below w.heap.size w w' := by
  have h := check_any false ⟨#[97]⟩ false ⟨#[]⟩ w (by decide) (by decide)
  rw [show chk false ⟨#[97]⟩ false ⟨#[]⟩ = 30 by decide] at h
  exact h
theorem y10 (A A' : Option Addr) (cap cap' B : Nat) (w : World) (hR : Hid (Reads w B A two)) (hR' : Hid (Reads w B A' two)) (hB : B ≤ w.heap.size) :
    Calls Try.prog 20 #[.agg #[.int .i64 1, .int .i64 2, .int .i64 300, .slice A 2 cap], .agg #[.int .i64 1, .int .i64 2, .int .i64 300, .slice A' 2 cap']] w fun e' w' => e' = .returned (.bool true) ∧ Below w.heap.size w w' :=
  same_yes 1 2 300 A A' two cap cap' B w hR hR' hB (by decide)
theorem heap_alloc2_new0 (w : World) (A B : Obj) : ((w.alloc A).alloc B).heap[w.heap.size]? = some A := heap_alloc2_old w A B
theorem reads_two {W : World} {g : Nat} (h : W.heap[g]? = some (.cells #[.bool true, .string ⟨#[97]⟩, .bool true, .string ⟨#[]⟩, .bool false, .string ⟨#[]⟩, .bool false, .string ⟨#[118]⟩] 23 (0, 0))) : Reads W W.heap.size (some ⟨g, 0, none⟩) two := fun _ => by
  refine ⟨g, rfl, (Array.getElem?_eq_some_iff.1 h).1, fun i r hr => ?_⟩
  have hi : i = 0 ∨ i = 1 := by
    have := (List.getElem?_eq_some_iff.1 hr).1
    have e : two.length = 2 := rfl
    omega
  rcases hi with rfl | rfl
  · obtain rfl : (⟨true, ⟨#[97]⟩, true, ⟨#[]⟩⟩ : R) = r := by simpa [two] using hr
    exact ⟨(cell_of_row _ _ _ _ _ _ h).trans rfl, (cell_of_row _ _ _ _ _ _ h).trans rfl, (cell_of_row _ _ _ _ _ _ h).trans rfl, (cell_of_row _ _ _ _ _ _ h).trans rfl⟩
  · obtain rfl : (⟨false, ⟨#[]⟩, false, ⟨#[118]⟩⟩ : R) = r := by simpa [two] using hr
    exact ⟨(cell_of_row _ _ _ _ _ _ h).trans rfl, (cell_of_row _ _ _ _ _ _ h).trans rfl, (cell_of_row _ _ _ _ _ _ h).trans rfl, (cell_of_row _ _ _ _ _ _ h).trans rfl⟩



set_option maxRecDepth 100000 in
set_option maxHeartbeats 8000000 in
theorem fixed3_any (w : World) :
    Calls Try.prog 21 #[] w fun e w' => e = .returned (.bool true) ∧ Below w.heap.size w w' := by
  have hB := Below.refl w.heap.size w
  go_enter Try.func21, Try.ntmps21
  go_wp2_with (first
    | (go_at_call 15; (with_reducible refine (y9 _).mono ?_); rintro e w14 ⟨rfl, hb14⟩; replace hB := acc hB hb14)
    | (go_at_call 19; (with_reducible refine (y8 _).mono ?_); rintro e w13 ⟨rfl, hb13⟩; replace hB := acc hB hb13)
    | (go_at_call 34; (with_reducible refine (tomb_any _).mono ?_); rintro e w12 ⟨rfl, hb12⟩; have q := hb11; replace hB := acc hB hb12)
    | (go_at_call 20; refine (y10 _ _ _ _ _ _ RB10.out RC10.out (Nat.le_refl _)).mono ?_; rintro e w11 ⟨rfl, hb11⟩; replace hB := acc hB hb11)
    | (go_at_call 34; (with_reducible refine (tomb_any _).mono ?_); rintro e w10 ⟨rfl, hb10⟩; have q := hb9; replace hB := acc hB hb10; have B10 := Lib.hid ((hb10.block (w6.heap.size + 1) (by omega)).trans B9.out); have C10 := Lib.hid ((hb10.block w8.heap.size (by omega)).trans C9.out); have RB10 : Hid (Reads w10 w10.heap.size (some ⟨w6.heap.size, 0, none⟩) two) := Lib.hid ((RB9.out.below hb10).mono hb10.size); have RC10 : Hid (Reads w10 w10.heap.size A6 two) := Lib.hid ((RC9.out.below hb10).mono hb10.size); have B0 := (cell_of_row w10 (w6.heap.size + 1) 0 _ _ _ B10.out).trans rfl; have B1 := (cell_of_row w10 (w6.heap.size + 1) 1 _ _ _ B10.out).trans rfl; have B2 := (cell_of_row w10 (w6.heap.size + 1) 2 _ _ _ B10.out).trans rfl; have B3 := (cell_of_row w10 (w6.heap.size + 1) 3 _ _ _ B10.out).trans rfl; have C0 := (cell_of_row w10 w8.heap.size 0 _ _ _ C10.out).trans rfl; have C1 := (cell_of_row w10 w8.heap.size 1 _ _ _ C10.out).trans rfl; have C2 := (cell_of_row w10 w8.heap.size 2 _ _ _ C10.out).trans rfl; have C3 := (cell_of_row w10 w8.heap.size 3 _ _ _ C10.out).trans rfl)
    | (go_at_call 13; (with_reducible refine (y7 _).mono ?_); rintro e w9 ⟨rfl, hb9⟩; replace hB := (hB.alloc (by have := hb8.size; omega) _).trans (hb9.mono (by simp; omega)); have hl8 : (w8.alloc (.cells #[.int .i64 1, .int .i64 2, .int .i64 300, .slice A6 2 cap6] 26)).heap.size = w8.heap.size + 1 := (by simp); have hz9 : w8.heap.size + 1 ≤ w9.heap.size := (by have := hb9.size; omega); have ha8 := (Below.refl w8.heap.size w8).alloc (Nat.le_refl _) (.cells #[.int .i64 1, .int .i64 2, .int .i64 300, .slice A6 2 cap6] 26); have R9 := Lib.hid ((hb9.block w4.heap.size (by omega)).trans ((ha8.block _ (by omega)).trans R8.out)); have B9 := Lib.hid ((hb9.block (w6.heap.size + 1) (by omega)).trans ((ha8.block _ (by omega)).trans B8.out)); have C9 := Lib.hid ((hb9.block w8.heap.size (by omega)).trans (heap_alloc_new w8 _)); have hbb9 : Below w8.heap.size w8 w9 := ha8.trans (hb9.mono (by omega)); have RB9 : Hid (Reads w9 w9.heap.size (some ⟨w6.heap.size, 0, none⟩) two) := Lib.hid ((RB8.out.below hbb9).mono hbb9.size); have RC9 : Hid (Reads w9 w9.heap.size A6 two) := Lib.hid ((RC8.out.below hbb9).mono hbb9.size); have R0 := (cell_of_row w9 w4.heap.size 0 _ _ _ R9.out).trans rfl; have R1 := (cell_of_row w9 w4.heap.size 1 _ _ _ R9.out).trans rfl; have R2 := (cell_of_row w9 w4.heap.size 2 _ _ _ R9.out).trans rfl; have R3 := (cell_of_row w9 w4.heap.size 3 _ _ _ R9.out).trans rfl)
    | (go_at_call 24; refine (y6 _).mono ?_; rintro e w8 ⟨A6, cap6, rfl, RC8, hb8⟩; replace hB := acc hB hb8; have hz8 : w7.heap.size ≤ w8.heap.size := hb8.size; have R8 := Lib.hid ((hb8.block w4.heap.size (by omega)).trans R7.out); have B8 := Lib.hid ((hb8.block (w6.heap.size + 1) (by omega)).trans B7.out); have RB8 : Hid (Reads w8 w8.heap.size (some ⟨w6.heap.size, 0, none⟩) two) := Lib.hid ((RB7.out.below hb8).mono hb8.size))
    | (go_at_call 13; refine (y5 (some ⟨w6.heap.size, 0, none⟩) 2 _ _ (Lib.hid (reads_two (heap_alloc2_new0 w6 _ _))) (Nat.le_refl _)).mono ?_; rintro e w7 ⟨rfl, hb7⟩; have hl7 : ((w6.alloc (.cells #[.bool true, .string ⟨#[97]⟩, .bool true, .string ⟨#[]⟩, .bool false, .string ⟨#[]⟩, .bool false, .string ⟨#[118]⟩] 23)).alloc (.cells #[.int .i64 1, .int .i64 2, .int .i64 300, .slice (some ⟨w6.heap.size, 0, none⟩) 2 2] 26)).heap.size = w6.heap.size + 1 + 1 := (by simp); have hz7 : w6.heap.size + 1 + 1 ≤ w7.heap.size := (by have := hb7.size; omega); have ha6 := ((Below.refl w6.heap.size w6).alloc (Nat.le_refl _) (.cells #[.bool true, .string ⟨#[97]⟩, .bool true, .string ⟨#[]⟩, .bool false, .string ⟨#[]⟩, .bool false, .string ⟨#[118]⟩] 23)).alloc (by simp) (.cells #[.int .i64 1, .int .i64 2, .int .i64 300, .slice (some ⟨w6.heap.size, 0, none⟩) 2 2] 26); replace hB := ((hB.alloc (by have := hb6.size; omega) _).alloc (by simp; omega) _).trans (hb7.mono (by omega)); have R7 := Lib.hid ((hb7.block w4.heap.size (by omega)).trans ((ha6.block _ (by omega)).trans R6.out)); have B7 := Lib.hid ((hb7.block (w6.heap.size + 1) (by omega)).trans (heap_alloc2_new w6 (.cells #[.bool true, .string ⟨#[97]⟩, .bool true, .string ⟨#[]⟩, .bool false, .string ⟨#[]⟩, .bool false, .string ⟨#[118]⟩] 23) (.cells #[.int .i64 1, .int .i64 2, .int .i64 300, .slice (some ⟨w6.heap.size, 0, none⟩) 2 2] 26))); have RB7 : Hid (Reads w7 w7.heap.size (some ⟨w6.heap.size, 0, none⟩) two) := Lib.hid (((reads_two (heap_alloc2_new0 w6 (.cells #[.bool true, .string ⟨#[97]⟩, .bool true, .string ⟨#[]⟩, .bool false, .string ⟨#[]⟩, .bool false, .string ⟨#[118]⟩] 23) (.cells #[.int .i64 1, .int .i64 2, .int .i64 300, .slice (some ⟨w6.heap.size, 0, none⟩) 2 2] 26))).below hb7).mono hb7.size))
    | (go_at_call 34; (with_reducible refine (tomb_any _).mono ?_); rintro e w6 ⟨rfl, hb6⟩; have q := hb5; have ha5 := (Below.refl w5.heap.size w5).alloc (Nat.le_refl _) (.cells #[.bool false, .string ⟨#[]⟩, .bool false, .string ⟨#[]⟩] 23); have hl5 : (w5.alloc (.cells #[.bool false, .string ⟨#[]⟩, .bool false, .string ⟨#[]⟩] 23)).heap.size = w5.heap.size + 1 := (by simp); have hz6 : w5.heap.size + 1 ≤ w6.heap.size := (by have := hb6.size; omega); replace hB := (hB.alloc (by have := hb5.size; omega) _).trans (hb6.mono (by omega)); have R6 := Lib.hid ((hb6.block w4.heap.size (by omega)).trans ((ha5.block _ (by omega)).trans R5.out)))
    | (go_at_call 22; (with_reducible refine (y4 _).mono ?_); rintro e w5 ⟨rfl, hb5⟩; have hl4 : (w4.alloc (.cells #[.bool true, .string ⟨#[97]⟩, .bool true, .string ⟨#[]⟩] 23)).heap.size = w4.heap.size + 1 := (by simp); have hz5 : w4.heap.size + 1 ≤ w5.heap.size := (by have := hb5.size; omega); have hw4 : w.heap.size ≤ w4.heap.size := hB.size; replace hB := (hB.alloc hB.size _).trans (hb5.mono (by omega)); have R5 := Lib.hid ((hb5.block w4.heap.size (by omega)).trans (heap_alloc_new w4 _)))
    | (go_at_call 22; (with_reducible refine (y3 _).mono ?_); rintro e w4 ⟨rfl, hb4⟩; replace hB := acc hB hb4)
    | (go_at_call 11; (with_reducible refine (y2 _).mono ?_); rintro e w3 ⟨rfl, hb3⟩; replace hB := acc hB hb3)
    | (go_at_call 34; (with_reducible refine (tomb_any _).mono ?_); rintro e w2 ⟨rfl, hb2⟩; replace hB := acc hB hb2)
    | (go_at_call 11; (with_reducible refine (y1 _).mono ?_); rintro e w1 ⟨rfl, hb1⟩; replace hB := acc hB hb1))
  have hT : ∀ w', Below w9.heap.size w9 w' → (((w'.cell? ⟨w4.heap.size, 0, none⟩ = some (.bool true) ∧ w'.cell? ⟨w4.heap.size, 1, none⟩ = some (.string ⟨#[97]⟩) ∧ w'.cell? ⟨w4.heap.size, 2, none⟩ = some (.bool true) ∧ w'.cell? ⟨w4.heap.size, 3, none⟩ = some (.string ⟨#[]⟩)) ∧ (w'.cell? ⟨w6.heap.size + 1, 0, none⟩ = some (.int .i64 1) ∧ w'.cell? ⟨w6.heap.size + 1, 1, none⟩ = some (.int .i64 2) ∧ w'.cell? ⟨w6.heap.size + 1, 2, none⟩ = some (.int .i64 300) ∧ w'.cell? ⟨w6.heap.size + 1, 3, none⟩ = some (.slice (some ⟨w6.heap.size, 0, none⟩) 2 2)) ∧ (w'.cell? ⟨w8.heap.size, 0, none⟩ = some (.int .i64 1) ∧ w'.cell? ⟨w8.heap.size, 1, none⟩ = some (.int .i64 2) ∧ w'.cell? ⟨w8.heap.size, 2, none⟩ = some (.int .i64 300) ∧ w'.cell? ⟨w8.heap.size, 3, none⟩ = some (.slice A6 2 cap6))) ∧ Below w9.heap.size w9 w') := fun w' hb => by
    have a0 := fun i => hb.cell (p := ⟨w4.heap.size, i, none⟩) (by show w4.heap.size < _; omega)
    have a1 := fun i => hb.cell (p := ⟨w6.heap.size + 1, i, none⟩) (by show w6.heap.size + 1 < _; omega)
    have a2 := fun i => hb.cell (p := ⟨w8.heap.size, i, none⟩) (by show w8.heap.size < _; omega)
    exact ⟨⟨⟨(a0 0).trans R0, (a0 1).trans R1, (a0 2).trans R2, (a0 3).trans R3⟩, ⟨(a1 0).trans ((cell_of_row _ _ _ _ _ _ B9.out).trans rfl), (a1 1).trans ((cell_of_row _ _ _ _ _ _ B9.out).trans rfl), (a1 2).trans ((cell_of_row _ _ _ _ _ _ B9.out).trans rfl), (a1 3).trans ((cell_of_row _ _ _ _ _ _ B9.out).trans rfl)⟩, ⟨(a2 0).trans ((cell_of_row _ _ _ _ _ _ C9.out).trans rfl), (a2 1).trans ((cell_of_row _ _ _ _ _ _ C9.out).trans rfl), (a2 2).trans ((cell_of_row _ _ _ _ _ _ C9.out).trans rfl), (a2 3).trans ((cell_of_row _ _ _ _ _ _ C9.out).trans rfl)⟩⟩, hb⟩
  have HT := Lib.hid hT
  have KT : Hid (∀ wa wb, (((wa.cell? ⟨w4.heap.size, 0, none⟩ = some (.bool true) ∧ wa.cell? ⟨w4.heap.size, 1, none⟩ = some (.string ⟨#[97]⟩) ∧ wa.cell? ⟨w4.heap.size, 2, none⟩ = some (.bool true) ∧ wa.cell? ⟨w4.heap.size, 3, none⟩ = some (.string ⟨#[]⟩)) ∧ (wa.cell? ⟨w6.heap.size + 1, 0, none⟩ = some (.int .i64 1) ∧ wa.cell? ⟨w6.heap.size + 1, 1, none⟩ = some (.int .i64 2) ∧ wa.cell? ⟨w6.heap.size + 1, 2, none⟩ = some (.int .i64 300) ∧ wa.cell? ⟨w6.heap.size + 1, 3, none⟩ = some (.slice (some ⟨w6.heap.size, 0, none⟩) 2 2)) ∧ (wa.cell? ⟨w8.heap.size, 0, none⟩ = some (.int .i64 1) ∧ wa.cell? ⟨w8.heap.size, 1, none⟩ = some (.int .i64 2) ∧ wa.cell? ⟨w8.heap.size, 2, none⟩ = some (.int .i64 300) ∧ wa.cell? ⟨w8.heap.size, 3, none⟩ = some (.slice A6 2 cap6))) ∧ Below w9.heap.size w9 wa) → Below wa.heap.size wa wb → (((wb.cell? ⟨w4.heap.size, 0, none⟩ = some (.bool true) ∧ wb.cell? ⟨w4.heap.size, 1, none⟩ = some (.string ⟨#[97]⟩) ∧ wb.cell? ⟨w4.heap.size, 2, none⟩ = some (.bool true) ∧ wb.cell? ⟨w4.heap.size, 3, none⟩ = some (.string ⟨#[]⟩)) ∧ (wb.cell? ⟨w6.heap.size + 1, 0, none⟩ = some (.int .i64 1) ∧ wb.cell? ⟨w6.heap.size + 1, 1, none⟩ = some (.int .i64 2) ∧ wb.cell? ⟨w6.heap.size + 1, 2, none⟩ = some (.int .i64 300) ∧ wb.cell? ⟨w6.heap.size + 1, 3, none⟩ = some (.slice (some ⟨w6.heap.size, 0, none⟩) 2 2)) ∧ (wb.cell? ⟨w8.heap.size, 0, none⟩ = some (.int .i64 1) ∧ wb.cell? ⟨w8.heap.size, 1, none⟩ = some (.int .i64 2) ∧ wb.cell? ⟨w8.heap.size, 2, none⟩ = some (.int .i64 300) ∧ wb.cell? ⟨w8.heap.size, 3, none⟩ = some (.slice A6 2 cap6))) ∧ Below w9.heap.size w9 wb)) := Lib.hid (fun wa wb h hb => HT.out _ (h.2.trans (hb.mono h.2.size)))
  have KR : Hid (∀ wa, (((wa.cell? ⟨w4.heap.size, 0, none⟩ = some (.bool true) ∧ wa.cell? ⟨w4.heap.size, 1, none⟩ = some (.string ⟨#[97]⟩) ∧ wa.cell? ⟨w4.heap.size, 2, none⟩ = some (.bool true) ∧ wa.cell? ⟨w4.heap.size, 3, none⟩ = some (.string ⟨#[]⟩)) ∧ (wa.cell? ⟨w6.heap.size + 1, 0, none⟩ = some (.int .i64 1) ∧ wa.cell? ⟨w6.heap.size + 1, 1, none⟩ = some (.int .i64 2) ∧ wa.cell? ⟨w6.heap.size + 1, 2, none⟩ = some (.int .i64 300) ∧ wa.cell? ⟨w6.heap.size + 1, 3, none⟩ = some (.slice (some ⟨w6.heap.size, 0, none⟩) 2 2)) ∧ (wa.cell? ⟨w8.heap.size, 0, none⟩ = some (.int .i64 1) ∧ wa.cell? ⟨w8.heap.size, 1, none⟩ = some (.int .i64 2) ∧ wa.cell? ⟨w8.heap.size, 2, none⟩ = some (.int .i64 300) ∧ wa.cell? ⟨w8.heap.size, 3, none⟩ = some (.slice A6 2 cap6))) ∧ Below w9.heap.size w9 wa) → Hid (Reads wa w9.heap.size (some ⟨w6.heap.size, 0, none⟩) two) ∧ Hid (Reads wa w9.heap.size A6 two) ∧ w9.heap.size ≤ wa.heap.size) := Lib.hid (fun wa h => ⟨Lib.hid (RB9.out.below h.2), Lib.hid (RC9.out.below h.2), h.2.size⟩)
  have HB := Lib.hid hB
  clear hT hB R0 R1 R2 R3 ha8 hl8 hz8 hz9 hz7 hl7 ha6 ha5 hl5 hz6 hl4 hz5 hw4 hbb9 hb1 hb2 hb3 hb4 hb5 hb6 hb7 hb8 hb9
  simp only [List.append_eq, List.cons_append, List.nil_append]
  go_region_held3 (fun w' => (((w'.cell? ⟨w4.heap.size, 0, none⟩ = some (.bool true) ∧ w'.cell? ⟨w4.heap.size, 1, none⟩ = some (.string ⟨#[97]⟩) ∧ w'.cell? ⟨w4.heap.size, 2, none⟩ = some (.bool true) ∧ w'.cell? ⟨w4.heap.size, 3, none⟩ = some (.string ⟨#[]⟩)) ∧ (w'.cell? ⟨w6.heap.size + 1, 0, none⟩ = some (.int .i64 1) ∧ w'.cell? ⟨w6.heap.size + 1, 1, none⟩ = some (.int .i64 2) ∧ w'.cell? ⟨w6.heap.size + 1, 2, none⟩ = some (.int .i64 300) ∧ w'.cell? ⟨w6.heap.size + 1, 3, none⟩ = some (.slice (some ⟨w6.heap.size, 0, none⟩) 2 2)) ∧ (w'.cell? ⟨w8.heap.size, 0, none⟩ = some (.int .i64 1) ∧ w'.cell? ⟨w8.heap.size, 1, none⟩ = some (.int .i64 2) ∧ w'.cell? ⟨w8.heap.size, 2, none⟩ = some (.int .i64 300) ∧ w'.cell? ⟨w8.heap.size, 3, none⟩ = some (.slice A6 2 cap6))) ∧ Below w9.heap.size w9 w'))
    (first | assumption | exact HT.out _ (Below.refl _ _).drew | exact KT.out _ _ (by assumption) (by assumption))
    (first
      | (go_at_call 34; refine (tomb_any _).mono ?_; rintro e wt ⟨rfl, hbt⟩)
      | (go_at_call 20; refine (y10 _ _ _ _ w9.heap.size _ (KR.out _ (by assumption)).1 (KR.out _ (by assumption)).2.1 (KR.out _ (by assumption)).2.2).mono ?_; rintro e wq ⟨rfl, hbq⟩)
      | (go_at_call 19; refine (y8 _).mono ?_; rintro e ws ⟨rfl, hbs⟩)
      | (go_at_call 15; refine (y9 _).mono ?_; rintro e wc ⟨rfl, hbc⟩))
  rename_i hh
  go_wp2_with fail
  go_ret
  exact ⟨rfl, HB.out.trans (hh.2.mono HB.out.size)⟩
end Go.Proofs.Ytinhinghakkfoaa.L3
