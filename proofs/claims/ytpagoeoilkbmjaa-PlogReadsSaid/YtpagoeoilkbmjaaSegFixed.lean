/-
  The calls on a segment whose answers the document fixes.
-/
import Derived.Test.YtpagoeoilkbmjaaSegMine
namespace Go.Proofs.Ytpagoeoilkbmjaa.L5
open Go.RowKit
open L3 L4

theorem v_any (w : World) :
    Calls Try.prog 22 #[] w fun e w' => e = .returned (.agg #[.bool false, .string ⟨#[]⟩, .bool false, .string ⟨#[118]⟩]) ∧ Below w.heap.size w w' := by
  go_enter Try.func22, Try.ntmps22
  go_wp2_with fail
  exact bodyPost_ret (v := .agg #[.bool false, .string ⟨#[]⟩, .bool false, .string ⟨#[118]⟩]) (by simp [results, Try.results22, go_sem]) rfl ⟨rfl, one_box _⟩
def rV : R := ⟨false, ⟨#[]⟩, false, ⟨#[118]⟩⟩
def rK : R := ⟨true, ⟨#[107]⟩, false, ⟨#[119]⟩⟩
def rO : R := ⟨false, ⟨#[111, 100, 100]⟩, false, ⟨#[]⟩⟩
def rZ : R := ⟨false, ⟨#[]⟩, false, ⟨#[]⟩⟩
def two : List R := [rV, rK]
def odd : List R := [rO]
def zeros : List R := List.replicate 64 rZ
def L2 : List L4.Fd := [⟨10, rV⟩, ⟨11, rK⟩]
def L1 : List L4.Fd := [⟨11, rK⟩]
theorem put1 : V.put 1 = ⟨#[1]⟩ := by unfold V.put; rw [V.puts_small (by decide)]; rfl
theorem txt1 (c : UInt8) : txt ⟨#[c]⟩ = ⟨#[1, c]⟩ := by
  unfold txt
  rw [show (ByteArray.mk #[c]).size = 1 from rfl, put1]
  rfl
theorem bytes_L1 : bytesL L1 = 5 := by
  have h : chk true ⟨#[107]⟩ false ⟨#[119]⟩ = 0 := by decide
  show (putT true ⟨#[107]⟩ false ⟨#[119]⟩).size + 0 = 5
  unfold putT
  rw [if_pos h]
  show ((⟨#[1]⟩ : ByteArray) ++ txt ⟨#[107]⟩ ++ txt ⟨#[119]⟩).size + 0 = _
  rw [txt1, txt1]
  rfl
theorem reads_rows {W : World} {g : Nat} {l : List R} {T : TypeId} {cs : Array Value} (h : W.heap[g]? = some (.cells cs T (0, 0))) (hc : cs.toList = rowOf l) : Reads W (g + 1) (some ⟨g, 0, none⟩) l := fun _ => by
  refine ⟨g, rfl, Nat.lt_succ_self _, fun i r hr => ?_⟩
  obtain ⟨a, b, c, d⟩ := rowOf_at l i r hr
  rw [← hc] at a b c d
  exact ⟨(cell_of_row _ _ _ _ _ _ h).trans (by simpa using a), (cell_of_row _ _ _ _ _ _ h).trans (by simpa using b), (cell_of_row _ _ _ _ _ _ h).trans (by simpa using c), (cell_of_row _ _ _ _ _ _ h).trans (by simpa using d)⟩
theorem reads_two {W : World} {g : Nat} (h : W.heap[g]? = some (.cells #[.bool false, .string ⟨#[]⟩, .bool false, .string ⟨#[118]⟩, .bool true, .string ⟨#[107]⟩, .bool false, .string ⟨#[119]⟩] 41 (0, 0))) : Reads W (g + 1) (some ⟨g, 0, none⟩) two := reads_rows h rfl
theorem reads_one {W : World} {g : Nat} (h : W.heap[g]? = some (.cells #[.bool false, .string ⟨#[111, 100, 100]⟩, .bool false, .string ⟨#[]⟩] 41 (0, 0))) : Reads W (g + 1) (some ⟨g, 0, none⟩) odd := reads_rows h rfl
theorem reads_num {W : World} {g : Nat} {x : Int} {T : TypeId} (h : W.heap[g]? = some (.cells #[.int .i64 x] T (0, 0))) : ReadsI W (g + 1) (some ⟨g, 0, none⟩) [x] := fun _ => by
  refine ⟨g, 0, rfl, Nat.lt_succ_self _, fun i y hy => ?_⟩
  have hi : i = 0 := by have := (List.getElem?_eq_some_iff.1 hy).1; simp at this; omega
  subst hi
  have e : x = y := by simpa using hy
  subst e
  exact (cell_of_row _ _ _ _ _ _ h).trans rfl
theorem make_zeros (W : World) : (Instr.makeSlice 30 (.int .i64 64) (.int .i64 64)).run Try.prog W = .ok (.slice (some ⟨W.heap.size, 0, none⟩) 64 64) (W.alloc (.cells (rowOf zeros).toArray 41)) := by kernel_rfl
theorem reads_zeros {W : World} {g : Nat} (h : W.heap[g]? = some (.cells (rowOf zeros).toArray 41 (0, 0))) : Reads W (g + 1) (some ⟨g, 0, none⟩) zeros := reads_rows h (by simp)
theorem read_form {w w' : World} {e : Ending} (h : CloneP w L1 e w') : ∃ b c, e = .returned (.slice (some ⟨b, 0, none⟩) 1 c) ∧ w'.ownsRow w.heap.size 43 5 (.slice (some ⟨b, 0, none⟩) 1 c) 1 (rowF L1) ∧ Below w.heap.size w w' := by
  obtain ⟨A, c, he, ho, hb⟩ := h
  obtain ⟨b, c', hv, _, _⟩ := ho.form (by decide)
  injection hv with e1 e2 e3
  subst e1
  exact ⟨b, c, he, ho, hb⟩
theorem index_form {w w' : World} {e : Ending} (h : NumsP w (indexL L1) e w') : ∃ A c, e = .returned (.slice A 1 c) ∧ w'.ownsRow w.heap.size 3 1 (.slice A [(11 : Int)].length c) [(11 : Int)].length (rowI [11]) ∧ Below w.heap.size w w' := by
  obtain ⟨A, c, he, ho, hb⟩ := h
  exact ⟨A, c, he, ho, hb⟩
theorem cells_L1 {w : World} {base b c : Nat} (h : w.ownsRow base 43 5 (.slice (some ⟨b, 0, none⟩) 1 c) 1 (rowF L1)) : w.cell? ⟨b, 0, none⟩ = some (.int .i64 11) ∧ w.cell? ⟨b, 4, none⟩ = some (.string ⟨#[119]⟩) := by
  have h0 := h.cells (g := b) rfl 0 (.int .i64 11) rfl
  have h4 := h.cells (g := b) rfl 4 (.string ⟨#[119]⟩) rfl
  rw [addr_add] at h0 h4
  exact ⟨h0, h4⟩

set_option maxRecDepth 100000 in
set_option maxHeartbeats 8000000 in
theorem fixed5_any (w : World) :
    Calls Try.prog 24 #[] w fun e w' => e = .returned (.bool true) ∧ Below w.heap.size w w' := by
  have N10 : Hid (newE 10 = 0) := Lib.hid (by decide)
  have N11 : Hid (newE (-1) = 1) := Lib.hid (by decide)
  have AE0 : Hid (appE 10 ([] : List L4.Fd).length two = 0) := Lib.hid (by decide)
  have AE30 : Hid (appE 12 L1.length odd = 30) := Lib.hid (by decide)
  have AE50 : Hid (appE 12 L1.length zeros = 50) := Lib.hid (by decide)
  have LE12 : Hid (loadE 10 12 L1 = 0) := Lib.hid (by decide)
  have LE11 : Hid (loadE 10 11 L1 = 1) := Lib.hid (by decide)
  have SM2 : Hid (∀ r ∈ two, r.key.size ≤ maxLen ∧ r.val.size ≤ maxLen) := Lib.hid (by decide)
  have SMO : Hid (∀ r ∈ odd, r.key.size ≤ maxLen ∧ r.val.size ≤ maxLen) := Lib.hid (by decide)
  have SMZ : Hid (∀ r ∈ zeros, r.key.size ≤ maxLen ∧ r.val.size ≤ maxLen) := Lib.hid (fun r hr => by rw [List.eq_of_mem_replicate hr]; decide)
  have SM1 : Hid (∀ f ∈ L1, f.r.key.size ≤ maxLen ∧ f.r.val.size ≤ maxLen) := Lib.hid (by decide)
  have OF2 : Hid (∀ f ∈ L2, 0 ≤ f.o ∧ f.o ≤ 1099511627776) := Lib.hid (by decide)
  have RI2 : Hid (riseB 10 12 L2 = true) := Lib.hid (by decide)
  have WF11 : Hid (∀ x ∈ ([11] : List Int), (Lit.int .i64 x).wf = true) := Lib.hid (by decide)
  have RD : readL L2 11 5 = L1 := rfl
  have KE : keepL L2 [11] = L1 := rfl
  have KN : L2.length - L1.length = 1 := rfl
  have LL1 : L1.length = 1 := rfl
  have SMS : Hid (∀ f ∈ L1, f.r.key.size ≤ 64 ∧ f.r.val.size ≤ 512) := Lib.hid (by decide)
  have hmk := make_zeros
  go_enter Try.func24, Try.ntmps24
  go_wp2_with (first
    | (go_at_call 58; have _q := M14; refine (nums_is A14 (some ⟨w14.heap.size, 0, none⟩) [11] [11] c14 1 (w14.heap.size + 1) true _ (Lib.hid ((ReadsI.own (own_below O14.out (one_box _))).mono (by simp))) (Lib.hid (reads_num (heap_alloc_new w14 _))) (by simp) (by decide) (Lib.hid (by simp))).mono ?_; rintro e w15 ⟨rfl, hb15⟩)
    | (go_at_call 59; have _q := M13; refine (mine_index M13 (by decide)).mono ?_; intro e w14 hi14; obtain ⟨A14, c14, rfl, hown14, hb14⟩ := index_form hi14; clear hi14; have M14 := Lib.hid (M13.out.below' hb14); have O14 := Lib.hid hown14; clear hown14)
    | (go_at_call 56; have _q := M12; refine (mine_bytes M12 (by decide) SMS).mono ?_; rw [bytes_L1]; rintro e w13 ⟨rfl, hb13⟩; have M13 := Lib.hid (M12.out.below' hb13))
    | (go_at_call 55; have _q := M11; refine (mine_len M11).mono ?_; rw [LL1]; rintro e w12 ⟨rfl, hb12⟩; have M12 := Lib.hid (M11.out.below' hb12))
    | (go_at_call 11; have _q := M10; refine (new_no (-1) _ N11).mono ?_; rintro e w11 ⟨rfl, hb11⟩; have M11 := Lib.hid (M10.out.below' hb11); have O11 := Lib.hid (own_below O10.out hb11); obtain ⟨d0, d4⟩ := cells_L1 O11.out)
    | (go_at_call 44; have _q := M9; refine (load_not 10 11 (some ⟨b4, 0, none⟩) L1 1 c4 w9.heap.size 1 w9 (Lib.hid (ReadsF.own O9.out)) (Nat.le_refl _) rfl (by decide) SM1 LE11 (by decide)).mono ?_; rintro e w10 ⟨rfl, hb10⟩; have M10 := Lib.hid (M9.out.below' hb10); have O10 := Lib.hid (own_below O9.out hb10))
    | (go_at_call 44; have _q := M8; refine (load_yes 10 12 (some ⟨b4, 0, none⟩) L1 1 c4 w8.heap.size w w8 (Lib.hid M8.out.old) (Lib.hid (ReadsF.own O8.out)) (Nat.le_refl _) rfl (by decide) SM1 LE12).mono ?_; rintro e w9 ⟨g9, rfl, hm9, hb9⟩; have M9 := Lib.hid (M8.out.below' hb9); have O9 := Lib.hid (own_below O8.out hb9); clear hm9)
    | (go_at_call 14; have _q := M7; refine (mine_append_no (Lib.hid (M7.out.below' (one_box _))) (some ⟨w7.heap.size, 0, none⟩) zeros 64 64 (w7.heap.size + 1) 50 (by decide) (by decide) (by decide) (Lib.hid (reads_zeros (heap_alloc_new w7 _))) (Lib.hid (fun k e => .inl (by injection e with e; have := M7.out.1; subst e; exact this))) (by simp) rfl (by decide) SMZ AE50 (by decide)).mono ?_; rintro e w8 ⟨rfl, hb8⟩; have hb8' : Below w7.heap.size w7 w8 := (one_box _).trans (hb8.mono (by simp)); have M8 := Lib.hid (M7.out.below' hb8'); have O8 := Lib.hid (own_below O7.out hb8'); clear hb8)
    | (go_at_call 14; have _q := M6; refine (mine_append_no (Lib.hid (M6.out.below' (one_box _))) (some ⟨w6.heap.size, 0, none⟩) odd 1 1 (w6.heap.size + 1) 30 (by decide) (by decide) (by decide) (Lib.hid (reads_one (heap_alloc_new w6 _))) (Lib.hid (fun k e => .inl (by injection e with e; have := M6.out.1; subst e; exact this))) (by simp) rfl (by decide) SMO AE30 (by decide)).mono ?_; rintro e w7 ⟨rfl, hb7⟩; have hb7' : Below w6.heap.size w6 w7 := (one_box _).trans (hb7.mono (by simp)); have M7 := Lib.hid (M6.out.below' hb7'); have O7 := Lib.hid (own_below O6.out hb7'); clear hb7)
    | (go_at_call 54; have _q := M5; refine (mine_span M5).mono ?_; rintro e w6 ⟨rfl, hb6⟩; have M6 := Lib.hid (M5.out.below' hb6); have O6 := Lib.hid (own_below O5.out hb6))
    | (go_at_call 19; have _q := M4; refine (mine_keep (Lib.hid (M4.out.below' (one_box _))) (some ⟨w4.heap.size, 0, none⟩) [11] 1 1 (w4.heap.size + 1) (by decide) OF2 (Lib.hid (reads_num (heap_alloc_new w4 _))) (by simp) rfl (by decide) WF11).mono ?_; rw [KE, KN]; rintro e w5 ⟨rfl, hm5, ho5⟩; have M5 := Lib.hid hm5; have O5 := Lib.hid (ho5.own (own_below O4.out (one_box _)) (Nat.le_refl _)); clear hm5 ho5)
    | (go_at_call 16; have _q := M3; refine (mine_read M3 11 5 (by decide) RI2).mono ?_; rw [RD]; intro e w4 hr4; obtain ⟨b4, c4, rfl, hown4, hb4⟩ := read_form hr4; clear hr4; have M4 := Lib.hid (M3.out.below' hb4); have O4 := Lib.hid hown4; clear hown4)
    | (go_at_call 14; have _q := M2; refine (mine_append (Lib.hid (M2.out.below' (one_box _))) (some ⟨w2.heap.size, 0, none⟩) two 2 2 (w2.heap.size + 1) (by decide) (by decide) (by decide) (Lib.hid (reads_two (heap_alloc_new w2 _))) (Lib.hid (fun k e => .inl (by injection e with e; have := M2.out.1; subst e; exact this))) (by simp) rfl (by decide) SM2 AE0).mono ?_; rintro e w3 ⟨rfl, hm3, _⟩; have M3 : Hid (Mine 87 w w3.heap.size w3 g 10 12 L2) := Lib.hid hm3; clear hm3)
    | (go_at_call 22; have _q := M1; refine (v_any _).mono ?_; rintro e w2 ⟨rfl, hb2⟩; have M2 := Lib.hid (M1.out.below' hb2))
    | (go_at_call 11; refine (new_ok 10 w w (Lib.hid (Below.refl _ _)) N10).mono ?_; rintro e w1 ⟨g, rfl, hm1⟩; have M1 := Lib.hid hm1; clear hm1))
  go_ret
  exact ⟨rfl, M14.out.old.trans (((one_box _).trans (hb15.mono (by simp))).mono M14.out.old.size)⟩
end Go.Proofs.Ytpagoeoilkbmjaa.L5
