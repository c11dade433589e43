/-
  The calls on a segment whose answers the document fixes.
-/
import Derived.Test.YtlemcijgjebekaaSegMine
namespace Go.Proofs.Ytlemcijgjebekaa.L5
open Go.RowKit
open L3 L4

def rV : R := ⟨false, ⟨#[]⟩, false, ⟨#[118]⟩⟩
def rK : R := ⟨true, ⟨#[107]⟩, false, ⟨#[119]⟩⟩
def rO : R := ⟨false, ⟨#[111, 100, 100]⟩, false, ⟨#[]⟩⟩
def rZ : R := ⟨false, ⟨#[]⟩, false, ⟨#[]⟩⟩
def two : List R := [rV, rK]
def odd : List R := [rO]
def zeros : List R := List.replicate 64 rZ
def L2 : List L4.Fd := [⟨10, rV⟩, ⟨11, rK⟩]
def L1 : List L4.Fd := [⟨11, rK⟩]
theorem put1 : V.put 1 = ⟨#[1]⟩ := by unfold V.put; rw [V.puts_small (by decide)]; rfl
theorem txt1 (c : UInt8) : txt ⟨#[c]⟩ = ⟨#[1, c]⟩ := by
  unfold txt
  rw [show (ByteArray.mk #[c]).size = 1 from rfl, put1]
  rfl
theorem bytes_L1 : bytesL L1 = 5 := by
  have h : chk true ⟨#[107]⟩ false ⟨#[119]⟩ = 0 := by decide
  show (putT true ⟨#[107]⟩ false ⟨#[119]⟩).size + 0 = 5
  unfold putT
  rw [if_pos h]
  show ((⟨#[1]⟩ : ByteArray) ++ txt ⟨#[107]⟩ ++ txt ⟨#[119]⟩).size + 0 = _
  rw [txt1, txt1]
  rfl
theorem reads_rows {W : World} {g : Nat} {l : List R} {T : TypeId} {cs : Array Value} (h : W.heap[g]? = some (.cells cs T (0, 0))) (hc : cs.toList = rowOf l) : Reads W (g + 1) (some ⟨g, 0, none⟩) l := fun _ => by
  refine ⟨g, rfl, Nat.lt_succ_self _, fun i r hr => ?_⟩
  obtain ⟨a, b, c, d⟩ := rowOf_at l i r hr
  rw [← hc] at a b c d
  exact ⟨(cell_of_row _ _ _ _ _ _ h).trans (by simpa using a), (cell_of_row _ _ _ _ _ _ h).trans (by simpa using b), (cell_of_row _ _ _ _ _ _ h).trans (by simpa using c), (cell_of_row _ _ _ _ _ _ h).trans (by simpa using d)⟩
theorem reads_two {W : World} {g : Nat} (h : W.heap[g]? = some (.cells #[.bool false, .string ⟨#[]⟩, .bool false, .string ⟨#[118]⟩, .bool true, .string ⟨#[107]⟩, .bool false, .string ⟨#[119]⟩] 41 (0, 0))) : Reads W (g + 1) (some ⟨g, 0, none⟩) two := reads_rows h rfl
theorem reads_one {W : World} {g : Nat} (h : W.heap[g]? = some (.cells #[.bool false, .string ⟨#[111, 100, 100]⟩, .bool false, .string ⟨#[]⟩] 41 (0, 0))) : Reads W (g + 1) (some ⟨g, 0, none⟩) odd := reads_rows h rfl
theorem reads_num {W : World} {g : Nat} {x : Int} {T : TypeId} (h : W.heap[g]? = some (.cells #[.int .i64 x] T (0, 0))) : ReadsI W (g + 1) (some ⟨g, 0, none⟩) [x] := fun _ => by
  refine ⟨g, 0, rfl, Nat.lt_succ_self _, fun i y hy => ?_⟩
  have hi : i = 0 := by have := (List.getElem?_eq_some_iff.1 hy).1; simp at this; omega
  subst hi
  have e : x = y := by simpa using hy
  subst e
  exact (cell_of_row _ _ _ _ _ _ h).trans rfl
theorem make_zeros (W : World) : (Instr.makeSlice 30 (.int .i64 64) (.int .i64 64)).run Try.prog W = .ok (.slice (some ⟨W.heap.size, 0, none⟩) 64 64) (W.alloc (.cells (rowOf zeros).toArray 41)) := by kernel_rfl
theorem reads_zeros {W : World} {g : Nat} (h : W.heap[g]? = some (.cells (rowOf zeros).toArray 41 (0, 0))) : Reads W (g + 1) (some ⟨g, 0, none⟩) zeros := reads_rows h (by simp)
theorem read_form {w w' : World} {e : Ending} (h : CloneP w L1 e w') : ∃ b c, e = .returned (.slice (some ⟨b, 0, none⟩) 1 c) ∧ w'.ownsRow w.heap.size 43 5 (.slice (some ⟨b, 0, none⟩) 1 c) 1 (rowF L1) ∧ Below w.heap.size w w' := by
  obtain ⟨A, c, he, ho, hb⟩ := h
  obtain ⟨b, c', hv, _, _⟩ := ho.form (by decide)
  injection hv with e1 e2 e3
  subst e1
  exact ⟨b, c, he, ho, hb⟩
theorem index_form {w w' : World} {e : Ending} (h : NumsP w (indexL L1) e w') : ∃ A c, e = .returned (.slice A 1 c) ∧ w'.ownsRow w.heap.size 3 1 (.slice A [(11 : Int)].length c) [(11 : Int)].length (rowI [11]) ∧ Below w.heap.size w w' := by
  obtain ⟨A, c, he, ho, hb⟩ := h
  exact ⟨A, c, he, ho, hb⟩
theorem cells_L1 {w : World} {base b c : Nat} (h : w.ownsRow base 43 5 (.slice (some ⟨b, 0, none⟩) 1 c) 1 (rowF L1)) : w.cell? ⟨b, 0, none⟩ = some (.int .i64 11) ∧ w.cell? ⟨b, 4, none⟩ = some (.string ⟨#[119]⟩) := by
  have h0 := h.cells (g := b) rfl 0 (.int .i64 11) rfl
  have h4 := h.cells (g := b) rfl 4 (.string ⟨#[119]⟩) rfl
  rw [addr_add] at h0 h4
  exact ⟨h0, h4⟩

end Go.Proofs.Ytlemcijgjebekaa.L5
