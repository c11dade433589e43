/-
  Contracts: a law's seat, and its topics.
-/
import Derived.Test.YtidgifnnkaheeaaGpMine
import Derived.Laws.Rows
namespace Go.Proofs.Ytidgifnnkaheeaa.L11
open Go.RowKit
open Go.Maps
open L3 L4 L9 L10

def cT : ByteArray := ⟨#[116]⟩
def seatL (a : ByteArray) : Se := ⟨⟨a, [cT]⟩, 5, 0⟩
set_option maxRecDepth 100000 in
set_option maxHeartbeats 1000000 in
theorem lseat_is (a : ByteArray) (w : World) :
    Calls Try.prog 32 #[.string a] w fun e w' => ∃ A c, e = .returned (.agg #[.string a, .slice A 1 c, .int .i64 5, .int .i64 0]) ∧ RowT w' A c [cT] ∧ Below w.heap.size w w' := by
  go_enter Try.func32, Try.ntmps32
  go_wp2_with fail
  have h1 := heap_alloc_new w (.cells #[.string a, .slice (some ⟨w.heap.size + 1, 0, none⟩) 1 1, .int .i64 5, .int .i64 0] 47)
  have hb1 := one_box' (w := w) (.cells #[.string a, .slice (some ⟨w.heap.size + 1, 0, none⟩) 1 1, .int .i64 5, .int .i64 0] 47)
  have e1 : (w.alloc (.cells #[.string a, .slice (some ⟨w.heap.size + 1, 0, none⟩) 1 1, .int .i64 5, .int .i64 0] 47)).heap.size = w.heap.size + 1 := by simp
  obtain ⟨W1, hW1⟩ : ∃ W1, w.alloc (.cells #[.string a, .slice (some ⟨w.heap.size + 1, 0, none⟩) 1 1, .int .i64 5, .int .i64 0] 47) = W1 := ⟨_, rfl⟩
  rw [hW1] at h1 hb1 e1 ⊢
  have h2 := heap_alloc_new W1 (.cells #[.string ⟨#[116]⟩] 9)
  have hb2 := one_box' (w := W1) (.cells #[.string ⟨#[116]⟩] 9)
  refine bodyPost_ret (v := .agg #[.string a, .slice (some ⟨w.heap.size + 1, 0, none⟩) 1 1, .int .i64 5, .int .i64 0]) (results_cell_row (p := 2) (ty := 47) Try.results32 _ _ w.heap.size 47 #[.string a, .slice (some ⟨w.heap.size + 1, 0, none⟩) 1 1, .int .i64 5, .int .i64 0] (0, 0) _ rfl ((hb2.block _ (by omega)).trans h1) Try.underlying47 rfl (by kernel_rfl)) rfl ?_
  refine ⟨_, _, rfl, ⟨fun _ => ⟨w.heap.size + 1, _, _, rfl, by rw [← e1]; exact h2, fun i s hs => ?_⟩, by simp, fun e => by cases e⟩, hb1.trans (hb2.mono hb1.size)⟩
  match i, hs with
  | 0, hs =>
    simp [cT] at hs; subst hs
    rw [← e1]
    exact (cell_of_row _ _ 0 _ _ _ h2).trans rfl
  | i + 1, hs => simp at hs
theorem isL_one (w : World) (t : ByteArray) (n : Int) (T : TypeId) (h : t.size ≤ 281474976710656) : IsL (w.alloc (.cells #[.string t, .int .i64 n] T)) (w.alloc (.cells #[.string t, .int .i64 n] T)).heap.size (some ⟨w.heap.size, 0, none⟩) 1 1 [⟨t, n⟩] := by
  have hr := heap_alloc_new w (.cells #[.string t, .int .i64 n] T)
  refine ⟨fun _ => ⟨w.heap.size, rfl, by simp, fun i s hs => ?_⟩, rfl, (fun e => by cases e), (fun y hy => by simp at hy; subst hy; exact h), by omega, by omega⟩
  match i, hs with
  | 0, hs =>
    simp at hs; subst hs
    exact ⟨(cell_of_row _ _ 0 _ _ _ hr).trans rfl, (cell_of_row _ _ 1 _ _ _ hr).trans rfl⟩
  | i + 1, hs => simp at hs
theorem topic_is (w : World) :
    Calls Try.prog 53 #[] w fun e w' => ∃ A c, e = .returned (.slice A 1 c) ∧ IsL w' w'.heap.size A 1 c [⟨cT, 4⟩] ∧ Below w.heap.size w w' := by
  go_enter Try.func53, Try.ntmps53
  go_wp2_with fail
  go_ret
  exact ⟨_, _, rfl, isL_one w cT 4 _ (by decide), one_box' _⟩
end Go.Proofs.Ytidgifnnkaheeaa.L11
