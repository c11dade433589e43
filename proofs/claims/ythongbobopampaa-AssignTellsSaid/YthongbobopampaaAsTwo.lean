/-
  A topic of three, two members.
-/
import Derived.Test.YthongbobopampaaAsRwho
import Derived.Test.YthongbobopampaaAsOpen
namespace Go.Proofs.Ythongbobopampaa.L10
open Go.RowKit
open L3 L4 L9

def tT : ByteArray := ⟨#[116]⟩
def mM : ByteArray := ⟨#[109]⟩
def nN : ByteArray := ⟨#[110]⟩
def l3 : List Pt := [⟨tT, 3⟩]
def ms2 : List Mb := [⟨mM, [tT]⟩, ⟨nN, [tT]⟩]
instance ptDec : DecidableEq Pt := fun a b => decidable_of_iff (a.t = b.t ∧ a.n = b.n) ⟨fun ⟨h1, h2⟩ => by cases a; cases b; simp at h1 h2; rw [h1, h2], fun h => by rw [h]; exact ⟨rfl, rfl⟩⟩
theorem range_two : rangeL l3 ms2 = [[⟨tT, 0⟩, ⟨tT, 1⟩], [⟨tT, 2⟩]] := by decide
theorem robin_two : robinL l3 ms2 = [[⟨tT, 0⟩, ⟨tT, 2⟩], [⟨tT, 1⟩]] := by decide
theorem isL_new (w : World) (t : ByteArray) (n : Int) (T : TypeId) (h : t.size ≤ 281474976710656) : IsL (w.alloc (.cells #[.string t, .int .i64 n] T)) (w.alloc (.cells #[.string t, .int .i64 n] T)).heap.size (some ⟨w.heap.size, 0, none⟩) 1 1 [⟨t, n⟩] := by
  have hr := heap_alloc_new w (.cells #[.string t, .int .i64 n] T)
  refine ⟨fun _ => ⟨_, rfl, by simp, fun i s hs => ?_⟩, rfl, (fun e => by cases e), fun y hy => ?_, by decide, by decide⟩
  · match i, hs with
    | 0, hs => simp at hs; subst hs; exact ⟨(cell_of_row _ _ _ _ _ _ hr).trans rfl, (cell_of_row _ _ _ _ _ _ hr).trans rfl⟩
    | i + 1, hs => simp at hs
  · rw [List.mem_singleton.1 hy]; exact h
theorem isM_two {w : World} {g ga gb ca cb B : Nat} {a b s t : ByteArray} {T : TypeId} (hg : w.heap[g]? = some (.cells #[.string a, .slice (some ⟨ga, 0, none⟩) 1 ca, .string b, .slice (some ⟨gb, 0, none⟩) 1 cb] T (0, 0))) (h1 : w.cell? ⟨ga, 0, none⟩ = some (.string s)) (h2 : w.cell? ⟨gb, 0, none⟩ = some (.string t)) (hB : B = w.heap.size)
    (hs : a.size ≤ 16 ∧ b.size ≤ 16 ∧ s.size ≤ 16 ∧ t.size ≤ 16) : IsM w B (some ⟨g, 0, none⟩) 2 2 [⟨a, [s]⟩, ⟨b, [t]⟩] := by
  subst hB
  have hlt := (Array.getElem?_eq_some_iff.1 hg).1
  have l1 := World.block_lt_of_cell? _ _ h1
  have l2 := World.block_lt_of_cell? _ _ h2
  refine ⟨fun _ => ⟨g, rfl, hlt, fun i m hm => ?_⟩, rfl, fun m hm => ?_, by decide, by decide⟩
  · match i, hm with
    | 0, hm =>
      simp at hm; subst hm
      refine ⟨(cell_of_row _ _ _ _ _ _ hg).trans rfl, _, _, (cell_of_row _ _ _ _ _ _ hg).trans rfl, fun _ => ⟨ga, rfl, l1, fun j u hu => ?_⟩⟩
      match j, hu with
      | 0, hu => simp at hu; subst hu; exact h1
      | j + 1, hu => simp at hu
    | 1, hm =>
      simp at hm; subst hm
      refine ⟨(cell_of_row _ _ _ _ _ _ hg).trans rfl, _, _, (cell_of_row _ _ _ _ _ _ hg).trans rfl, fun _ => ⟨gb, rfl, l2, fun j u hu => ?_⟩⟩
      match j, hu with
      | 0, hu => simp at hu; subst hu; exact h2
      | j + 1, hu => simp at hu
    | i + 2, hm => simp at hm
  · have : m = ⟨a, [s]⟩ ∨ m = ⟨b, [t]⟩ := by simpa using hm
    rcases this with rfl | rfl
    · exact ⟨by show a.size ≤ _; omega, (by show 1 ≤ 1000000; omega), fun x hx => by rw [List.mem_singleton.1 hx]; omega⟩
    · exact ⟨by show b.size ≤ _; omega, (by show 1 ≤ 1000000; omega), fun x hx => by rw [List.mem_singleton.1 hx]; omega⟩
/-- the two -/
def TwoP (w : World) (e : Ending) (w' : World) : Prop := ∃ gl gm, e = .returned (.tuple #[.slice (some ⟨gl, 0, none⟩) 1 1, .slice (some ⟨gm, 0, none⟩) 2 2]) ∧ IsL w' w'.heap.size (some ⟨gl, 0, none⟩) 1 1 l3 ∧ IsM w' w'.heap.size (some ⟨gm, 0, none⟩) 2 2 ms2 ∧ Below w.heap.size w w'
set_option maxRecDepth 100000 in
set_option maxHeartbeats 2000000 in
theorem two_is (w : World) : Calls Try.prog 27 #[] w (TwoP w) := by
  go_enter Try.func27, Try.ntmps27
  go_wp2_with fail
  have hb4 : ∀ (W : World) (a b c : Obj), Below W.heap.size W (((W.alloc a).alloc b).alloc c) := fun W a b c => (((Below.refl _ W).alloc (Nat.le_refl _) a).alloc (by simp) b).alloc (by simp; omega) c
  have HB4 := Lib.hid hb4
  clear hb4
  go_ret2
  refine ⟨_, _, rfl, (isL_new w tT 3 _ (by decide)).up (Nat.le_refl _) (HB4.out _ _ _ _), isM_two (by have h := heap_alloc_new (((w.alloc (.cells #[.string tT, .int .i64 3] 44)).alloc (.cells #[.string tT] 9)).alloc (.cells #[.string tT] 9)) (.cells #[.string mM, .slice (some ⟨w.heap.size + 1, 0, none⟩) 1 1, .string nN, .slice (some ⟨w.heap.size + 1 + 1, 0, none⟩) 1 1] 40); rw [show (((w.alloc (.cells #[.string tT, .int .i64 3] 44)).alloc (.cells #[.string tT] 9)).alloc (.cells #[.string tT] 9)).heap.size = w.heap.size + 1 + 1 + 1 by simp] at h; exact h) (by simp [go_sem, tT]) (by simp [go_sem, tT]) rfl (by decide), ?_⟩
  exact (one_box' _).trans ((HB4.out _ _ _ _).mono (by simp))
end Go.Proofs.Ythongbobopampaa.L10
