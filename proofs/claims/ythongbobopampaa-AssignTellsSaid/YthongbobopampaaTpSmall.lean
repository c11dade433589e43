/-
  Contracts: a new catalog; is there a topic, how many partitions it has; a topic is put.
-/
import Derived.Test.YthongbobopampaaTpMem
import Derived.Test.YthongbobopampaaTpShelf
import Derived.Test.YthongbobopampaaMText
import Derived.Maps.OwnOps
import Derived.Deep.RegionHeld3
namespace Go.Proofs.Ythongbobopampaa.L9
open Go.RowKit
open Go.Maps
open L3 L4

theorem one_box' {w : World} (o : Obj) : Below w.heap.size w (w.alloc o) := (Below.refl _ _).alloc (Nat.le_refl _) o
theorem isCat_made (w : World) : IsCat (w.alloc (.map #[] 0)) w.heap.size 0 [] := ⟨_, World.ownsMap_made w _ _ _, catD_new⟩
theorem new_is (w : World) : Calls Try.prog 33 #[] w fun e w' => ∃ g b, e = .returned (.pointer (some ⟨g, 0, none⟩)) ∧ Cat w' g b 0 [] ∧ w.heap.size ≤ g ∧ w.heap.size ≤ b ∧ Below w.heap.size w w' := by
  have hmm := @run_makeMap Try.prog
  go_enter Try.func33, Try.ntmps33
  go_wp2_with fail
  go_ret
  have b1 := one_box' (w := w) (.map #[] 0)
  have e1 : (w.alloc (.map #[] 0)).heap.size = w.heap.size + 1 := by simp
  refine ⟨_, w.heap.size, rfl, ⟨?_, (isCat_made w).at ((one_box' _).block _ (by simp))⟩, by simp, Nat.le_refl _, b1.alloc b1.size _⟩
  rw [← e1]; exact heap_alloc_new _ _

theorem keyStr {s : ByteArray} (hs : s.size ≤ maxLen) : keyOf Try.prog 9 (.string s) = some (.string s.data.toList) := WideMaps.keyOf_string_mk Try.underlying9 hs
theorem zeroInt (w : World) : (zeroValue 3).run Try.prog w = .ok (.int .i64 0) w := by kernel_rfl
set_option maxHeartbeats 1000000 in
theorem there_is {w : World} {g b N : Nat} {Q : List Pt} (s : ByteArray) (v : Bool) (h : Hid (Cat w g b N Q)) (hs : s.size ≤ maxLen) (HV : Hid (hasB Q s = v)) :
    Calls Try.prog 39 #[.pointer (some ⟨g, 0, none⟩), .string s] w fun e w' => e = .returned (.bool v) ∧ w' = w := by
  have c0 := h.out.c0
  obtain ⟨D, ho, hd⟩ := h.out.map
  have HO := Lib.hid ho
  have HK := Lib.hid (keyStr hs)
  have HAS : Hid (Maps.has D (.string s.data.toList) = v) := Lib.hid ((hd.has s).trans HV.out)
  clear ho hd hs
  go_enter Try.func39, Try.ntmps39
  go_wp2_with (at_lookup; refine wpList_lookup_own_ok_int _ rfl _ _ 73 rfl 9 3 .i64 lawStr Try.underlying73 Try.underlying3 (zeroInt _) b N D rfl HO.out _ _ rfl HK.out ?_; intro c hat hwc; rw [HAS.out])
  go_ret
  exact ⟨rfl, rfl⟩
theorem lit_inj {c x : Int} (h : (DataW.lit (.int .i64 c) : DataW Unit) = .lit (.int .i64 x)) : c = x := by cases h; rfl
/-- a store into the map -/
theorem IsCat.store {w : World} {b N : Nat} {Q Q' : List Pt} (h : IsCat w b N Q) (hN : N < maxLen) (s : ByteArray) (n : Int) (hs : s.size ≤ maxLen) (hn : (Lit.int .i64 n).wf = true) (hm' : ∀ x, x ∈ Q' ↔ x = ⟨s, n⟩ ∨ (x ∈ Q ∧ x.t ≠ s)) :
    ∃ w', (Instr.mapUpdate 73 (.map (some b)) (.string s) (.int .i64 n)).run Try.prog w = .ok () w' ∧ IsCat w' b (N + 1) Q' ∧ Only [b] w w' := by
  obtain ⟨D, ho, hd⟩ := h
  obtain ⟨w', hrun, ho', ht⟩ := ho.store lawStr Try.underlying73 hN (keyStr hs) (plainElem_int (H := Unit) Try.underlying3 hn)
  exact ⟨w', hrun, ⟨_, ho', hd.put ho.isMap s n hm'⟩, Only.ofGrown ht.grown⟩
end Go.Proofs.Ythongbobopampaa.L9
