/-
  Contracts: records with their offsets, copied; all that a segment has; a segment's copy.
-/
import Derived.Test.YtflcggpeflagiaaSegSmall
import Derived.Lib.SliceRun
import Derived.OwnWalk
import Derived.Deep.RegionHeld3
import Derived.Deep.AppendLies
import Derived.Deep.RegionLaw
namespace Go.Proofs.Ytflcggpeflagiaa.L5
open Go.RowKit
open L3 L4

theorem fdInfo : (Try.prog.info? 43).map (fun i => (i.zero, i.size, i.bytes)) = some (some (.agg #[.int .i64 0, .bool false, .string ⟨#[]⟩, .bool false, .string ⟨#[]⟩]), 5, 56) := by kernel_rfl

/-- cells one behind the other, from an address on -/
def At (w : World) (g o : Nat) (xs : List Value) : Prop := ∀ (j : Nat) (u : Value), xs[j]? = some u → w.cell? ((⟨g, o, none⟩ : Addr).add j) = some u
theorem At.below {w w' : World} {B g o : Nat} {xs : List Value} (h : At w g o xs) (hb : Below B w w') (hg : g < B) : At w' g o xs := fun j u hu => by
  have := h j u hu
  rw [Addr.add_lit] at this ⊢
  exact (hb.cell (p := ⟨g, o + j, none⟩) hg).trans this
theorem At.own {w : World} {base : Nat} {T : TypeId} {m : Nat} {g n cap : Nat} {xs : List Value} (h : w.ownsRow base T m (.slice (some ⟨g, 0, none⟩) n cap) n xs) : At w g 0 xs := fun j u hu => h.cells (g := g) rfl j u hu
theorem rowF_take (l : List L4.Fd) (n : Nat) (h : n ≤ l.length) : rowF (l.take n) = (rowF l).take (n * 5) := by
  have e := rowF_app (l.take n) (l.drop n)
  rw [List.take_append_drop] at e
  rw [e]
  have hl : (rowF (l.take n)).length = n * 5 := by rw [rowF_len, List.length_take]; omega
  rw [← hl, List.take_left]
theorem rowF_drop (l : List L4.Fd) (n : Nat) (h : n ≤ l.length) : rowF (l.drop n) = (rowF l).drop (n * 5) := by
  have e := rowF_app (l.take n) (l.drop n)
  rw [List.take_append_drop] at e
  rw [e]
  have hl : (rowF (l.take n)).length = n * 5 := by rw [rowF_len, List.length_take]; omega
  rw [← hl, List.drop_left]
/-- the cells of some of them, that stand one behind the other -/
theorem At.part {w : World} {g o : Nat} {l : List L4.Fd} (h : At w g o (rowF l)) (a n : Nat) : At w g (o + a * 5) (rowF ((l.drop a).take n)) := fun j u hu => by
  by_cases ha : a ≤ l.length
  · have e : rowF ((l.drop a).take n) <+: (rowF l).drop (a * 5) := by
      rw [← rowF_drop l a ha]
      have e := rowF_app ((l.drop a).take n) ((l.drop a).drop n)
      rw [List.take_append_drop] at e
      exact ⟨_, e.symm⟩
    obtain ⟨t, ht⟩ := e
    have h1 : ((rowF l).drop (a * 5))[j]? = some u := by
      rw [← ht, List.getElem?_append_left (List.getElem?_eq_some_iff.1 hu).1]; exact hu
    rw [List.getElem?_drop] at h1
    have := h _ u h1
    rw [Addr.add_lit] at this ⊢
    rwa [show o + a * 5 + j = o + (a * 5 + j) by omega]
  · rw [List.drop_of_length_le (by omega)] at hu
    simp [rowF] at hu

/-- what a copy of records is: as they are, in memory of the call's own -/
def CloneP (w : World) (l : List L4.Fd) (e : Ending) (w' : World) : Prop :=
  ∃ A cap, e = .returned (.slice A l.length cap) ∧ w'.ownsRow w.heap.size 43 5 (.slice A l.length cap) l.length (rowF l) ∧ Below w.heap.size w w'

set_option maxRecDepth 100000 in
set_option maxHeartbeats 1000000 in
theorem clone_some (g o : Nat) (l : List L4.Fd) (n cap : Nat) (w : World) (hn : l.length = n) (hl : n ≤ 64) (hg : g < w.heap.size) (hc : Hid (At w g o (rowF l))) :
    Calls Try.prog 57 #[.slice (some ⟨g, o, none⟩) n cap] w (CloneP w l) := by
  obtain ⟨i0, hi0, hz0, hz1, hz2⟩ := info_parts fdInfo
  have HL : Hid ((rowF l).length = n * 5) := Lib.hid (by rw [rowF_len, hn])
  have H1 := Lib.hid (rowF_one l)
  have HN := Lib.hid hn
  have hq := fun (wx : World) => Lib.run_eql_slice_nil (P := Try.prog) wx 36 43 (some ⟨g, o, none⟩) n cap 0 0 Try.underlying36
  clear hn
  go_enter Try.func57, Try.ntmps57
  go_wp2_with (at_builtin; refine wpList_append_own _ rfl (.tmp 5) (.tmp 6) 36 (by rfl) w.heap.size 43 i0 _ 5 56 Try.underlying36 hi0 hz0 hz1 hz2 rfl (by omega) _ 0 [] (by rfl) (World.ownsRow_made w #[] 0 (Nat.le_refl _) (by unfold maxLen; omega) rfl) ⟨g, o, none⟩ n cap (rowF l) (by rfl) HL.out (hc.out.below (one_box _) hg) H1.out (by unfold maxLen; omega) (by omega) (by simp) ?_; intro v1 w1 hown hgrow hnil)
  go_ret
  have hown' : w1.ownsRow w.heap.size 43 5 v1 n (rowF l) := by simpa using hown
  obtain ⟨A, c, rfl⟩ := own_form hown'
  have e := HN.out
  subst e
  exact ⟨A, c, rfl, hown', (one_box _).grown hgrow (by simp) (fun j e => by simp [Value.ownBlock] at e; omega)⟩

theorem clone_nil (w : World) : Calls Try.prog 57 #[.slice none 0 0] w (CloneP w []) := by
  have hq := fun (wx : World) => Lib.run_eql_slice_nil (P := Try.prog) wx 36 43 none 0 0 0 0 Try.underlying36
  go_enter Try.func57, Try.ntmps57
  go_wp2_with fail
  go_ret
  exact ⟨none, 0, rfl, World.ownsRow_nil _ _ _ _, Below.refl _ _⟩
/-- of what a segment has, or any other row of one's own -/
theorem clone_own {base : Nat} {A : Option Addr} {l : List L4.Fd} {n cap : Nat} {w : World} (hn : l.length = n) (hl : n ≤ 64) (h : w.ownsRow base 43 5 (.slice A l.length cap) l.length (rowF l)) :
    Calls Try.prog 57 #[.slice A n cap] w (CloneP w l) := by
  subst hn
  rcases h.2 with ⟨e, e0⟩ | ⟨g, c, cur, e, hb, hh, _⟩
  · have : l = [] := List.eq_nil_of_length_eq_zero e0
    subst this
    injection e with e1 e2 e3
    subst e1
    subst e3
    exact clone_nil w
  · injection e with e1 e2 e3
    subst e1
    exact clone_some g 0 l l.length cap w rfl hl (Array.getElem?_eq_some_iff.1 hh).1 (Lib.hid (At.own h))

set_option maxHeartbeats 1000000 in
theorem all_is {T : TypeId} {w : World} {g : Nat} {A : Option Addr} {cap : Nat} {base next : Int} {L : List L4.Fd} (h : Hid (Seg T w g A cap base next L)) (hl : L.length ≤ 64) :
    Calls Try.prog 41 #[.pointer (some ⟨g, 0, none⟩)] w (CloneP w L) := by
  have c2 := h.out.c2
  obtain ⟨n, hn⟩ : ∃ n, L.length = n := ⟨_, rfl⟩
  rw [hn] at c2 hl
  have HN := Lib.hid hn
  clear hn
  go_enter Try.func41, Try.ntmps41
  go_wp2_with (go_at_call 57; refine (clone_own HN.out hl h.out.own).mono ?_; rintro e w' ⟨A', c', rfl, hown, hbel⟩)
  go_ret
  exact ⟨A', c', rfl, hown, hbel⟩
end Go.Proofs.Ytflcggpeflagiaa.L5
