/-
  Contracts: a new group; is there a member, is it one of the generation; the generation; the members' names.
-/
import Derived.Test.YtidgifnnkaheeaaGpSmall
import Derived.Test.YtidgifnnkaheeaaGpShelf
import Derived.OwnWalk
namespace Go.Proofs.Ytidgifnnkaheeaa.L11
open Go.RowKit Go.Shelf
open Go.Maps
open L3 L4 L9 L10

theorem new_is (w : World) : Calls Try.prog 21 #[] w fun e w' => ∃ g b, e = .returned (.pointer (some ⟨g, 0, none⟩)) ∧ Gp w' g b 0 0 false [] ∧ w.heap.size ≤ g ∧ w.heap.size ≤ b ∧ Below w.heap.size w w' := by
  have hmm := @run_makeMap Try.prog
  go_enter Try.func21, Try.ntmps21
  go_wp2_with fail
  go_ret
  have b1 := one_box' (w := w) (.map #[] 0)
  have e1 : (w.alloc (.map #[] 0)).heap.size = w.heap.size + 1 := by simp
  refine ⟨_, w.heap.size, rfl, ⟨?_, (isGrp_made w).below (one_box' _)⟩, by simp, Nat.le_refl _, b1.alloc b1.size _⟩
  rw [← e1]; exact heap_alloc_new _ _

/-- what 'v, ok' finds -/
theorem IsGrp.looks {w : World} {b N : Nat} {Q : List Se} (h : IsGrp w b N Q) (s : ByteArray) (hz : s.size ≤ maxLen) : ∃ a A n c t e, (Instr.lookup 86 (.map (some b)) (.string s) true).run Try.prog w = .ok (.tuple #[.agg #[.string a, .slice A n c, .int .i64 t, .int .i64 e], .bool (hasS Q s)]) w := by
  obtain ⟨D, ho, hd⟩ := h
  obtain ⟨v, ps, hrun, hv⟩ := ho.look_ok lawStr Try.underlying86 (zeroSeat w) (show rdS (.agg _) = some (.held (.agg _), []) from rfl) (keyS hz)
  obtain ⟨xs, rfl, e⟩ := rdS_inv hv
  rw [hrun, hd.has s]
  cases hh : hasS Q s with
  | true =>
    obtain ⟨q, hq, rfl⟩ := hasS_mem.1 hh
    obtain ⟨A, c, h1, h2⟩ := hd.2 q hq
    have h3 := h1 (.held (.agg #[.string ⟨#[]⟩, .slice none 0 0, .int .i64 0, .int .i64 0]))
    rw [show Lit.string (kb q.m.name) = Lit.string q.m.name.data.toList from rfl] at h3
    rw [h3] at e
    have e2 : seV q A c = Value.agg xs := DataW.held.inj (Prod.mk.inj e).1
    rw [← e2]
    exact ⟨_, _, _, _, _, _, by unfold seV; with_reducible rfl⟩
  | false =>
    rw [atKey_of_not_has ((hd.has s).trans hh)] at e
    have e2 : Value.agg #[.string ⟨#[]⟩, .slice none 0 0, .int .i64 0, .int .i64 0] = Value.agg xs := DataW.held.inj (Prod.mk.inj e).1
    rw [← e2]
    exact ⟨_, _, _, _, _, _, by with_reducible rfl⟩
set_option maxHeartbeats 1000000 in
theorem there_is {w : World} {g b N : Nat} {G : Int} {r : Bool} {Q : List Se} (s : ByteArray) (v : Bool) (h : Hid (Gp w g b N G r Q)) (hs : Hid (s.size ≤ maxLen)) (HV : Hid (hasS Q s = v)) :
    Calls Try.prog 48 #[.pointer (some ⟨g, 0, none⟩), .string s] w fun e w' => e = .returned (.bool v) ∧ Below w.heap.size w w' := by
  have c2 := h.out.c2
  obtain ⟨a, A, n, c, t, e, hrun⟩ := h.out.map.looks s hs.out
  rw [HV.out] at hrun
  have hz := zeroSeat w
  go_enter Try.func48, Try.ntmps48
  go_wp2_with fail
  go_ret
  exact ⟨rfl, one_box' _⟩
set_option maxHeartbeats 1000000 in
theorem fence_is {w : World} {g b N : Nat} {G : Int} {r : Bool} {Q : List Se} (s : ByteArray) (gn x : Int) (h : Hid (Gp w g b N G r Q)) (hs : Hid (s.size ≤ maxLen)) (HX : Hid (fenceE G Q s gn = x)) :
    Calls Try.prog 44 #[.pointer (some ⟨g, 0, none⟩), .string s, .int .i64 gn] w fun e w' => e = .returned (.int .i64 x) ∧ Below w.heap.size w w' := by
  have hx := HX.out
  unfold fenceE at hx
  have c0 := h.out.c0
  cases hh : hasS Q s with
  | false =>
    rw [hh, if_pos rfl] at hx
    subst hx
    have HH := Lib.hid hh
    clear hh
    go_enter Try.func44, Try.ntmps44
    go_wp2_with (go_at_call 48; refine (there_is s _ h hs HH).mono ?_; rintro e w2 ⟨rfl, hb2⟩)
    go_ret
    exact ⟨rfl, hb2⟩
  | true =>
    rw [hh, if_neg (by simp)] at hx
    have HH := Lib.hid hh
    clear hh
    by_cases hg : gn = G
    · rw [if_pos hg] at hx
      subst hx
      have q1 : (gn == G) = true := by simpa using hg
      subst hg
      go_enter Try.func44, Try.ntmps44
      go_wp2_with (go_at_call 48; refine (there_is s _ h hs HH).mono ?_; rintro e w2 ⟨rfl, hb2⟩; have d0 := cell_b hb2 c0)
      go_ret
      exact ⟨rfl, hb2⟩
    · rw [if_neg hg] at hx
      subst hx
      have q1 : (gn == G) = false := by simpa using hg
      go_enter Try.func44, Try.ntmps44
      go_wp2_with (go_at_call 48; refine (there_is s _ h hs HH).mono ?_; rintro e w2 ⟨rfl, hb2⟩; have d0 := cell_b hb2 c0)
      go_ret
      exact ⟨rfl, hb2⟩
theorem gen_is {w : World} {g b N : Nat} {G : Int} {r : Bool} {Q : List Se} (h : Hid (Gp w g b N G r Q)) :
    Calls Try.prog 25 #[.pointer (some ⟨g, 0, none⟩)] w fun e w' => e = .returned (.tuple #[.int .i64 G, .bool r]) ∧ Below w.heap.size w w' := by
  have c0 := h.out.c0
  have c1 := h.out.c1
  go_enter Try.func25, Try.ntmps25
  go_wp2_with fail
  go_region
  go_wp2_with fail
  go_ret2
  exact ⟨rfl, drewN_below (Below.refl _ _) 1⟩
/-- what names tells -/
def NamesP (w : World) (Q : List Se) (m : Nat) (e : Ending) (w' : World) : Prop :=
  ∃ A c, e = .returned (.slice A m c) ∧ w'.ownsRow w.heap.size 9 1 (.slice A m c) m ((Q.map (·.m.name)).map (fun x => .string x)) ∧ Below w.heap.size w w'
set_option maxRecDepth 100000 in
set_option maxHeartbeats 2000000 in
theorem names_is {w : World} {g b N m : Nat} {G : Int} {r : Bool} {Q : List Se} (h : Hid (Gp w g b N G r Q)) (hR : Hid (RiseS Q)) (hm : Hid (Q.length = m)) (hl : m ≤ 8) :
    Calls Try.prog 50 #[.pointer (some ⟨g, 0, none⟩)] w (NamesP w Q m) := by
  have c2 := h.out.c2
  obtain ⟨D, ho, hd⟩ := h.out.map
  have HP := Lib.hid (hd.perm hR.out ho)
  have hsz : Maps.size D = m := (hd.size hR.out ho).trans hm.out
  have HO := Lib.hid ho
  have S1 : Hid (Maps.size D ≤ maxLen) := Lib.hid (by rw [hsz]; unfold maxLen; omega)
  have S2 : Hid (Maps.size D * 16 ≤ 140737488355328) := Lib.hid (by rw [hsz]; omega)
  clear ho hd hsz
  go_enter Try.func50, Try.ntmps50
  go_wp2_with (first
    | (go_at_call 67; refine (callsIn_wide.1 (Try.maps_KeysS _ _)).mono ?_; rintro e w' ⟨rfl, rfl⟩)
    | (go_at_call 66; refine (callsIn_wide.1 (Try.slices_SortedS b N D _ w HO.out S1.out S2.out)).mono ?_; rintro e w2 ⟨v, ss, rfl, hS, hrow, hnil, hb⟩; obtain ⟨A, c, rfl⟩ := own_len hrow; have hss := (hS.trans HP.out.symm).length_eq; rw [List.length_map] at hss; rw [seats_sort hR.out (hS.trans HP.out.symm)] at hrow; rw [hss, hm.out] at hrow ⊢; have HROW := Lib.hid hrow; have HB2 : Hid (Below w.heap.size w w2) := Lib.hid (((Below.refl _ w).alloc (Nat.le_refl _) _).trans (hb.mono (by simp))); clear hS hnil hb hss hrow))
  go_ret
  refine ⟨A, c, rfl, ?_, HB2.out⟩
  have q := own_base HROW.out (base' := w.heap.size) (by simp)
  have e : List.map encStr (List.map (fun q => kb q.m.name) Q) = (Q.map (·.m.name)).map (fun x => .string x) := by
    rw [List.map_map, List.map_map]
    exact List.map_congr_left (fun q _ => enc_kb _)
  rw [e] at q
  exact q
end Go.Proofs.Ytidgifnnkaheeaa.L11
