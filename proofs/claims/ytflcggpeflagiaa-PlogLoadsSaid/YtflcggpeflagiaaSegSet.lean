/-
  Contracts: whether a record stays; the first one that does not.
-/
import Derived.Test.YtflcggpeflagiaaSegRead
import Derived.Maps.OwnSet
import Derived.Maps.AppendAt
namespace Go.Proofs.Ytflcggpeflagiaa.L5
open Go.RowKit
open Go.Maps
open L3 L4

theorem lawInt : Keyed Try.prog 3 := int_keyed Try.underlying3
theorem zeroUnit (w : World) : (zeroValue 102).run Try.prog w = .ok (.agg #[]) w := by kernel_rfl
/-- a set of numbers, as a map reads -/
def SetD (s : List Int) : DataW Unit := setOf (.agg []) (s.map (Lit.int .i64))
theorem any_int (x : Int) : ∀ l : List Int, (l.map (Lit.int .i64)).any (fun y : Lit => y.sameKey (.int .i64 x)) = decide (x ∈ l)
  | [] => rfl
  | a :: l => by
    rw [List.map_cons, List.any_cons, any_int x l]
    by_cases h : x = a
    · subst h; simp [Lit.sameKey]
    · have : ¬ a = x := fun e => h e.symm
      simp [Lit.sameKey, this, h]
theorem has_set (s : List Int) (x : Int) : Maps.has (SetD s) (.int .i64 x) = decide (x ∈ s) := by
  unfold SetD
  rw [has_setOf _ _ _ (fun y hy => by obtain ⟨a, _, rfl⟩ := List.mem_map.1 hy; trivial), any_int]
theorem set_snoc (s : List Int) (x : Int) : SetD (s ++ [x]) = (SetD s).put (.int .i64 x) (.agg []) := by
  unfold SetD; rw [List.map_append]; exact setOf_snoc _ _ _
/-- a block is the set of these numbers -/
def IsSet (w : World) (b : Nat) (n : Nat) (s : List Int) : Prop := w.ownsMap Try.prog 3 (unitElem (H := Unit)) b n (SetD s)
theorem IsSet.lt {w : World} {b n : Nat} {s : List Int} (h : IsSet w b n s) : b < w.heap.size := by
  obtain ⟨es, clock, hb, _⟩ := h
  exact (Array.getElem?_eq_some_iff.1 hb).1
theorem IsSet.at {w w' : World} {b n : Nat} {s : List Int} (h : IsSet w b n s) (hb : w'.heap[b]? = w.heap[b]?) : IsSet w' b n s := by
  obtain ⟨es, clock, h1, F, hs, hD⟩ := h
  exact ⟨es, clock, hb.trans h1, F, hs, hD⟩

set_option maxRecDepth 100000 in
set_option maxHeartbeats 2000000 in
theorem gone_is {W : World} {bS bm n : Nat} {s : List Int} (o : Int) (rk : Bool) (key : ByteArray) (tb : Bool) (val : ByteArray) (b : Bool) (hS : W.cell? ⟨bS, 0, none⟩ = some (.map (some bm))) (hm : Hid (IsSet W bm n s)) (h0 : 0 ≤ o) (h1 : o ≤ 1099511627776) (hb : Hid (decide (o ∈ s) = b)) :
    Calls Try.prog 61 (#[.agg #[.int .i64 o, .bool rk, .string key, .bool tb, .string val]] ++ #[.pointer (some ⟨bS, 0, none⟩)]) W fun e w' => e = .returned (.bool (!b)) ∧ Below W.heap.size W w' := by
  have hkey : keyOf Try.prog 3 (.int .i64 o) = some (.int .i64 o) := keyOf_int_mk Try.underlying3 (WalkArith.wf_i64 (by omega))
  have hlt := World.block_lt_of_cell? _ _ hS
  have HAS : Hid (Maps.has (SetD s) (.int .i64 o) = b) := Lib.hid (by rw [has_set, hb.out])
  show Calls _ _ #[.agg #[.int .i64 o, .bool rk, .string key, .bool tb, .string val], .pointer (some ⟨bS, 0, none⟩)] _ _
  go_enter Try.func61, Try.ntmps61
  go_wp2_with (at_lookup; refine wpList_lookup_own_unit _ rfl _ _ 104 rfl 3 102 lawInt Try.underlying104 (zeroUnit _) bm n (SetD s) rfl (hm.out.alloc _) _ _ rfl hkey ?_; rw [HAS.out])
  go_ret
  exact ⟨rfl, two_box _ _⟩

/-- where the first one is that goes -/
def goneAt (s : List Int) : List L4.Fd → Nat → Int
  | [], _ => -1
  | f :: t, i => if f.o ∈ s then goneAt s t (i + 1) else i
theorem gone_next {s : List Int} {l : List L4.Fd} {k : Nat} {f : L4.Fd} (h : l[k]? = some f) : goneAt s (l.drop k) k = if f.o ∈ s then goneAt s (l.drop (k + 1)) (k + 1) else k := by
  obtain ⟨hlt, hl⟩ := List.getElem?_eq_some_iff.1 h
  rw [List.drop_eq_getElem_cons hlt, hl]; rfl

set_option maxRecDepth 100000 in
set_option maxHeartbeats 2000000 in
theorem find_is {w : World} {bS bm n : Nat} {s : List Int} {A : Option Addr} {L : List L4.Fd} (k cap : Nat) (x : Int) (hn : L.length = k) (hl : k ≤ 64) (hown : Hid (w.ownsRow 0 43 5 (.slice A L.length cap) L.length (rowF L))) (hS : w.cell? ⟨bS, 0, none⟩ = some (.map (some bm))) (hm : Hid (IsSet w bm n s)) (ho : Hid (∀ f ∈ L, 0 ≤ f.o ∧ f.o ≤ 1099511627776)) (HX : Hid (goneAt s L 0 = x)) :
    Calls Try.prog 71 #[.slice A k cap, .func (.func 61) #[] #[.pointer (some ⟨bS, 0, none⟩)]] w fun e w' => e = .returned (.int .i64 x) ∧ Below w.heap.size w w' := by
  have HN := Lib.hid hn
  have hbs := World.block_lt_of_cell? _ _ hS
  dsimp only at hbs
  have HSS := Lib.hid hS
  clear hn hS
  go_enter Try.func71, Try.ntmps71
  go_wp2_with fail
  go_loopw [5, 8] (fun _ i wr => ∃ q : Nat, q ≤ k ∧ i = .int .i64 q ∧ Below w.heap.size w wr ∧ Hid (goneAt s (L.drop q) q = x)) (fun _ i _ => k - (intOf i).toNat)
  case atStart => exact ⟨0, by omega, rfl, Below.refl _ _, by simpa using HX⟩
  case round =>
    obtain ⟨q, hq, rfl, hbel, hX⟩ := hrel
    by_cases hlt : q < k
    · have hrow := own_below hown.out hbel
      obtain ⟨g, rfl, hg, hcells⟩ := ReadsF.own hrow (by rw [HN.out]; omega)
      obtain ⟨⟨o, ⟨rk, key, tb, val⟩⟩, hf⟩ : ∃ f, L[q]? = some f := ⟨_, List.getElem?_eq_getElem (by rw [HN.out]; omega)⟩
      obtain ⟨d0, d1, d2, d3, d4⟩ := hcells q _ hf
      obtain ⟨o0, o1⟩ := ho.out _ (List.mem_of_getElem? hf)
      have k0 : (0 : Int) ≤ (q : Int) := by omega
      have k1 : (q : Int) < (k : Int) := by omega
      have hS' := (hbel.cell (p := ⟨bS, 0, none⟩) hbs).trans HSS.out
      have hm' : Hid (IsSet wr bm n s) := Lib.hid (hm.out.at (hbel.block _ hm.out.lt))
      have hnx := gone_next (s := s) hf
      rw [hX.out] at hnx
      obtain ⟨b, hb⟩ : ∃ b, decide (o ∈ s) = b := ⟨_, rfl⟩
      have HB := Lib.hid hb
      have HNX := Lib.hid hnx
      clear hcells hf hrow hnx hb
      dsimp only at d0 d1 d2 d3 d4 o0 o1
      cases b
      · have hx : x = q := by
          have := HNX.out
          rwa [if_neg (by simpa using HB.out)] at this
        have HXX := Lib.hid hx
        clear hx HNX
        go_wp2_with (go_at_call 61; refine (gone_is o rk key tb val false hS' hm' o0 o1 HB).mono ?_; rintro e w1 ⟨rfl, hb1⟩)
        go_ret
        exact ⟨congrArg (fun m => Ending.returned (.int .i64 m)) HXX.out.symm, hbel.trans (hb1.mono hbel.size)⟩
      · have HX' : Hid (goneAt s (L.drop (q + 1)) (q + 1) = x) := Lib.hid (by
          have := HNX.out
          rw [if_pos (by simpa using HB.out)] at this
          exact this.symm)
        clear HNX
        go_wp2_with (go_at_call 61; refine (gone_is o rk key tb val true hS' hm' o0 o1 HB).mono ?_; rintro e w1 ⟨rfl, hb1⟩)
        go_roundw
        case rel => exact ⟨q + 1, by omega, by go_num, hbel.trans (hb1.mono hbel.size), HX'⟩
        case measure => simp [intOf]; omega
    · obtain rfl : q = k := by omega
      have hx : x = -1 := by have := hX.out; rw [List.drop_of_length_le (by rw [HN.out]; omega)] at this; exact this.symm
      have HXX := Lib.hid hx
      go_wp2_with fail
      go_ret
      exact ⟨congrArg (fun m => Ending.returned (.int .i64 m)) HXX.out.symm, hbel⟩
end Go.Proofs.Ytflcggpeflagiaa.L5
