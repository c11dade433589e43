/-
  Contracts: Load.
-/
import Derived.Test.YtcmlopflandlgaaDdFits2
namespace Go.Proofs.Ytcmlopflandlgaa.L8
open Go.RowKit
open Go.Maps
open L3 L4

/-- a slice that reads as these numbers -/
def ReadsN (w : World) (A : Option Addr) (l : List Int) : Prop :=
  0 < l.length → ∃ g o, A = some ⟨g, o, none⟩ ∧ ∀ (i : Nat) x, l[i]? = some x → w.cell? ⟨g, o + i, none⟩ = some (.int .i64 x)
theorem ReadsN.below {w w' : World} {A : Option Addr} {l : List Int} (h : ReadsN w A l) (b : Below w.heap.size w w') : ReadsN w' A l := fun h0 => by
  obtain ⟨g, o, e, hc⟩ := h h0
  exact ⟨g, o, e, fun i x hx => cell_at b (hc i x hx)⟩
theorem ReadsN.src {w : World} {A : Option Addr} {l : List Int} (h : ReadsN w A l) : Src w A (rowN l) := by
  by_cases h0 : 0 < l.length
  · obtain ⟨g, o, rfl, hc⟩ := h h0
    refine ⟨fun e => (by cases e), fun ad e j u hu => ?_⟩
    injection e with e; subst e
    simp only [rowN, List.getElem?_map, Option.map_eq_some_iff] at hu
    obtain ⟨x, hx, rfl⟩ := hu
    rw [Addr.add_lit]; exact hc j x hx
  · have : l = [] := List.eq_nil_of_length_eq_zero (by omega)
    subst this
    exact ⟨fun _ => rfl, fun ad _ j u hu => by simp [rowN] at hu⟩
theorem ReadsN.own {w : World} {base n c : Nat} {A : Option Addr} {l : List Int} (h : w.ownsRow base 3 1 (.slice A n c) n (rowN l)) (hn : l.length = n) : ReadsN w A l := fun h0 => by
  rcases h.2 with ⟨_, e⟩ | ⟨g, cap, cur, e, h1, hh, _⟩
  · omega
  · injection e with e1; subst e1
    refine ⟨g, 0, rfl, fun i x hx => ?_⟩
    have q := h.cells (g := g) rfl i (.int .i64 x) (by simp [rowN, hx])
    rwa [Addr.add_lit] at q
/-- what Load says -/
def LoadP (w : World) (x : Int) (es : List Int) (ms : List Mk) (e : Ending) (w' : World) : Prop :=
  Below w.heap.size w w' ∧ ((x ≠ 0 ∧ e = .returned (.tuple #[.pointer none, .int .i64 x])) ∨ (x = 0 ∧ ∃ g, e = .returned (.tuple #[.pointer (some ⟨g, 0, none⟩), .int .i64 0]) ∧ TabM w.heap.size w' g ms.length es ms))
theorem all_next {es : List Int} {k : Nat} {x : Int} (h : es[k]? = some x) : (es.drop k).all numB8 = (numB8 x && (es.drop (k + 1)).all numB8) := by
  obtain ⟨hlt, hl⟩ := List.getElem?_eq_some_iff.1 h
  rw [List.drop_eq_getElem_cons hlt, hl, List.all_cons]
/-- is it behind the one ahead of it? -/
def firstM (q : Option Mk) (m : Mk) : Bool := match q with | none => true | some x => befB x m
theorem chain_next {es : List Int} {ms : List Mk} {k : Nat} {m : Mk} {q : Option Mk} (h : ms[k]? = some m) : chainB es q (ms.drop k) = (firstM q m && fitB es m && chainB es (some m) (ms.drop (k + 1))) := by
  obtain ⟨hlt, hl⟩ := List.getElem?_eq_some_iff.1 h
  rw [List.drop_eq_getElem_cons hlt, hl]; rfl
theorem take_sorted {ms : List Mk} {k : Nat} {m : Mk} {q : Option Mk} (h : ms[k]? = some m) (hs : Sorted (ms.take k)) (hq : (k = 0 → q = none) ∧ ∀ j, k = j + 1 → ms[j]? = q) (hb : firstM q m = true) : Sorted (ms.take (k + 1)) ∧ ∀ x ∈ ms.take k, befB x m = true := by
  have key : ∀ x ∈ ms.take k, befB x m = true := fun x hx => by
    cases k with
    | zero => simp at hx
    | succ j =>
      have hj := hq.2 j rfl
      have hlt := (List.getElem?_eq_some_iff.1 h).1
      obtain ⟨y, hy⟩ : ∃ y, ms[j]? = some y := ⟨_, List.getElem?_eq_getElem (by omega)⟩
      rw [hy] at hj
      subst hj
      rw [List.take_add_one, hy] at hx hs
      have hb' : befB y m = true := hb
      rcases List.mem_append.1 hx with hx | hx
      · have := (List.pairwise_append.1 hs).2.2 x hx y (by simp)
        exact bef_trans this hb'
      · have : x = y := by simpa using hx
        rw [this]; exact hb'
  refine ⟨?_, key⟩
  rw [List.take_add_one, h]
  exact List.pairwise_append.2 ⟨hs, by simp, fun x hx y hy => by
    have : y = m := by simpa using hy
    rw [this]; exact key x hx⟩
theorem load_cases (es : List Int) (ms : List Mk) : loadE es ms = if 32 < es.length then 2 else if (es.all numB8 && chainB es none ms) = true then 0 else 1 := rfl

set_option maxRecDepth 100000 in
set_option maxHeartbeats 2000000 in
theorem load_big (A X : Option Addr) (n cap m xc : Nat) (w : World) (hn : 32 < n) (hn1 : n ≤ maxLen) :
    Calls Try.prog 19 #[.slice A n cap, .slice X m xc] w fun e w' => e = .returned (.tuple #[.pointer none, .int .i64 2]) ∧ w = w' := by
  unfold maxLen at hn1
  have h1 : (n : Int) > 32 := by omega
  go_enter Try.func19, Try.ntmps19
  go_wp2_with fail
  go_ret2
  exact ⟨rfl, rfl⟩
set_option maxRecDepth 100000 in
set_option maxHeartbeats 2000000 in
theorem load_num (A X : Option Addr) (n cap m xc : Nat) (es : List Int) (w : World) (hn : n ≤ 32) (hes : Hid (es.length = n)) (HE : Hid (ReadsN w A es)) (HB : Hid (es.all numB8 = false)) :
    Calls Try.prog 19 #[.slice A n cap, .slice X m xc] w fun e w' => e = .returned (.tuple #[.pointer none, .int .i64 1]) ∧ w = w' := by
  have h1 : ¬ (n : Int) > 32 := by omega
  go_enter Try.func19, Try.ntmps19
  go_wp2_with fail
  go_loopw [16] (fun i wr => ∃ k : Nat, k ≤ n ∧ i = .int .i64 k ∧ Hid ((es.drop k).all numB8 = false) ∧ w = wr) (fun i _ => n - (intOf i).toNat)
  case atStart => exact ⟨0, by omega, rfl, Lib.hid (by simpa using HB.out), rfl⟩
  case round =>
    obtain ⟨k, hk, rfl, HK, rfl⟩ := hrel
    by_cases hlt : k < n
    · obtain ⟨g, o, rfl, hc⟩ := HE.out (by rw [hes.out]; omega)
      obtain ⟨x, hx⟩ : ∃ x, es[k]? = some x := ⟨_, List.getElem?_eq_getElem (by rw [hes.out]; omega)⟩
      have c0 := hc k x hx
      have hnx := all_next hx
      rw [HK.out] at hnx
      have k0 : (0 : Int) ≤ (k : Int) := by omega
      have k1 : (k : Int) < (n : Int) := by omega
      obtain ⟨a, ha⟩ : ∃ a, numB8 x = a := ⟨_, rfl⟩
      have HA := Lib.hid ha
      rw [ha] at hnx
      have HNX := Lib.hid hnx
      clear hc hx hnx ha
      cases a with
      | false =>
        go_wp2_with (go_at_call 31; refine (within_is x false _ HA).mono ?_; rintro e w2 ⟨rfl, rfl⟩)
        go_ret2
        exact ⟨rfl, by trivial⟩
      | true =>
        have HF : Hid ((es.drop (k + 1)).all numB8 = false) := Lib.hid (by have e := HNX.out; rw [Bool.true_and] at e; exact e.symm)
        go_wp2_with (go_at_call 31; refine (within_is x true _ HA).mono ?_; rintro e w2 ⟨rfl, rfl⟩)
        go_roundw
        case rel => exact ⟨k + 1, by omega, by go_num, HF, by trivial⟩
        case measure => simp [intOf]; omega
    · obtain rfl : k = n := by omega
      have := HK.out
      rw [List.drop_of_length_le (by rw [hes.out]; exact Nat.le_refl _)] at this
      cases this
end Go.Proofs.Ytcmlopflandlgaa.L8
