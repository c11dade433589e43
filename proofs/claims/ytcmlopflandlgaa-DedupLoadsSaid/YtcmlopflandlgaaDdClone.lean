/-
  Contracts: numbers and batches copied; all epochs; a row of batches in its place; a new producer.
-/
import Derived.Test.YtcmlopflandlgaaDdSmall
import Derived.Test.YtcmlopflandlgaaMText
namespace Go.Proofs.Ytcmlopflandlgaa.L8
open Go.RowKit
open Go.Maps
open L3 L4

/-- a slice whose cells are these -/
def Src (w : World) (A : Option Addr) (xs : List Value) : Prop := (A = none → xs = []) ∧ ∀ ad, A = some ad → ∀ (j : Nat) (u : Value), xs[j]? = some u → w.cell? (ad.add j) = some u
theorem addr_block (a : Addr) (j : Nat) : (a.add j).block = a.block := by unfold Addr.add; split <;> rfl
theorem Src.below {w w' : World} {A : Option Addr} {xs : List Value} (h : Src w A xs) (b : Below w.heap.size w w') : Src w' A xs :=
  ⟨h.1, fun ad e j u hu => by
    have q := h.2 ad e j u hu
    exact (b.cell (World.block_lt_of_cell? _ _ q)).trans q⟩
theorem Src.own {w : World} {base n m c size : Nat} {E : TypeId} {A : Option Addr} {xs : List Value} (h : w.ownsRow base E size (.slice A n c) m xs) : Src w A xs := by
  rcases h.2 with ⟨e, e0⟩ | ⟨g, cap, cur, e, h1, hh, _⟩
  · injection e with e1; subst e1
    have hl := h.1
    rw [e0, Nat.zero_mul] at hl
    exact ⟨fun _ => List.eq_nil_of_length_eq_zero hl, fun ad e => by cases e⟩
  · injection e with e1; subst e1
    exact ⟨fun e => (by cases e), fun ad e j u hu => by injection e with e; subst e; exact h.cells (g := g) rfl j u hu⟩
theorem rowD_get : ∀ (l : List Did) (t : Nat) (u : Value), (rowD l)[t]? = some u → ∃ i j d, t = i * 3 + j ∧ l[i]? = some d ∧ (didC d)[j]? = some u
  | [], t, u, h => by simp [rowD] at h
  | a :: l, t, u, h => by
    rw [rowD, List.flatMap_cons, ← rowD] at h
    by_cases ht : t < 3
    · rw [List.getElem?_append_left (by simpa [didC] using ht)] at h
      exact ⟨0, t, a, by omega, rfl, h⟩
    · rw [List.getElem?_append_right (by simp [didC]; omega)] at h
      obtain ⟨i, j, d, e, h1, h2⟩ := rowD_get l _ u h
      have e3 : (didC a).length = 3 := rfl
      exact ⟨i + 1, j, d, by omega, by simpa using h1, h2⟩
theorem RowD.src {w : World} {A : Option Addr} {l : List Did} (h : RowD w A l) : Src w A (rowD l) := by
  by_cases h0 : 0 < l.length
  · obtain ⟨g, o, cs, fr, rfl, hg, hc⟩ := h h0
    refine ⟨fun e => (by cases e), fun ad e t u hu => ?_⟩
    injection e with e; subst e
    obtain ⟨i, j, d, rfl, h1, h2⟩ := rowD_get l t u hu
    obtain ⟨c0, c1, c2⟩ := hc i d h1
    rw [Addr.add_lit]
    match j, h2 with
    | 0, h2 => simp [didC] at h2; subst h2; simpa using c0
    | 1, h2 => simp [didC] at h2; subst h2; rw [← Nat.add_assoc]; exact c1
    | 2, h2 => simp [didC] at h2; subst h2; rw [← Nat.add_assoc]; exact c2
    | j + 3, h2 => simp [didC] at h2
  · have : l = [] := List.eq_nil_of_length_eq_zero (by omega)
    subst this
    exact ⟨fun _ => rfl, fun ad _ j u hu => by simp [rowD] at hu⟩
/-- what a copy is -/
def CopyR (w : World) (T : TypeId) (k n : Nat) (xs : List Value) (e : Ending) (w' : World) : Prop :=
  ∃ A c, e = .returned (.slice A n c) ∧ w'.ownsRow w.heap.size T k (.slice A n c) n xs ∧ Below w.heap.size w w'
theorem own_len {w : World} {base n size : Nat} {E : TypeId} {v : Value} {xs : List Value} (h : w.ownsRow base E size v n xs) : ∃ A c, v = .slice A n c := by
  rcases h.2 with ⟨e, e0⟩ | ⟨g, cap, cur, e, _⟩
  · exact ⟨none, 0, by rw [e, e0]⟩
  · exact ⟨_, _, e⟩
theorem didInfo : (Try.prog.info? 50).map (fun i => (i.zero, i.size, i.bytes)) = some (some (.agg #[.int .i64 0, .int .i64 0, .int .i64 0]), 3, 24) := by kernel_rfl
theorem numInfo : (Try.prog.info? 3).map (fun i => (i.zero, i.size, i.bytes)) = some (some (.int .i64 0), 1, 8) := by kernel_rfl

set_option maxRecDepth 100000 in
set_option maxHeartbeats 1000000 in
theorem cloneD_is (A : Option Addr) (n cap : Nat) (xs : List Value) (w : World) (hA : A = none → n = 0 ∧ cap = 0) (HL : Hid (xs.length = n * 3)) (hl : n ≤ 1000000) (H1 : Hid (∀ v ∈ xs, v.oneCell' = true)) (HS : Hid (Src w A xs)) :
    Calls Try.prog 38 #[.slice A n cap] w (CopyR w 50 3 n xs) := by
  cases A with
  | none =>
    obtain ⟨rfl, rfl⟩ := hA rfl
    have hx := HS.out.1 rfl
    subst hx
    have hq := fun (wx : World) => Lib.run_eql_slice_nil (P := Try.prog) wx 46 50 none 0 0 0 0 Try.underlying46
    clear hA
    go_enter Try.func38, Try.ntmps38
    go_wp2_with fail
    go_ret
    exact ⟨none, 0, rfl, World.ownsRow_nil _ _ _ _, Below.refl _ _⟩
  | some ad =>
    obtain ⟨i0, hi0, hz0, hz1, hz2⟩ := info_parts didInfo
    have hq := fun (wx : World) => Lib.run_eql_slice_nil (P := Try.prog) wx 46 50 (some ad) n cap 0 0 Try.underlying46
    clear hA
    go_enter Try.func38, Try.ntmps38
    go_wp2_with (at_builtin; refine wpList_append_own _ rfl (.tmp 5) (.tmp 6) 46 (by rfl) w.heap.size 50 i0 _ 3 24 Try.underlying46 hi0 hz0 hz1 hz2 rfl (by omega) _ 0 [] (by rfl) (World.ownsRow_made w #[] 0 (Nat.le_refl _) (by unfold maxLen; omega) rfl) ad n cap xs (by rfl) HL.out ((HS.out.below (one_box' _)).2 ad rfl) H1.out (by unfold maxLen; omega) (by omega) (by simp) ?_; intro v1 w1 hown hgrow hnil)
    go_ret
    have hown' : w1.ownsRow w.heap.size 50 3 v1 n xs := by simpa using hown
    obtain ⟨A, c, rfl⟩ := own_len hown'
    exact ⟨A, c, rfl, hown', (one_box' _).grown hgrow (by simp) (fun j e => by simp [Value.ownBlock] at e; omega)⟩

set_option maxRecDepth 100000 in
set_option maxHeartbeats 1000000 in
theorem cloneN_is (A : Option Addr) (n cap : Nat) (xs : List Value) (w : World) (hA : A = none → n = 0 ∧ cap = 0) (HL : Hid (xs.length = n * 1)) (hl : n ≤ 1000000) (H1 : Hid (∀ v ∈ xs, v.oneCell' = true)) (HS : Hid (Src w A xs)) :
    Calls Try.prog 35 #[.slice A n cap] w (CopyR w 3 1 n xs) := by
  cases A with
  | none =>
    obtain ⟨rfl, rfl⟩ := hA rfl
    have hx := HS.out.1 rfl
    subst hx
    have hq := fun (wx : World) => Lib.run_eql_slice_nil (P := Try.prog) wx 26 3 none 0 0 0 0 Try.underlying26
    clear hA
    go_enter Try.func35, Try.ntmps35
    go_wp2_with fail
    go_ret
    exact ⟨none, 0, rfl, World.ownsRow_nil _ _ _ _, Below.refl _ _⟩
  | some ad =>
    obtain ⟨i0, hi0, hz0, hz1, hz2⟩ := info_parts numInfo
    have hq := fun (wx : World) => Lib.run_eql_slice_nil (P := Try.prog) wx 26 3 (some ad) n cap 0 0 Try.underlying26
    clear hA
    go_enter Try.func35, Try.ntmps35
    go_wp2_with (at_builtin; refine wpList_append_own _ rfl (.tmp 5) (.tmp 6) 26 (by rfl) w.heap.size 3 i0 _ 1 8 Try.underlying26 hi0 hz0 hz1 hz2 rfl (by omega) _ 0 [] (by rfl) (World.ownsRow_made w #[] 0 (Nat.le_refl _) (by unfold maxLen; omega) rfl) ad n cap xs (by rfl) HL.out ((HS.out.below (one_box' _)).2 ad rfl) H1.out (by unfold maxLen; omega) (by omega) (by simp) ?_; intro v1 w1 hown hgrow hnil)
    go_ret
    have hown' : w1.ownsRow w.heap.size 3 1 v1 n xs := by simpa using hown
    obtain ⟨A, c, rfl⟩ := own_len hown'
    exact ⟨A, c, rfl, hown', (one_box' _).grown hgrow (by simp) (fun j e => by simp [Value.ownBlock] at e; omega)⟩
theorem own_none {w : World} {base n c size m : Nat} {E : TypeId} {A : Option Addr} {xs : List Value} (h : w.ownsRow base E size (.slice A n c) m xs) : A = none → n = 0 ∧ c = 0 := fun e => by
  rcases h.2 with ⟨e1, _⟩ | ⟨g, cap, cur, e1, _⟩
  · injection e1 with _ e2 e3; exact ⟨e2, e3⟩
  · injection e1 with e2; rw [e] at e2; cases e2

theorem epochs_is {w : World} {g cap b N : Nat} {A : Option Addr} {es : List Int} {ms : List Mk} (h : Hid (Tab w g A cap b N es ms)) (n : Nat) (hn : es.length = n) (hl : n ≤ 1000000) :
    Calls Try.prog 23 #[.pointer (some ⟨g, 0, none⟩)] w (CopyR w 3 1 n (rowN es)) := by
  have c0 := h.out.c0
  rw [hn] at c0
  have HO := Lib.hid h.out.own
  rw [hn] at HO
  have HN := Lib.hid hn
  clear hn
  go_enter Try.func23, Try.ntmps23
  go_wp2_with (go_at_call 35; refine (cloneN_is A n cap (rowN es) _ (own_none HO.out) (Lib.hid (by rw [rowN_len, HN.out, Nat.mul_one])) hl (Lib.hid (rowN_one es)) (Lib.hid (Src.own HO.out))).mono ?_; rintro e w' ⟨A', c', rfl, hown, hbel⟩)
  go_ret
  exact ⟨A', c', rfl, hown, hbel⟩
end Go.Proofs.Ytcmlopflandlgaa.L8
