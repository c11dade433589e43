/-
  Contracts over the document's own functions: Drop.
-/
import Derived.Test.YtohfbmgonjkhhaaTpRdrop
namespace Go.Proofs.Ytohfbmgonjkhhaa.L9
open Go.RowKit
open Go.Maps
open L3 L4

theorem drop_at : ∀ {Q : List Pt} {j : Nat} {s : ByteArray} {z : Int}, Rise Q → Q[j]? = some ⟨s, z⟩ → dropQ Q s = Q.take j ++ Q.drop (j + 1)
  | [], _, _, _, _, h => by simp at h
  | a :: t, 0, s, z, hR, h => by
    simp at h
    subst h
    obtain ⟨h1, _⟩ := List.pairwise_cons.1 hR
    have e : dropQ t s = t := drop_none (has_not.2 fun x hx => (less_ne (h1 x hx)).symm)
    unfold dropQ at e ⊢
    rw [List.filter_cons]
    simp [e]
  | a :: t, j + 1, s, z, hR, h => by
    obtain ⟨h1, h2⟩ := List.pairwise_cons.1 hR
    have h' : t[j]? = some ⟨s, z⟩ := by simpa using h
    have ih := drop_at h2 h'
    have hn : a.t ≠ s := less_ne (h1 _ (List.mem_of_getElem? h'))
    unfold dropQ at ih ⊢
    rw [List.filter_cons]
    simp [hn, ih]

set_option maxRecDepth 100000 in
set_option maxHeartbeats 4000000 in
theorem rdrop_is {w : World} {B k cap m : Nat} {A : Option Addr} {Q : List Pt} (s : ByteArray) (x : Int) (h : Hid (Doc w B k A cap Q)) (hA : Hid (A = none → cap = 0)) (G : Hid (Good Q)) (hm : Q.length = m) (hB : Hid (B ≤ w.heap.size)) (HX : Hid (dropE Q s = x)) :
    Calls Try.prog 15 #[.pointer (some ⟨k, 0, none⟩), .string s] w fun e w' => e = .returned (.int .i64 x) ∧ Turned w B k A (dropQ Q s) w' := by
  have hx := HX.out
  unfold dropE at hx
  have hl8 : m ≤ 8 := by rw [← hm]; exact G.out.len
  have HR : Hid (Rise Q) := Lib.hid G.out.rise
  have HDOC := h
  cases hh : hasB Q s with
  | false =>
    rw [hh, if_neg (by simp)] at hx
    subst hx
    rw [drop_none hh]
    have HP : Hid (plP Q s (-1)) := Lib.hid (.inl ⟨rfl, hh⟩)
    clear hh
    go_enter Try.func15, Try.ntmps15
    go_wp2_with (go_at_call 34; refine (rplace_is s _ h hm (by omega) HR HP).mono ?_; rintro e w1 ⟨rfl, hw1⟩; obtain rfl := hw1.symm)
    go_ret
    exact ⟨rfl, Turned.same HDOC.out hA.out (Below.refl _ _)⟩
  | true =>
    rw [hh, if_pos rfl] at hx
    subst hx
    obtain ⟨j, ⟨zt, zn⟩, hz, rfl⟩ := plP_some hh
    dsimp only at HX hh ⊢
    have HP : Hid (plP Q zt (j : Int)) := Lib.hid (.inr ⟨j, _, rfl, hz, rfl⟩)
    have hj := (List.getElem?_eq_some_iff.1 hz).1
    rw [hm] at hj
    have c0 := h.out.c0
    rw [hm] at c0
    have f0 := h.out.froz
    have lk : k < w.heap.size := h.out.lt
    have hcap : m ≤ cap := by rw [← hm]; exact doc_cap h.out
    have HSRC := Lib.hid (doc_src h.out)
    obtain ⟨ga, rfl, hga, _⟩ := h.out.reads (by rw [hm]; omega)
    have k0 : (0 : Int) ≤ (j : Int) := by omega
    have k1 : (j : Int) < (m : Int) := by omega
    have k2 : ¬ (j : Int) < 0 := by omega
    have k3 : (j : Int) ≤ (cap : Int) := by omega
    have k4 : j ≤ cap := by omega
    have k5 : (j : Int) + 1 ≤ (m : Int) := by omega
    have k6 : j + 1 ≤ m := by omega
    have k7 : (m : Int) ≤ (cap : Int) := by omega
    have HL1 : Hid ((rowP (Q.take j)).length = j * 2) := Lib.hid (by rw [rowP_len, List.length_take, hm]; omega)
    have HL3 : Hid ((rowP (Q.drop (j + 1))).length = (m - (j + 1)) * 2) := Lib.hid (by rw [rowP_len, List.length_drop, hm])
    have HLEN := Lib.hid hm
    have HSD : Hid (∀ w', Below w.heap.size w w' → Src w' (if cap = j + 1 then some ⟨ga, 0, none⟩ else some ⟨ga, (j + 1) * 2, none⟩) (rowP (Q.drop (j + 1)))) := Lib.hid (fun w' hb => by
      split
      · rename_i hc
        have e : rowP (Q.drop (j + 1)) = [] := List.eq_nil_of_length_eq_zero (by rw [HL3.out]; omega)
        rw [e]
        exact ⟨fun _ => rfl, fun ad q t u hu => by simp at hu⟩
      · exact src_drop (HSRC.out.below hb) (j + 1) (by rw [HLEN.out]; omega))
    have HPL : Hid (dropQ Q zt = Q.take j ++ Q.drop (j + 1)) := Lib.hid (drop_at HR.out hz)
    obtain ⟨i0, hi0, hz0, hz1, hz2⟩ := info_parts topInfo'
    clear hh hz
    go_enter Try.func15, Try.ntmps15
    go_wp2_with (first
      | (go_at_call 34; refine (rplace_is zt _ h hm (by omega) HR HP).mono ?_; rintro e w1 ⟨rfl, hw1⟩; obtain rfl := hw1.symm)
      | (at_builtin; have _q := hown3; refine wpList_append_src (by rfl) _ _ 27 (by rfl) w.heap.size 46 i0 _ 2 24 Try.underlying27 hi0 hz0 hz1 hz2 rfl (by decide) (.slice A3 j c3) j _ (by rfl) hown3 (if cap = j + 1 then some ⟨ga, 0, none⟩ else some ⟨ga, (j + 1) * 2, none⟩) (m - (j + 1)) (cap - (j + 1)) (rowP (Q.drop (j + 1))) (by rfl) HL3.out (HSD.out w3 hB3) (fun e => absurd e (by split <;> simp)) (rowP_one _) (by unfold maxLen; omega) (by omega) (by omega) ?_; intro v5 w5 hown5 hgrow5; have hB5 : Below w.heap.size w w5 := hB3.grown hgrow5 (by omega) (fun q e => (hown3.lt q e).1); obtain ⟨A5, c5, rfl⟩ := own_len hown5; have c05 := (hB5.cell (p := ⟨k, 0, none⟩) lk).trans c0; have f05 := (hB5.frozen (p := ⟨k, 0, none⟩) lk).trans f0; clear c03 f03)
      | (at_builtin; refine wpList_append_src (by rfl) _ _ 27 (by rfl) w.heap.size 46 i0 _ 2 24 Try.underlying27 hi0 hz0 hz1 hz2 rfl (by decide) _ 0 [] (by rfl) (World.ownsRow_made w #[] 0 (Nat.le_refl _) (by unfold maxLen; omega) rfl) (some ⟨ga, 0, none⟩) j cap (rowP (Q.take j)) (by rfl) HL1.out (src_take (HSRC.out.below (one_box' _)) j) (fun e => (by cases e)) (rowP_one _) (by unfold maxLen; omega) (by omega) (by simp) ?_; intro v3 w3 hown3 hgrow3; rw [Nat.zero_add, List.nil_append] at hown3; have hB3 : Below w.heap.size w w3 := (one_box' _).grown hgrow3 (by simp) (fun q e => by simp [Value.ownBlock] at e; omega); obtain ⟨A3, c3, rfl⟩ := own_len hown3; have hw3 := hB3.size; have lk3 : k < w3.heap.size := Nat.lt_of_lt_of_le lk hw3; have c03 := (hB3.cell (p := ⟨k, 0, none⟩) lk).trans c0; have f03 := (hB3.frozen (p := ⟨k, 0, none⟩) lk).trans f0))
    all_goals
      go_ret
      refine ⟨rfl, ?_⟩
      rw [HPL.out]
      refine doc_store HDOC.out hB.out hB5 (n := j + (m - (j + 1))) ?_ (by rw [List.length_append, List.length_take, List.length_drop, HLEN.out]; omega)
      rw [rowP_app]
      exact hown5
end Go.Proofs.Ytohfbmgonjkhhaa.L9
