/-
  Contracts: Beat.
-/
import Derived.Test.YtidgifnnkaheeaaGpSeat
namespace Go.Proofs.Ytidgifnnkaheeaa.L11
open Go.RowKit
open Go.Maps
open L3 L4 L9 L10

def BeatP (w : World) (g b N : Nat) (G : Int) (r : Bool) (Q : List Se) (a : ByteArray) (now x : Int) (e : Ending) (w' : World) : Prop :=
  e = .returned (.int .i64 x) ∧ Gp w' g b (N + 1) G r (beatQ Q a now x) ∧ Only [b] w w'
theorem BeatP.no {w w' : World} {g b N : Nat} {G : Int} {r : Bool} {Q : List Se} {a : ByteArray} {now x : Int} (hx : x ≠ 0) (h : Gp w g b N G r Q) (hb : Below w.heap.size w w') : BeatP w g b N G r Q a now x (.returned (.int .i64 x)) w' := by
  refine ⟨rfl, ?_, Only.ofBelow hb⟩
  unfold beatQ
  rw [if_neg hx]
  exact (h.below hb).mono (Nat.le_succ N)
set_option maxRecDepth 100000 in
set_option maxHeartbeats 2000000 in
theorem beat_is {w : World} {g b N : Nat} {G : Int} {r : Bool} {Q : List Se} (a : ByteArray) (gn now x : Int) (h : Hid (Gp w g b N G r Q)) (GG : Hid (GoodG G Q)) (hN : N ≤ 1000000) (hs : Hid (a.size ≤ maxLen)) (HX : Hid (beatE G Q a gn now = x)) :
    Calls Try.prog 29 #[.pointer (some ⟨g, 0, none⟩), .string a, .int .i64 gn, .int .i64 now] w (BeatP w g b N G r Q a now x) := by
  have hx := HX.out
  unfold beatE at hx
  cases hw : wB now with
  | false =>
    rw [hw, if_pos rfl] at hx
    subst hx
    have HW := Lib.hid hw
    clear hw
    go_enter Try.func29, Try.ntmps29
    go_wp2_with (go_at_call 55; refine (within_is now _ _ HW).mono ?_; rintro e w3 ⟨rfl, hw3⟩; obtain rfl := hw3.symm)
    go_ret
    exact BeatP.no (by decide) h.out (Below.refl _ _)
  | true =>
    rw [hw, if_neg (by simp)] at hx
    have HW := Lib.hid hw
    have HF := Lib.hid hx
    clear hw
    by_cases h0 : x = 0
    · subst h0
      obtain ⟨hh, rfl⟩ := fenceE_ok HF.out
      obtain ⟨s, hsm, hsn⟩ := hasS_mem.1 hh
      obtain ⟨A, c, hR, hlook⟩ := h.out.map.look hsm (by rw [hsn]; exact hs.out)
      have HR := Lib.hid hR
      have HL := Lib.hid hlook
      obtain ⟨n, hn⟩ : ∃ n, s.m.ts.length = n := ⟨_, rfl⟩
      obtain ⟨tm, htm⟩ : ∃ nm, s.tm = nm := ⟨_, rfl⟩
      obtain ⟨sn, hsn2⟩ : ∃ nm, s.sn = nm := ⟨_, rfl⟩
      have HSM := Lib.hid hsm
      have HSN := Lib.hid hsn
      have HN := Lib.hid hn
      have HTM := Lib.hid htm
      have HSN2 := Lib.hid hsn2
      clear hh hR hlook hn htm hsn2 hsm hsn hx
      go_enter Try.func29, Try.ntmps29
      go_upto_region 6 with (first
        | (go_at_call 55; refine (within_is now _ _ HW).mono ?_; rintro e w3 ⟨rfl, hw3⟩; obtain rfl := hw3.symm)
        | (go_at_call 44; refine (fence_is a gn 0 h hs HF).mono ?_; rintro e w2 ⟨rfl, hb2⟩))
      have H2 := Lib.hid (h.out.below hb2)
      have c2 := H2.out.c2
      have hrun := HL.out w2 (hb2.block b h.out.map.lt)
      rw [HSN.out, HN.out, HTM.out, HSN2.out] at hrun
      obtain ⟨⟨b0, b1, b2, b3⟩, hb3⟩ := box_se (w := w2) (a := a) (A := A) (n := n) (c := c) (t := tm) (e := sn)
      have hr3 := heap_alloc_new w2 (.cells #[.string a, .slice A n c, .int .i64 tm, .int .i64 sn] 47)
      obtain ⟨H, hH⟩ : ∃ H, w2.heap.size = H := ⟨_, rfl⟩
      obtain ⟨W3, hW3⟩ : ∃ W, w2.alloc (.cells #[.string a, .slice A n c, .int .i64 tm, .int .i64 sn] 47) = W := ⟨_, rfl⟩
      rw [hW3] at b0 b1 b2 b3 hb3 hr3
      rw [hH] at b0 b1 b2 b3 hr3
      have f3 : W3.frozen? ⟨H, 3, none⟩ = false := frozen_of_row _ _ _ _ _ hr3
      obtain ⟨mx, hmx⟩ : ∃ mx, max sn now = mx := ⟨_, rfl⟩
      obtain ⟨W4, hW4⟩ : ∃ W4, W3.setCell ⟨H, 3, none⟩ (.int .i64 mx) = W4 := ⟨_, rfl⟩
      have hr4 : W4.heap[H]? = some (.cells #[.string a, .slice A n c, .int .i64 tm, .int .i64 mx] 47 (0, 0)) := hW4 ▸ heap_setCell_same _ _ _ _ _ _ hr3
      have hb4 : Below w2.heap.size w2 W4 := hW4 ▸ hb3.setCell (by rw [hH]; exact Nat.le_refl _) _
      have e0 : W4.cell? ⟨H, 0, none⟩ = some (.string a) := (cell_of_row _ _ 0 _ _ _ hr4).trans rfl
      have e1 : W4.cell? ⟨H, 1, none⟩ = some (.slice A n c) := (cell_of_row _ _ 1 _ _ _ hr4).trans rfl
      have e2 : W4.cell? ⟨H, 2, none⟩ = some (.int .i64 tm) := (cell_of_row _ _ 2 _ _ _ hr4).trans rfl
      have e3 : W4.cell? ⟨H, 3, none⟩ = some (.int .i64 mx) := (cell_of_row _ _ 3 _ _ _ hr4).trans rfl
      have hB4 : Below w.heap.size w W4 := hb2.trans (hb4.mono hb2.size)
      have hG4 := h.out.below (hB4.drew)
      have d2 : W4.cell? ⟨g, 2, none⟩ = some (.map (some b)) := hG4.c2
      obtain ⟨w', hrun4, hm4, ho4⟩ := hG4.map.store (Q' := Q.map (beatS a now)) (by unfold maxLen; omega) ⟨s.m, s.tm, max s.sn now⟩ A n c HN.out (by show s.m.name.size ≤ _; rw [HSN.out]; exact hs.out) (HR.out.below (hB4.drew)) (fun y => by
        have := mem_beat GG.out.rise HSM.out now (y := y)
        rw [HSN.out] at this
        show _ ↔ _ ∨ (_ ∧ _ ≠ s.m.name)
        rw [HSN.out]
        exact this)
      dsimp only at hrun4
      rw [HSN.out, HTM.out, HSN2.out, hmx] at hrun4
      have HM4 := Lib.hid hm4
      have HO4 := Lib.hid ho4
      have HG4 := Lib.hid hG4
      have HB4 := Lib.hid hB4
      clear hm4 ho4 hG4 hB4 hb4 hr4 hr3 hb3 b1 b2 b0
      go_wp2_with fail
      go_region
      go_wp2_with fail
      go_ret
      refine ⟨rfl, ?_, ((Only.ofBelow HB4.out).drew).trans HO4.out (fun k hk => .inl hk)⟩
      unfold beatQ
      rw [if_pos rfl]
      exact HG4.out.turned HO4.out HM4.out
    · have HX0 := Lib.hid h0
      have e1 : (x == 0) = false := by simpa using h0
      clear h0
      go_enter Try.func29, Try.ntmps29
      go_wp2_with (first
        | (go_at_call 55; refine (within_is now _ _ HW).mono ?_; rintro e w3 ⟨rfl, hw3⟩; obtain rfl := hw3.symm)
        | (go_at_call 44; refine (fence_is a gn x h hs HF).mono ?_; rintro e w2 ⟨rfl, hb2⟩))
      go_ret
      exact BeatP.no HX0.out h.out hb2
end Go.Proofs.Ytidgifnnkaheeaa.L11
