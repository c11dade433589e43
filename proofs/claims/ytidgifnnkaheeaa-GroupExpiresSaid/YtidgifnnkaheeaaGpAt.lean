/-
  A group whose seats' topics are as another world has them: Fence, Beat, Expire.
-/
import Derived.Test.YtidgifnnkaheeaaMGpJoin
import Derived.Test.YtidgifnnkaheeaaMGpMine
namespace Go.Proofs.Ytidgifnnkaheeaa.L11.At
open Go.RowKit Go.Shelf
open Go.Maps
open L3 L4 L9 L10 L11

theorem IsGrpAt.lt {R w : World} {b N : Nat} {Q : List Se} (h : IsGrpAt R w b N Q) : b < w.heap.size := by
  obtain ⟨_, ⟨es, c, hb, _⟩, _⟩ := h
  exact (Array.getElem?_eq_some_iff.1 hb).1
theorem IsGrpAt.mono {R w : World} {b N N' : Nat} {Q : List Se} (h : IsGrpAt R w b N Q) (hN : N ≤ N') : IsGrpAt R w b N' Q := by
  obtain ⟨D, ho, hd⟩ := h
  exact ⟨D, ho.mono hN, hd⟩
theorem putAt {R : World} {D : DataW Value} {Q Q' : List Se} (h : GrpD R D Q) (hm : IsMap D) (s : Se) (A : Option Addr) (c : Nat) (hR : RowT R A c s.m.ts) (hm' : ∀ x, x ∈ Q' ↔ x = s ∨ (x ∈ Q ∧ x.m.name ≠ s.m.name)) : GrpD R (D.put (.string (kb s.m.name)) (.held (seV s A c))) Q' :=
  h.put (fun _ _ _ _ => rfl) hm s A c hR hm'
theorem IsGrpAt.store {R w : World} {b N : Nat} {Q Q' : List Se} (h : IsGrpAt R w b N Q) (hN : N < maxLen) (s : Se) (A : Option Addr) (n c : Nat) (hn : s.m.ts.length = n) (hs : s.m.name.size ≤ maxLen) (hR : RowT R A c s.m.ts) (hm' : ∀ x, x ∈ Q' ↔ x = s ∨ (x ∈ Q ∧ x.m.name ≠ s.m.name)) :
    ∃ w', (Instr.mapUpdate 86 (.map (some b)) (.string s.m.name) (.agg #[.string s.m.name, .slice A n c, .int .i64 s.tm, .int .i64 s.sn])).run Try.prog w = .ok () w' ∧ IsGrpAt R w' b (N + 1) Q' ∧ Only [b] w w' := by
  subst hn
  obtain ⟨D, ho, hd⟩ := h
  obtain ⟨w', hrun, ho', ht⟩ := ho.store lawStr Try.underlying86 hN (keyS hs) (rdS_se s A c)
  exact ⟨w', hrun, ⟨_, ho', putAt hd ho.isMap s A c hR hm'⟩, Only.ofGrown ht.grown⟩
structure Gp (R w : World) (g b N : Nat) (G : Int) (r : Bool) (Q : List Se) : Prop where
  row : w.heap[g]? = some (.cells #[.int .i64 G, .bool r, .map (some b)] 88 (0, 0))
  map : IsGrpAt R w b N Q
section
variable {R w w' : World} {g b N : Nat} {G : Int} {r : Bool} {Q : List Se}
theorem Gp.c0 (h : Gp R w g b N G r Q) : w.cell? ⟨g, 0, none⟩ = some (.int .i64 G) := (cell_of_row _ _ 0 _ _ _ h.row).trans rfl
theorem Gp.c2 (h : Gp R w g b N G r Q) : w.cell? ⟨g, 2, none⟩ = some (.map (some b)) := (cell_of_row _ _ 2 _ _ _ h.row).trans rfl
theorem Gp.froz (h : Gp R w g b N G r Q) (i : Nat) : w.frozen? ⟨g, i, none⟩ = false := frozen_of_row _ _ _ _ _ h.row
theorem Gp.lt (h : Gp R w g b N G r Q) : g < w.heap.size := (Array.getElem?_eq_some_iff.1 h.row).1
theorem Gp.kept (h : Gp R w g b N G r Q) (h1 : w'.heap[g]? = w.heap[g]?) (h2 : w'.heap[b]? = w.heap[b]?) : Gp R w' g b N G r Q := ⟨h1.trans h.row, h.map.at h2⟩
theorem Gp.below (h : Gp R w g b N G r Q) (hb : Below w.heap.size w w') : Gp R w' g b N G r Q := h.kept (hb.block g h.lt) (hb.block b (IsGrpAt.lt h.map))
theorem Gp.gb (h : Gp R w g b N G r Q) : g ≠ b := fun e => by
  obtain ⟨_, ⟨es, c, hb, _⟩, _⟩ := h.map
  have := h.row
  rw [e, hb] at this; injection this with e; cases e
theorem Gp.turned {N' : Nat} {Q' : List Se} (h : Gp R w g b N G r Q) (o : Only [b] w w') (hm : IsGrpAt R w' b N' Q') : Gp R w' g b N' G r Q' := ⟨(o.block g h.lt (by simpa using h.gb)).trans h.row, hm⟩
theorem Gp.mono {N' : Nat} (h : Gp R w g b N G r Q) (hN : N ≤ N') : Gp R w g b N' G r Q := ⟨h.row, IsGrpAt.mono h.map hN⟩
theorem Gp.setGen (h : Gp R w g b N G r Q) (x : Int) : Gp R (w.setCell ⟨g, 0, none⟩ (.int .i64 x)) g b N x r Q :=
  ⟨heap_setCell_same _ _ _ _ _ _ h.row, h.map.at (Below.heap_setCell _ _ _ _ (fun e => h.gb e.symm))⟩
/-- out of a group, and back -/
theorem Gp.of (h : L11.Gp w g b N G r Q) : Gp w w g b N G r Q := ⟨h.row, h.map⟩
theorem Gp.to (h : Gp R w g b N G r Q) (k : KpS R w) : L11.Gp w g b N G r Q := ⟨h.row, by
  obtain ⟨D, ho, hd⟩ := h.map
  exact ⟨D, ho, hd.kept k⟩⟩
end
/-- what 'v, ok' finds -/
theorem IsGrpAt.looks {R w : World} {b N : Nat} {Q : List Se} (h : IsGrpAt R w b N Q) (s : ByteArray) (hz : s.size ≤ maxLen) : ∃ a A n c t e, (Instr.lookup 86 (.map (some b)) (.string s) true).run Try.prog w = .ok (.tuple #[.agg #[.string a, .slice A n c, .int .i64 t, .int .i64 e], .bool (hasS Q s)]) w := by
  obtain ⟨D, ho, hd⟩ := h
  obtain ⟨v, ps, hrun, hv⟩ := ho.look_ok lawStr Try.underlying86 (zeroSeat w) (show rdS (.agg _) = some (.held (.agg _), []) from rfl) (keyS hz)
  obtain ⟨xs, rfl, e⟩ := rdS_inv hv
  rw [hrun, hd.has s]
  cases hh : hasS Q s with
  | true =>
    obtain ⟨q, hq, rfl⟩ := hasS_mem.1 hh
    obtain ⟨A, c, h1, h2⟩ := hd.2 q hq
    have h3 := h1 (.held (.agg #[.string ⟨#[]⟩, .slice none 0 0, .int .i64 0, .int .i64 0]))
    rw [show Lit.string (kb q.m.name) = Lit.string q.m.name.data.toList from rfl] at h3
    rw [h3] at e
    have e2 : seV q A c = Value.agg xs := DataW.held.inj (Prod.mk.inj e).1
    rw [← e2]
    exact ⟨_, _, _, _, _, _, by unfold seV; with_reducible rfl⟩
  | false =>
    rw [atKey_of_not_has ((hd.has s).trans hh)] at e
    have e2 : Value.agg #[.string ⟨#[]⟩, .slice none 0 0, .int .i64 0, .int .i64 0] = Value.agg xs := DataW.held.inj (Prod.mk.inj e).1
    rw [← e2]
    exact ⟨_, _, _, _, _, _, by with_reducible rfl⟩
set_option maxHeartbeats 1000000 in
theorem there_is {R w : World} {g b N : Nat} {G : Int} {r : Bool} {Q : List Se} (s : ByteArray) (v : Bool) (h : Hid (Gp R w g b N G r Q)) (hs : Hid (s.size ≤ maxLen)) (HV : Hid (hasS Q s = v)) :
    Calls Try.prog 48 #[.pointer (some ⟨g, 0, none⟩), .string s] w fun e w' => e = .returned (.bool v) ∧ Below w.heap.size w w' := by
  have c2 := h.out.c2
  obtain ⟨a, A, n, c, t, e, hrun⟩ := IsGrpAt.looks h.out.map s hs.out
  rw [HV.out] at hrun
  have hz := zeroSeat w
  go_enter Try.func48, Try.ntmps48
  go_wp2_with fail
  go_ret
  exact ⟨rfl, one_box' _⟩
set_option maxHeartbeats 1000000 in
theorem fence_is {R w : World} {g b N : Nat} {G : Int} {r : Bool} {Q : List Se} (s : ByteArray) (gn x : Int) (h : Hid (Gp R w g b N G r Q)) (hs : Hid (s.size ≤ maxLen)) (HX : Hid (fenceE G Q s gn = x)) :
    Calls Try.prog 44 #[.pointer (some ⟨g, 0, none⟩), .string s, .int .i64 gn] w fun e w' => e = .returned (.int .i64 x) ∧ Below w.heap.size w w' := by
  have hx := HX.out
  unfold fenceE at hx
  have c0 := h.out.c0
  cases hh : hasS Q s with
  | false =>
    rw [hh, if_pos rfl] at hx
    subst hx
    have HH := Lib.hid hh
    clear hh
    go_enter Try.func44, Try.ntmps44
    go_wp2_with (go_at_call 48; refine (there_is s _ h hs HH).mono ?_; rintro e w2 ⟨rfl, hb2⟩)
    go_ret
    exact ⟨rfl, hb2⟩
  | true =>
    rw [hh, if_neg (by simp)] at hx
    have HH := Lib.hid hh
    clear hh
    by_cases hg : gn = G
    · rw [if_pos hg] at hx
      subst hx
      have q1 : (gn == G) = true := by simpa using hg
      subst hg
      go_enter Try.func44, Try.ntmps44
      go_wp2_with (go_at_call 48; refine (there_is s _ h hs HH).mono ?_; rintro e w2 ⟨rfl, hb2⟩; have d0 := cell_b hb2 c0)
      go_ret
      exact ⟨rfl, hb2⟩
    · rw [if_neg hg] at hx
      subst hx
      have q1 : (gn == G) = false := by simpa using hg
      go_enter Try.func44, Try.ntmps44
      go_wp2_with (go_at_call 48; refine (there_is s _ h hs HH).mono ?_; rintro e w2 ⟨rfl, hb2⟩; have d0 := cell_b hb2 c0)
      go_ret
      exact ⟨rfl, hb2⟩
set_option maxRecDepth 100000 in
set_option maxHeartbeats 2000000 in
theorem names_is {R w : World} {g b N m : Nat} {G : Int} {r : Bool} {Q : List Se} (h : Hid (Gp R w g b N G r Q)) (hR : Hid (RiseS Q)) (hm : Hid (Q.length = m)) (hl : m ≤ 8) :
    Calls Try.prog 50 #[.pointer (some ⟨g, 0, none⟩)] w (NamesP w Q m) := by
  have c2 := h.out.c2
  obtain ⟨D, ho, hd⟩ := h.out.map
  have HP := Lib.hid (hd.perm hR.out ho)
  have hsz : Maps.size D = m := (hd.size hR.out ho).trans hm.out
  have HO := Lib.hid ho
  have S1 : Hid (Maps.size D ≤ maxLen) := Lib.hid (by rw [hsz]; unfold maxLen; omega)
  have S2 : Hid (Maps.size D * 16 ≤ 140737488355328) := Lib.hid (by rw [hsz]; omega)
  clear ho hd hsz
  go_enter Try.func50, Try.ntmps50
  go_wp2_with (first
    | (go_at_call 67; refine (callsIn_wide.1 (Try.maps_KeysS _ _)).mono ?_; rintro e w' ⟨rfl, rfl⟩)
    | (go_at_call 66; refine (callsIn_wide.1 (Try.slices_SortedS b N D _ w HO.out S1.out S2.out)).mono ?_; rintro e w2 ⟨v, ss, rfl, hS, hrow, hnil, hb⟩; obtain ⟨A, c, rfl⟩ := own_len hrow; have hss := (hS.trans HP.out.symm).length_eq; rw [List.length_map] at hss; rw [seats_sort hR.out (hS.trans HP.out.symm)] at hrow; rw [hss, hm.out] at hrow ⊢; have HROW := Lib.hid hrow; have HB2 : Hid (Below w.heap.size w w2) := Lib.hid (((Below.refl _ w).alloc (Nat.le_refl _) _).trans (hb.mono (by simp))); clear hS hnil hb hss hrow))
  go_ret
  refine ⟨A, c, rfl, ?_, HB2.out⟩
  have q := own_base HROW.out (base' := w.heap.size) (by simp)
  have e : List.map encStr (List.map (fun q => kb q.m.name) Q) = (Q.map (·.m.name)).map (fun x => .string x) := by
    rw [List.map_map, List.map_map]
    exact List.map_congr_left (fun q _ => enc_kb _)
  rw [e] at q
  exact q
def BeatP (R w : World) (g b N : Nat) (G : Int) (r : Bool) (Q : List Se) (a : ByteArray) (now x : Int) (e : Ending) (w' : World) : Prop :=
  e = .returned (.int .i64 x) ∧ Gp R w' g b (N + 1) G r (beatQ Q a now x) ∧ Only [b] w w'
theorem BeatP.no {R w w' : World} {g b N : Nat} {G : Int} {r : Bool} {Q : List Se} {a : ByteArray} {now x : Int} (hx : x ≠ 0) (h : Gp R w g b N G r Q) (hb : Below w.heap.size w w') : BeatP R w g b N G r Q a now x (.returned (.int .i64 x)) w' := by
  refine ⟨rfl, ?_, Only.ofBelow hb⟩
  unfold beatQ
  rw [if_neg hx]
  exact (h.below hb).mono (Nat.le_succ N)
set_option maxRecDepth 100000 in
set_option maxHeartbeats 2000000 in
theorem beat_is {R w : World} {g b N : Nat} {G : Int} {r : Bool} {Q : List Se} (a : ByteArray) (gn now x : Int) (h : Hid (Gp R w g b N G r Q)) (GG : Hid (GoodG G Q)) (hN : N ≤ 1000000) (hs : Hid (a.size ≤ maxLen)) (HX : Hid (beatE G Q a gn now = x)) :
    Calls Try.prog 29 #[.pointer (some ⟨g, 0, none⟩), .string a, .int .i64 gn, .int .i64 now] w (BeatP R w g b N G r Q a now x) := by
  have hx := HX.out
  unfold beatE at hx
  cases hw : wB now with
  | false =>
    rw [hw, if_pos rfl] at hx
    subst hx
    have HW := Lib.hid hw
    clear hw
    go_enter Try.func29, Try.ntmps29
    go_wp2_with (go_at_call 55; refine (within_is now _ _ HW).mono ?_; rintro e w3 ⟨rfl, hw3⟩; obtain rfl := hw3.symm)
    go_ret
    exact BeatP.no (by decide) h.out (Below.refl _ _)
  | true =>
    rw [hw, if_neg (by simp)] at hx
    have HW := Lib.hid hw
    have HF := Lib.hid hx
    clear hw
    by_cases h0 : x = 0
    · subst h0
      obtain ⟨hh, rfl⟩ := fenceE_ok HF.out
      obtain ⟨s, hsm, hsn⟩ := hasS_mem.1 hh
      obtain ⟨A, c, hR, hlook⟩ := h.out.map.look hsm (by rw [hsn]; exact hs.out)
      have HR := Lib.hid hR
      have HL := Lib.hid hlook
      obtain ⟨n, hn⟩ : ∃ n, s.m.ts.length = n := ⟨_, rfl⟩
      obtain ⟨tm, htm⟩ : ∃ nm, s.tm = nm := ⟨_, rfl⟩
      obtain ⟨sn, hsn2⟩ : ∃ nm, s.sn = nm := ⟨_, rfl⟩
      have HSM := Lib.hid hsm
      have HSN := Lib.hid hsn
      have HN := Lib.hid hn
      have HTM := Lib.hid htm
      have HSN2 := Lib.hid hsn2
      clear hh hR hlook hn htm hsn2 hsm hsn hx
      go_enter Try.func29, Try.ntmps29
      go_upto_region 6 with (first
        | (go_at_call 55; refine (within_is now _ _ HW).mono ?_; rintro e w3 ⟨rfl, hw3⟩; obtain rfl := hw3.symm)
        | (go_at_call 44; refine (fence_is a gn 0 h hs HF).mono ?_; rintro e w2 ⟨rfl, hb2⟩))
      have H2 := Lib.hid (h.out.below hb2)
      have c2 := H2.out.c2
      have hrun := HL.out w2 (hb2.block b (IsGrpAt.lt h.out.map))
      rw [HSN.out, HN.out, HTM.out, HSN2.out] at hrun
      obtain ⟨⟨b0, b1, b2, b3⟩, hb3⟩ := box_se (w := w2) (a := a) (A := A) (n := n) (c := c) (t := tm) (e := sn)
      have hr3 := heap_alloc_new w2 (.cells #[.string a, .slice A n c, .int .i64 tm, .int .i64 sn] 47)
      obtain ⟨H, hH⟩ : ∃ H, w2.heap.size = H := ⟨_, rfl⟩
      obtain ⟨W3, hW3⟩ : ∃ W, w2.alloc (.cells #[.string a, .slice A n c, .int .i64 tm, .int .i64 sn] 47) = W := ⟨_, rfl⟩
      rw [hW3] at b0 b1 b2 b3 hb3 hr3
      rw [hH] at b0 b1 b2 b3 hr3
      have f3 : W3.frozen? ⟨H, 3, none⟩ = false := frozen_of_row _ _ _ _ _ hr3
      obtain ⟨mx, hmx⟩ : ∃ mx, max sn now = mx := ⟨_, rfl⟩
      obtain ⟨W4, hW4⟩ : ∃ W4, W3.setCell ⟨H, 3, none⟩ (.int .i64 mx) = W4 := ⟨_, rfl⟩
      have hr4 : W4.heap[H]? = some (.cells #[.string a, .slice A n c, .int .i64 tm, .int .i64 mx] 47 (0, 0)) := hW4 ▸ heap_setCell_same _ _ _ _ _ _ hr3
      have hb4 : Below w2.heap.size w2 W4 := hW4 ▸ hb3.setCell (by rw [hH]; exact Nat.le_refl _) _
      have e0 : W4.cell? ⟨H, 0, none⟩ = some (.string a) := (cell_of_row _ _ 0 _ _ _ hr4).trans rfl
      have e1 : W4.cell? ⟨H, 1, none⟩ = some (.slice A n c) := (cell_of_row _ _ 1 _ _ _ hr4).trans rfl
      have e2 : W4.cell? ⟨H, 2, none⟩ = some (.int .i64 tm) := (cell_of_row _ _ 2 _ _ _ hr4).trans rfl
      have e3 : W4.cell? ⟨H, 3, none⟩ = some (.int .i64 mx) := (cell_of_row _ _ 3 _ _ _ hr4).trans rfl
      have hB4 : Below w.heap.size w W4 := hb2.trans (hb4.mono hb2.size)
      have hG4 := h.out.below (hB4.drew)
      have d2 : W4.cell? ⟨g, 2, none⟩ = some (.map (some b)) := hG4.c2
      obtain ⟨w', hrun4, hm4, ho4⟩ := IsGrpAt.store hG4.map (Q' := Q.map (beatS a now)) (by unfold maxLen; omega) ⟨s.m, s.tm, max s.sn now⟩ A n c HN.out (by show s.m.name.size ≤ _; rw [HSN.out]; exact hs.out) HR.out (fun y => by
        have := mem_beat GG.out.rise HSM.out now (y := y)
        rw [HSN.out] at this
        show _ ↔ _ ∨ (_ ∧ _ ≠ s.m.name)
        rw [HSN.out]
        exact this)
      dsimp only at hrun4
      rw [HSN.out, HTM.out, HSN2.out, hmx] at hrun4
      have HM4 := Lib.hid hm4
      have HO4 := Lib.hid ho4
      have HG4 := Lib.hid hG4
      have HB4 := Lib.hid hB4
      clear hm4 ho4 hG4 hB4 hb4 hr4 hr3 hb3 b1 b2 b0
      go_wp2_with fail
      go_region
      go_wp2_with fail
      go_ret
      refine ⟨rfl, ?_, ((Only.ofBelow HB4.out).drew).trans HO4.out (fun k hk => .inl hk)⟩
      unfold beatQ
      rw [if_pos rfl]
      exact HG4.out.turned HO4.out HM4.out
    · have HX0 := Lib.hid h0
      have e1 : (x == 0) = false := by simpa using h0
      clear h0
      go_enter Try.func29, Try.ntmps29
      go_wp2_with (first
        | (go_at_call 55; refine (within_is now _ _ HW).mono ?_; rintro e w3 ⟨rfl, hw3⟩; obtain rfl := hw3.symm)
        | (go_at_call 44; refine (fence_is a gn x h hs HF).mono ?_; rintro e w2 ⟨rfl, hb2⟩))
      go_ret
      exact BeatP.no HX0.out h.out hb2
/-- what lies between two rounds -/
structure LetI (R w w1 : World) (g b N : Nat) (G : Int) (r : Bool) (p : Se → Bool) (Q : List Se) (k n5 : Nat) (v : Value) (wr : World) : Prop where
  row : wr.heap[g]? = some (.cells #[.int .i64 G, .bool r, .map (some b)] 88 (0, 0))
  map : IsGrpAt R wr b N (leftQ p Q k)
  own : wr.ownsRow w1.heap.size 9 1 v n5 ((goneQ p (Q.take k)).map (fun x => .string x))
  len : (goneQ p (Q.take k)).length = n5
  only : Only [b] w1 wr
/-- what letting out leaves -/
def LetP (R w : World) (g b N : Nat) (G : Int) (r : Bool) (p : Se → Bool) (Q : List Se) (e : Ending) (w' : World) : Prop :=
  ∃ A n c, e = .returned (.slice A n c) ∧ (goneQ p Q).length = n ∧ w'.ownsRow w.heap.size 9 1 (.slice A n c) n ((goneQ p Q).map (fun x => .string x)) ∧ Gp R w' g b N (goneG p G Q) r (stayQ p Q) ∧ Only [g, b] w w'
set_option maxRecDepth 100000 in
set_option maxHeartbeats 4000000 in
theorem let_expire {R w : World} {g b N q m : Nat} {G : Int} {r : Bool} {Q : List Se} (p : Se → Bool) (u : Value) (h : Hid (Gp R w g b N G r Q)) (GG : Hid (GoodG G Q)) (hm : Hid (Q.length = m)) (hm8 : m ≤ 8) (hq : Hid (w.cell? ⟨q, 0, none⟩ = some u)) (hqb : Hid (q ≠ b))
    (HC : Hid (∀ (W : World) (s : Se) (A : Option Addr) (n c : Nat), W.cell? ⟨q, 0, none⟩ = some u → mayS s = true → Calls Try.prog 56 #[.agg #[.string s.m.name, .slice A n c, .int .i64 s.tm, .int .i64 s.sn], .pointer (some ⟨q, 0, none⟩)] W fun e w' => e = .returned (.bool (p s)) ∧ Below W.heap.size W w')) :
    Calls Try.prog 45 #[.pointer (some ⟨g, 0, none⟩), .func (.func 56) #[] #[.pointer (some ⟨q, 0, none⟩)]] w (LetP R w g b N G r p Q) := by
  obtain ⟨i0, hi0, hz0, hz1, hz2⟩ := info_parts strInfo
  have HR := Lib.hid GG.out.rise
  go_enter Try.func45, Try.ntmps45
  go_wp2_with (go_at_call 50; refine (names_is h HR hm hm8).mono ?_; rintro e w1 ⟨An, cn, rfl, hown, hb1⟩; have HROW := Lib.hid hown; have HB1 := Lib.hid hb1; clear hown hb1)
  have HG1 := Lib.hid (h.out.below HB1.out)
  have HQ1 : Hid (w1.cell? ⟨q, 0, none⟩ = some u) := Lib.hid (cell_b HB1.out hq.out)
  go_loopw [5, 11] (fun v i wr => ∃ (k n5 : Nat) (A5 : Option Addr) (c5 : Nat), k ≤ m ∧ n5 ≤ k ∧ i = .int .i64 k ∧ v = .slice A5 n5 c5 ∧ Hid (LetI R w w1 g b N G r p Q k n5 (.slice A5 n5 c5) wr)) (fun _ i _ => m - (intOf i).toNat)
  case atStart => exact ⟨0, 0, none, 0, Nat.zero_le _, Nat.le_refl _, rfl, rfl, Lib.hid ⟨HG1.out.row, by rw [left_zero]; exact HG1.out.map, World.ownsRow_nil _ _ _ _, rfl, Only.refl _ _⟩⟩
  case round =>
    obtain ⟨k, n5, A5, c5, hk, hn5, rfl, rfl, HI⟩ := hrel
    have c0 := (cell_of_row _ _ 0 _ _ _ HI.out.row).trans rfl
    have c2 := (cell_of_row _ _ 2 _ _ _ HI.out.row).trans rfl
    by_cases hlt : k < m
    · obtain ⟨s, hs⟩ : ∃ s, Q[k]? = some s := ⟨_, List.getElem?_eq_getElem (by rw [hm.out]; exact hlt)⟩
      have hmay := GG.out.may s (List.mem_of_getElem? hs)
      have hsz : s.m.name.size ≤ maxLen := by have := (mayS_fit hmay).1; unfold maxLen; omega
      have HSZ := Lib.hid hsz
      have HMAY := Lib.hid hmay
      obtain ⟨gn, rfl, hgn, hgnl, x0⟩ : ∃ gn, An = some ⟨gn, 0, none⟩ ∧ w.heap.size ≤ gn ∧ gn < w1.heap.size ∧ w1.cell? ⟨gn, k, none⟩ = some (.string s.m.name) := by
        rcases HROW.out.2 with ⟨_, e⟩ | ⟨gn, cap, cur, e, h1, hh, _⟩
        · omega
        · injection e with e1; subst e1
          have q := HROW.out.cells (g := gn) rfl k (.string s.m.name) (by rw [List.getElem?_map, List.getElem?_map, hs]; rfl)
          rw [Addr.add_lit, Nat.zero_add] at q
          exact ⟨gn, rfl, h1, (Array.getElem?_eq_some_iff.1 hh).1, q⟩
      have hblt : b < w.heap.size := (IsGrpAt.lt h.out.map)
      have x0 := HI.out.only.cell x0 (by show gn ∉ [b]; simp; omega)
      have xq := HI.out.only.cell HQ1.out (by show q ∉ [b]; simpa using hqb.out)
      obtain ⟨At, ct, hrt, hlook⟩ := HI.out.map.look (left_mem p hs) hsz
      obtain ⟨tn, htn⟩ : ∃ tn, s.m.ts.length = tn := ⟨_, rfl⟩
      have hrun := hlook wr rfl
      rw [htn] at hrun
      obtain ⟨pv, hpv⟩ : ∃ pv, p s = pv := ⟨_, rfl⟩
      have HCL := Lib.hid (HC.out wr s At tn ct xq hmay)
      have HST := Lib.hid hs
      have k0 : (0 : Int) ≤ (k : Int) := by omega
      have k1 : (k : Int) < (m : Int) := by omega
      have HPV := Lib.hid hpv
      have HGN := Lib.hid hgn
      have HBL := Lib.hid hblt
      clear hs hmay hsz hrt hlook htn xq hgn hgnl hblt hpv
      obtain ⟨nm, hnm⟩ : ∃ nm, s.m.name = nm := ⟨_, rfl⟩
      obtain ⟨tm, htm⟩ : ∃ nm, s.tm = nm := ⟨_, rfl⟩
      obtain ⟨sn, hsn⟩ : ∃ nm, s.sn = nm := ⟨_, rfl⟩
      have HCL2 := HCL.out
      rw [HPV.out, hnm, htm, hsn] at HCL2
      have HCL := Lib.hid HCL2
      rw [hnm, htm, hsn] at hrun
      rw [hnm] at x0 HSZ
      have HNM := Lib.hid hnm
      clear hnm htm hsn HCL2
      cases pv with
      | false =>
        go_wp2_with (go_at_call 56; refine HCL.out.mono ?_; rintro e w2 ⟨rfl, hb2⟩; have HB2 := Lib.hid hb2; clear hb2)
        have HIN : Hid (LetI R w w1 g b N G r p Q (k + 1) n5 (.slice A5 n5 c5) w2) := Lib.hid ⟨(HB2.out.block g (Array.getElem?_eq_some_iff.1 HI.out.row).1).trans HI.out.row, by
          rw [left_next p HST.out, HPV.out, if_neg (by simp)]
          exact HI.out.map.at (HB2.out.block b (Nat.lt_of_lt_of_le (Nat.lt_of_lt_of_le HBL.out HB1.out.size) HI.out.only.size)), by
          rw [gone_next p HST.out, HPV.out]
          simpa using own_below HI.out.own HB2.out, by rw [gone_next p HST.out, HPV.out]; simpa using HI.out.len, HI.out.only.trans (Only.ofBelow (S := [b]) HB2.out) (fun k hk => .inl hk)⟩
        go_roundw
        case rel => exact ⟨k + 1, n5, A5, c5, by omega, by omega, by go_num, rfl, HIN⟩
        case measure => simp [intOf]; omega
      | true =>
        obtain ⟨D, ho, hd⟩ := HI.out.map
        have HK := Lib.hid (keyS HSZ.out)
        have HO := Lib.hid ho
        have HD := Lib.hid hd
        clear ho hd
        go_wp2_with (first
          | (go_at_call 56; refine HCL.out.mono ?_; rintro e w2 ⟨rfl, hb2⟩; have y2 := cell_b hb2 c2; have HO2 : Hid (w2.ownsMap Try.prog 9 rdS b N D) := Lib.hid (by
              obtain ⟨es, cl, h1, h2⟩ := HO.out
              exact ⟨es, cl, (hb2.block b (Array.getElem?_eq_some_iff.1 h1).1).trans h1, h2⟩); have HB2 := Lib.hid hb2; clear hb2)
          | (at_delete; refine wpList_delete_own _ rfl _ _ 86 9 rfl 47 lawStr Try.underlying86 _ b N D rfl HO2.out _ _ rfl HK.out ?_; intro w3 hown3 hturn3; have HO3 := Lib.hid hown3; have HT3 : Hid (Only [b] w2 w3) := Lib.hid (Only.ofGrown hturn3.grown); have HR3 : Hid (w3.ownsRow w1.heap.size 9 1 (.slice A5 n5 c5) n5 ((goneQ p (Q.take k)).map (fun x => .string x))) := Lib.hid (own_at (own_below HI.out.own HB2.out) (fun j hj => HT3.out.block j ((own_below HI.out.own HB2.out).lt j hj).2 (by have := (HI.out.own.lt j hj).1; have := HB1.out.size; have := HBL.out; simp; omega))); clear hown3 hturn3)
          | (at_builtin; refine wpList_append_own _ rfl _ _ 38 rfl w1.heap.size 9 i0 _ 1 16 Try.underlying38 hi0 hz0 hz1 hz2 rfl (by decide) _ _ _ rfl (HR3.out.alloc _) ⟨w3.heap.size, 0, none⟩ 1 1 [.string nm] rfl rfl (cell_one_new _ _ _) (by simp [Value.oneCell']) (by unfold maxLen; omega) (by omega) (by have := HI.out.only.size; have := HB2.out.size; have := HT3.out.size; simp; omega) ?_; intro v' w4 hown' hgrow _))
        obtain ⟨A6, c6, rfl⟩ := own_len hown'
        have HW4 : Hid (Only [b] w1 w4 ∧ w4.heap[b]? = w3.heap[b]? ∧ w4.heap[g]? = w3.heap[g]?) := by
          have hb3 : b < w3.heap.size := by have := HBL.out; have := HB1.out.size; have := HI.out.only.size; have := HB2.out.size; have := HT3.out.size; omega
          have hg3 : g < w3.heap.size := by have := h.out.lt; have := HB1.out.size; have := HI.out.only.size; have := HB2.out.size; have := HT3.out.size; omega
          have o3 : Only [b] w1 w3 := (HI.out.only.trans (Only.ofBelow (S := [b]) HB2.out) (fun k hk => .inl hk)).trans HT3.out (fun k hk => .inl hk)
          have hlt3 : ∀ j, (Value.slice A5 n5 c5).ownBlock = some j → w1.heap.size ≤ j := fun j hj => (HR3.out.lt j hj).1
          refine Lib.hid ⟨(o3.alloc _).grown hgrow (fun j hj => .inr (hlt3 j hj)), ?_, ?_⟩
          · refine (hgrow.block b (by simp; omega) (fun e => ?_)).trans ((one_box' _).block b hb3)
            have := hlt3 b e.symm; have := HBL.out; have := HB1.out.size; omega
          · refine (hgrow.block g (by simp; omega) (fun e => ?_)).trans ((one_box' _).block g hg3)
            have := hlt3 g e.symm; have := h.out.lt; have := HB1.out.size; omega
        have HIN : Hid (LetI R w w1 g b N G r p Q (k + 1) (n5 + 1) (.slice A6 (n5 + 1) c6) w4) := Lib.hid ⟨HW4.out.2.2.trans ((HT3.out.block g (by have := h.out.lt; have := HB1.out.size; have := HI.out.only.size; have := HB2.out.size; omega) (by simpa using h.out.gb)).trans ((HB2.out.block g (Array.getElem?_eq_some_iff.1 HI.out.row).1).trans HI.out.row)), by
          rw [left_next p HST.out, HPV.out, if_pos rfl]
          have q : IsGrpAt R w3 b N (stayQ p (Q.take k) ++ Q.drop (k + 1)) := ⟨_, HO3.out, by
            have := HD.out.del (Q' := stayQ p (Q.take k) ++ Q.drop (k + 1)) nm (fun x => by rw [← HNM.out]; exact left_del p HR.out HST.out)
            exact this⟩
          exact q.at HW4.out.2.1, by
          rw [gone_next p HST.out, HPV.out, if_pos rfl, List.map_append, HNM.out]
          exact hown', by rw [gone_next p HST.out, HPV.out, if_pos rfl, List.length_append, HI.out.len]; rfl, HW4.out.1⟩
        clear hown' hgrow
        go_roundw
        case rel => exact ⟨k + 1, n5 + 1, A6, c6, by omega, by omega, by go_num, rfl, HIN⟩
        case measure => simp [intOf]; omega
    · obtain rfl : k = m := by omega
      have hown := HI.out.own
      have HLEN : Hid ((goneQ p Q).length = n5) := Lib.hid (by have := HI.out.len; rwa [gone_all p Q hm.out] at this)
      have HOWN : Hid (wr.ownsRow w.heap.size 9 1 (.slice A5 n5 c5) n5 ((goneQ p Q).map (fun x => .string x))) := Lib.hid (by rw [gone_all p Q hm.out] at hown; exact own_base hown HB1.out.size)
      have hgp : Gp R wr g b N G r (stayQ p Q) := ⟨HI.out.row, by
        have q := HI.out.map
        rw [left_all p Q hm.out] at q
        exact q⟩
      have HOB : Hid (Only [g, b] w wr) := Lib.hid ((Only.ofBelow HB1.out).trans HI.out.only (fun k hk => .inl (by simp at hk; simp [hk])))
      have f0 := hgp.froz 0
      have HGP := Lib.hid hgp
      clear hown hgp
      by_cases h0 : 0 < n5
      · have q0 : (0 : Int) < (n5 : Int) := by omega
        have g2 : wrap64 (G + 1) = G + 1 := by have := GG.out.gen; simp only [wrap64]; omega
        have HGO : Hid (goneG p G Q = min (G + 1) 1099511627776) := Lib.hid (by unfold goneG upG; rw [HLEN.out, if_neg (by omega)])
        obtain ⟨G2, hG2⟩ : ∃ G2, min (G + 1) 1099511627776 = G2 := ⟨_, rfl⟩
        have HG2 := Lib.hid hG2
        obtain ⟨W5, hW5⟩ : ∃ W5, wr.setCell ⟨g, 0, none⟩ (.int .i64 G2) = W5 := ⟨_, rfl⟩
        have HW5 := Lib.hid hW5
        have n5n : ¬ n5 = 0 := by omega
        go_wp2_with fail
        go_ret
        refine ⟨A5, n5, c5, rfl, HLEN.out, ?_, ?_, ?_⟩
        · rw [← HW5.out]
          exact own_at HOWN.out (fun j hj => Below.heap_setCell _ _ _ _ (fun e => by
            have e' : j = g := e
            have := (HOWN.out.lt j hj).1; have := h.out.lt; omega))
        · rw [HGO.out, HG2.out, ← HW5.out]
          exact HGP.out.setGen G2
        · rw [← HW5.out]
          exact HOB.out.setCell (.inl (by simp)) _
      · have q0 : ¬ (0 : Int) < (n5 : Int) := by omega
        obtain rfl : n5 = 0 := by omega
        go_wp2_with fail
        go_ret
        exact ⟨A5, 0, c5, rfl, HLEN.out, HOWN.out, by
          have : goneG p G Q = G := by unfold goneG; rw [HLEN.out, if_pos rfl]
          rw [this]; exact HGP.out, HOB.out⟩
set_option maxRecDepth 100000 in
set_option maxHeartbeats 2000000 in
theorem expire_is {R w : World} {g b N : Nat} {G : Int} {r : Bool} {Q : List Se} (now : Int) (h : Hid (Gp R w g b N G r Q)) (GG : Hid (GoodG G Q)) :
    Calls Try.prog 30 #[.pointer (some ⟨g, 0, none⟩), .int .i64 now] w (LetP R w g b N G r (lateB now) Q) := by
  have b0 := one_int (w := w) (a := now)
  have hb := one_box' (w := w) (.cells #[.int .i64 now] 3)
  obtain ⟨W, hW⟩ : ∃ W, w.alloc (.cells #[.int .i64 now] 3) = W := ⟨_, rfl⟩
  obtain ⟨H, hH⟩ : ∃ H, w.heap.size = H := ⟨_, rfl⟩
  rw [hW] at b0 hb
  rw [hH] at b0
  have HB := Lib.hid hb
  have HB0 := Lib.hid b0
  have HH := Lib.hid hH
  have H1 := Lib.hid (h.out.below hb)
  have HW := Lib.hid hW
  have HHB : Hid (H ≠ b) := Lib.hid (by have := (IsGrpAt.lt h.out.map); omega)
  clear hb hW hH
  obtain ⟨m, hm⟩ : ∃ m, Q.length = m := ⟨_, rfl⟩
  have HM := Lib.hid hm
  have hm8 : m ≤ 8 := by have := GG.out.len; omega
  clear hm b0
  go_enter Try.func30, Try.ntmps30
  go_wp2_with (first
    | (rw [HW.out, HH.out])
    | (go_at_call 45; refine (let_expire (lateB now) _ H1 GG HM hm8 HB0 HHB (Lib.hid (fun W' s A n c hq hm => expire1_is H now W' s A n c hq hm))).mono ?_; rintro e w3 ⟨A3, n3, c3, rfl, hl3, ho3, hg3, hon3⟩; have HG3 := Lib.hid hg3; have HON := Lib.hid ((Only.ofBelow HB.out).trans hon3 (fun k hk => .inl hk)); have HL3 := Lib.hid hl3; have HO3 := Lib.hid ho3; clear hl3 ho3 hg3 hon3))
  go_ret
  exact ⟨A3, n3, c3, rfl, HL3.out, own_base HO3.out HB.out.size, HG3.out, HON.out⟩
/-- a group of a law's own, whose seats' topics are as another world has them -/
structure GA (R W w : World) (g b N : Nat) (G : Int) (r : Bool) (Q : List Se) : Prop where
  gp : Gp R w g b N G r Q
  good : GoodG G Q
  hg : W.heap.size ≤ g
  hb : W.heap.size ≤ b
  bel : Below W.heap.size W w
section
variable {R W w w' : World} {g b N N' : Nat} {G G' : Int} {r r' : Bool} {Q Q' : List Se}
theorem GA.of (h : GM W w g b N G r Q) : GA w W w g b N G r Q := ⟨.of h.gp, h.good, h.hg, h.hb, h.bel⟩
theorem GA.to (h : GA R W w g b N G r Q) (k : KpS R w) : GM W w g b N G r Q := ⟨h.gp.to k, h.good, h.hg, h.hb, h.bel⟩
theorem GA.below (h : GA R W w g b N G r Q) (hb : Below w.heap.size w w') : GA R W w' g b N G r Q := ⟨h.gp.below hb, h.good, h.hg, h.hb, h.bel.trans (hb.mono h.bel.size)⟩
theorem GA.kept (h : GA R W w g b N G r Q) (hb : Below W.heap.size w w') (h1 : w'.heap[g]? = w.heap[g]?) (h2 : w'.heap[b]? = w.heap[b]?) : GA R W w' g b N G r Q := ⟨h.gp.kept h1 h2, h.good, h.hg, h.hb, h.bel.trans hb⟩
theorem GA.lt (h : GA R W w g b N G r Q) : g < w.heap.size ∧ b < w.heap.size := ⟨h.gp.lt, IsGrpAt.lt h.gp.map⟩
theorem GA.turn (h : GA R W w g b N G r Q) (hg : Gp R w' g b N' G' r' Q') (hq : GoodG G' Q') (o : Only [g, b] w w') : GA R W w' g b N' G' r' Q' :=
  ⟨hg, hq, h.hg, h.hb, h.bel.trans (o.below h.bel.size (fun k hk => by
    rcases List.mem_cons.1 hk with rfl | hk
    · exact h.hg
    · rw [show k = b by simpa using hk]; exact h.hb))⟩
theorem m_beat (a : ByteArray) (gn now x : Int) (h : Hid (GA R W w g b N G r Q)) (hN : N ≤ 1000000) (hs : Hid (a.size ≤ maxLen)) (HX : Hid (beatE G Q a gn now = x)) :
    Calls Try.prog 29 #[.pointer (some ⟨g, 0, none⟩), .string a, .int .i64 gn, .int .i64 now] w fun e w' => e = .returned (.int .i64 x) ∧ GA R W w' g b (N + 1) G r (beatQ Q a now x) ∧ Only [g, b] w w' :=
  (beat_is a gn now x (Lib.hid h.out.gp) (Lib.hid h.out.good) hN hs HX).mono fun _ _ ⟨he, h1, h2⟩ => ⟨he, h.out.turn h1 (good_beat h.out.good HX.out) (only_gb h2), only_gb h2⟩
theorem m_expire (now : Int) (L : List ByteArray) (n : Nat) (h : Hid (GA R W w g b N G r Q)) (HL : Hid (goneQ (lateB now) Q = L)) (HN : Hid (L.length = n)) :
    Calls Try.prog 30 #[.pointer (some ⟨g, 0, none⟩), .int .i64 now] w fun e w' => ∃ A c, e = .returned (.slice A n c) ∧ RowT w' A c L ∧ (∀ k ∈ bk A, w.heap.size ≤ k) ∧ GA R W w' g b N (goneG (lateB now) G Q) r (stayQ (lateB now) Q) ∧ Only [g, b] w w' :=
  (expire_is now (Lib.hid h.out.gp) (Lib.hid h.out.good)).mono fun _ _ ⟨A, n', c, he, h0, h1, h2, h3⟩ => by
    obtain rfl : n' = n := by rw [← h0, HL.out, HN.out]
    refine ⟨A, c, he, ?_, fun k hk => (own_bk h1 k hk).choose_spec.1, h.out.turn h2 (good_gone h.out.good _) h3, h3⟩
    rw [← HL.out]
    exact RowT.own h1 h0
end
end Go.Proofs.Ytidgifnnkaheeaa.L11.At
