/-
  A table whose rows of batches lie apart from some blocks: through Open and Done.
-/
import Derived.Test.YtcmlopflandlgaaDdLaw
namespace Go.Proofs.Ytcmlopflandlgaa.L8
open Go.RowKit
open Go.Maps
open L3 L4

/-- a block is the map of these, whose rows lie elsewhere -/
def IsTabX (X : Nat → Prop) (w : World) (b N : Nat) (ms : List Mk) : Prop :=
  ∃ D, w.ownsMap Try.prog 72 rd b N D ∧ (∀ kl, Maps.has D kl = true ↔ ∃ m ∈ ms, m.k = kl) ∧ ∀ m ∈ ms, ∃ A c, (∀ z, D.atKey m.k z = .held (.slice A m.l.length c)) ∧ RowC w A c m.l ∧ ∀ a, A = some a → ¬ X a.block
section
variable {X : Nat → Prop} {w w' : World} {g cap b N : Nat} {A : Option Addr} {es : List Int} {ms ms' : List Mk}
theorem IsTabX.t (h : IsTabX X w b N ms) : IsTab w b N ms := by
  obtain ⟨D, h1, h2, h3⟩ := h
  refine ⟨D, h1, h2, fun m hm => ?_⟩
  obtain ⟨A, c, ha, hR, _⟩ := h3 m hm
  exact ⟨A, c, ha, hR⟩
theorem IsTabX.of (h : IsTab w b N []) : IsTabX X w b N [] := by
  obtain ⟨D, h1, h2, h3⟩ := h
  exact ⟨D, h1, h2, fun m hm => by cases hm⟩
theorem IsTabX.fresh (h : IsTab w b N ms) (hl : ∀ m ∈ ms, 0 < m.l.length) (hX : ∀ k, X k → w.heap.size ≤ k) : IsTabX X w b N ms := by
  obtain ⟨D, h1, h2, h3⟩ := h
  refine ⟨D, h1, h2, fun m hm => ?_⟩
  obtain ⟨A, c, ha, hR⟩ := h3 m hm
  refine ⟨A, c, ha, hR, fun a e hx => ?_⟩
  obtain ⟨g, o, cs, fr, e', hg, _⟩ := hR.1 (hl m hm)
  rw [e'] at e; injection e with e; subst e
  have := hX _ hx
  have := (Array.getElem?_eq_some_iff.1 hg).1
  simp at *; omega
theorem IsTabX.more (h : IsTabX X w b N ms) (hl : ∀ m ∈ ms, 0 < m.l.length) : IsTabX (fun k => X k ∨ w.heap.size ≤ k) w b N ms := by
  obtain ⟨D, h1, h2, h3⟩ := h
  refine ⟨D, h1, h2, fun m hm => ?_⟩
  obtain ⟨A, c, ha, hR, hA⟩ := h3 m hm
  refine ⟨A, c, ha, hR, fun a e hx => ?_⟩
  rcases hx with hx | hx
  · exact hA a e hx
  · obtain ⟨g, o, cs, fr, e', hg, _⟩ := hR.1 (hl m hm)
    rw [e'] at e; injection e with e; subst e
    have := (Array.getElem?_eq_some_iff.1 hg).1
    simp at *; omega
theorem IsTabX.less {X' : Nat → Prop} (h : IsTabX X w b N ms) (hX : ∀ k, X' k → X k) : IsTabX X' w b N ms := by
  obtain ⟨D, h1, h2, h3⟩ := h
  refine ⟨D, h1, h2, fun m hm => ?_⟩
  obtain ⟨A, c, ha, hR, hA⟩ := h3 m hm
  exact ⟨A, c, ha, hR, fun a e hx => hA a e (hX _ hx)⟩
theorem RowC.keptx {A : Option Addr} {c : Nat} {l : List Did} (h : RowC w A c l) (hA : ∀ a, A = some a → ¬ X a.block) (hk : ∀ (k : Nat) (cs : Array Value) (fr : Nat × Nat), ¬ X k → w.heap[k]? = some (.cells cs 50 fr) → w'.heap[k]? = w.heap[k]?) : RowC w' A c l := by
  refine ⟨fun h0 => ?_, h.2⟩
  obtain ⟨g, o, cs, fr, e, hg, hc⟩ := h.1 h0
  have hb := hk g cs fr (hA _ e) hg
  refine ⟨g, o, cs, fr, e, hb.trans hg, fun i d hd => ?_⟩
  obtain ⟨c0, c1, c2⟩ := hc i d hd
  exact ⟨(World.cell?_of_block (w := w) hb).trans c0, (World.cell?_of_block (w := w) hb).trans c1, (World.cell?_of_block (w := w) hb).trans c2⟩
theorem IsTabX.kept (h : IsTabX X w b N ms) (hb : w'.heap[b]? = w.heap[b]?) (hk : ∀ (k : Nat) (cs : Array Value) (fr : Nat × Nat), ¬ X k → w.heap[k]? = some (.cells cs 50 fr) → w'.heap[k]? = w.heap[k]?) : IsTabX X w' b N ms := by
  obtain ⟨D, ⟨es, c, h1, h2⟩, hh, hr⟩ := h
  refine ⟨D, ⟨es, c, hb.trans h1, h2⟩, hh, fun m hm => ?_⟩
  obtain ⟨A, c, ha, hR, hA⟩ := hr m hm
  exact ⟨A, c, ha, hR.keptx hA hk, hA⟩
theorem IsTabX.below (h : IsTabX X w b N ms) (hb : Below w.heap.size w w') : IsTabX X w' b N ms :=
  h.kept (hb.block b h.t.lt) (fun k _ _ _ hk => hb.block k (Array.getElem?_eq_some_iff.1 hk).1)
theorem IsTabX.mono (h : IsTabX X w b N ms) {N' : Nat} (hN : N ≤ N') : IsTabX X w b N' ms := by
  obtain ⟨D, h1, h2⟩ := h
  exact ⟨D, h1.mono hN, h2⟩
/-- behind a store -/
theorem IsTabX.store (h : IsTabX X w b N ms) (hN : N < maxLen) (hK : Keys ms) (m : Mk) (hi : (Lit.int .i64 m.id).wf = true) (ht : m.t.size ≤ maxLen) (hp : (Lit.int .i64 m.p).wf = true) (X0 : Option Addr) (hXX : ∀ a, X0 = some a → ¬ X a.block) (n c : Nat) (hn : n = m.l.length) (hR : RowC w X0 c m.l)
    (hm' : ∀ x, x ∈ ms' ↔ x = m ∨ (x ∈ ms ∧ ¬ Same x m)) (T E : TypeId) (hT : Try.prog.underlying T = some (.map 72 E)) :
    ∃ w', (Instr.mapUpdate T (.map (some b)) (.agg #[.int .i64 m.id, .string m.t, .int .i64 m.p]) (.slice X0 n c)).run Try.prog w = .ok () w' ∧ IsTabX X w' b (N + 1) ms' ∧ w.mapTurned w' b := by
  subst hn
  obtain ⟨D, ho, hh, hr⟩ := h
  obtain ⟨w', hrun, ho', ht'⟩ := ho.store lawSpot hT hN (keyOf_spot hi ht hp) (show rd (.slice X0 m.l.length c) = some (.held (.slice X0 m.l.length c), []) from rfl)
  have hk : ∀ (k : Nat) (cs : Array Value) (fr : Nat × Nat), w.heap[k]? = some (.cells cs 50 fr) → w'.heap[k]? = w.heap[k]? := fun k cs fr hk =>
    ht'.grown.block k (Array.getElem?_eq_some_iff.1 hk).1 (fun e => by
      injection e with e; subst e
      obtain ⟨es, c, hb, _⟩ := ho
      rw [hb] at hk; cases hk)
  refine ⟨w', hrun, ⟨_, ho', fun kl => ?_, fun x hx => ?_⟩, ht'⟩
  · by_cases e : kl = m.k
    · subst e
      rw [show kLit m.id m.t m.p = m.k from rfl, has_put_same (k := m.k) ho.isMap (isKey_lit _ _ _)]
      exact ⟨fun _ => ⟨m, (hm' m).2 (.inl rfl), rfl⟩, fun _ => rfl⟩
    · rw [has_put_other (show kl ≠ kLit m.id m.t m.p from e), hh]
      constructor
      · rintro ⟨x, hx, rfl⟩
        exact ⟨x, (hm' x).2 (.inr ⟨hx, fun q => e (by unfold Mk.k; rw [q.1, q.2.1, q.2.2])⟩), rfl⟩
      · rintro ⟨x, hx, rfl⟩
        rcases (hm' x).1 hx with rfl | ⟨hx, _⟩
        · exact absurd rfl e
        · exact ⟨x, hx, rfl⟩
  · rcases (hm' x).1 hx with rfl | ⟨hx, hn⟩
    · exact ⟨X0, c, fun z => atKey_put_same ho.isMap (isKey_lit _ _ _) _ z, hR.kept hk, hXX⟩
    · obtain ⟨A', c', ha, hR', hA'⟩ := hr x hx
      have e : x.k ≠ kLit m.id m.t m.p := fun e => hn (kLit_inj (hK x hx).1 (hK x hx).2.1 (hK x hx).2.2 hi ht hp e)
      exact ⟨A', c', fun z => by rw [atKey_put_other e]; exact ha z, hR'.kept hk, hA'⟩
/-- a table whose rows lie elsewhere -/
structure TabX (X : Nat → Prop) (w : World) (g : Nat) (A : Option Addr) (cap b N : Nat) (es : List Int) (ms : List Mk) : Prop where
  t : Tab w g A cap b N es ms
  mapx : IsTabX X w b N ms
theorem TabX.below (h : TabX X w g A cap b N es ms) (hb : Below w.heap.size w w') : TabX X w' g A cap b N es ms := ⟨h.t.below hb, h.mapx.below hb⟩
theorem TabX.turned (h : TabX X w g A cap b N es ms) {N' : Nat} (hg : w.grownBy w' (some b)) (hm : IsTabX X w' b N' ms') : TabX X w' g A cap b N' es ms' := ⟨h.t.turned hg hm.t, hm⟩
theorem apart8 {W V w4 : World} {A4 : Option Addr} {n c : Nat} {T : TypeId} {s : Nat} {xs : List Value} {W3 : World} (ho : w4.ownsRow V.heap.size T s (.slice A4 n c) n xs) (h1 : W3.heap.size ≤ V.heap.size) (h2 : W.heap.size ≤ W3.heap.size) : ∀ a, A4 = some a → ¬ a.block < W.heap.size := fun a e hlt => by
  subst e
  have := (own_bk ho a.block (by simp [bk]))
  obtain ⟨_, h, _⟩ := this
  omega
theorem store_run8x (h : IsTabX X w b N ms) (hN : N < maxLen) (hK : Keys ms) (m : Mk) (hi : (Lit.int .i64 m.id).wf = true) (ht : m.t.size ≤ maxLen) (hp : (Lit.int .i64 m.p).wf = true) (X0 : Option Addr) (hXX : ∀ a, X0 = some a → ¬ X a.block) (n c : Nat) (hn : n = m.l.length) (hR : RowC w X0 c m.l)
    (hm' : ∀ x, x ∈ ms' ↔ x = m ∨ (x ∈ ms ∧ ¬ Same x m)) :
    ∃ U : World → World, ∀ W', Below w.heap.size w W' → (Instr.mapUpdate 63 (.map (some b)) (.agg #[.int .i64 m.id, .string m.t, .int .i64 m.p]) (.slice X0 n c)).run Try.prog W' = .ok () (U W') ∧ IsTabX X (U W') b (N + 1) ms' ∧ W'.mapTurned (U W') b := by
  refine Classical.axiomOfChoice (r := fun (W' w' : World) => Below w.heap.size w W' → (Instr.mapUpdate 63 (.map (some b)) (.agg #[.int .i64 m.id, .string m.t, .int .i64 m.p]) (.slice X0 n c)).run Try.prog W' = .ok () w' ∧ IsTabX X w' b (N + 1) ms' ∧ W'.mapTurned w' b) (fun W' => ?_)
  by_cases hB : Below w.heap.size w W'
  · obtain ⟨w', h1, h2, h3⟩ := (h.below hB).store hN hK m hi ht hp X0 hXX n c hn (hR.below hB) hm' _ _ Try.underlying63
    exact ⟨w', fun _ => ⟨h1, h2, h3⟩⟩
  · exact ⟨W', fun q => absurd q hB⟩
end
set_option maxRecDepth 100000 in
set_option maxHeartbeats 4000000 in
theorem keep_isx {X : Nat → Prop} {w : World} {g cap b N : Nat} {A : Option Addr} {es : List Int} {ms ms' : List Mk} (id ep p : Int) (t : ByteArray) (X0 : Option Addr) (n c : Nat) (l : List Did) (h : Hid (TabX X w g A cap b N es ms)) (hN : N ≤ 1000000) (hK : Hid (Keys ms)) (hi : (Lit.int .i64 id).wf = true) (ht : t.size ≤ 281474976710656) (hp : (Lit.int .i64 p).wf = true)
    (hn : Hid (n = l.length)) (hR : Hid (RowC w X0 c l)) (hXX : Hid (∀ a, X0 = some a → ¬ X a.block)) (hm' : Hid (∀ x, x ∈ ms' ↔ x = ⟨id, ep, t, p, l⟩ ∨ (x ∈ ms ∧ ¬ Same x ⟨id, ep, t, p, l⟩))) :
    Calls Try.prog 32 #[.pointer (some ⟨g, 0, none⟩), .int .i64 id, .agg #[.string t, .int .i64 p], .slice X0 n c] w fun e w' => e = .returned (.tuple #[]) ∧ TabX X w' g A cap b (N + 1) es ms' ∧ Only [b] w w' := by
  have HI := Lib.hid hi
  have HP := Lib.hid hp
  clear hi hp
  go_enter Try.func32, Try.ntmps32
  go_wp2_with (go_at_call 45; refine (clone_any t _ ht).mono ?_; rintro e w1 ⟨rfl, hb1⟩; obtain ⟨r1, f0, d0⟩ := part_box hb1 (by simp); have R1 := Lib.hid r1; clear r1; have HB1 := Lib.hid hb1; clear hb1)
  obtain ⟨W1, hW1⟩ : ∃ W1, w1.setCell ⟨w.heap.size, 0, none⟩ (.string t) = W1 := ⟨_, rfl⟩
  have r2 := heap_setCell_same w1 w.heap.size 0 _ _ (.string t) R1.out
  have hb2 : Below w.heap.size w (w1.setCell ⟨w.heap.size, 0, none⟩ (.string t)) := ((one_box' _).trans (HB1.out.mono (by simp))).setCell (Nat.le_refl _) _
  rw [hW1] at r2 hb2 ⊢
  have k0 : W1.cell? ⟨w.heap.size, 0, none⟩ = some (.string t) := (cell_of_row _ _ 0 _ _ _ r2).trans rfl
  have k1 : W1.cell? ⟨w.heap.size, 1, none⟩ = some (.int .i64 p) := (cell_of_row _ _ 1 _ _ _ r2).trans rfl
  have HT := Lib.hid (h.out.below hb2)
  have c1 := HT.out.t.c1
  obtain ⟨U, hU⟩ := store_run8x (X := X) (ms' := ms') HT.out.mapx (by unfold maxLen; omega) hK.out ⟨id, ep, t, p, l⟩ HI.out (by show t.size ≤ maxLen; unfold maxLen; omega) HP.out X0 hXX.out n c hn.out (hR.out.below hb2) hm'.out
  have HU := Lib.hid hU
  have HB2 := Lib.hid hb2
  have hb0 : ∀ q, Below W1.heap.size W1 (W1.drewN q) := fun q => drewN_below (Below.refl _ _) q
  have u1 := (hU W1.drew (hb0 1)).1
  have u2 := (hU W1.drew.drew (hb0 2)).1
  have u3 := (hU W1.drew.drew.drew (hb0 3)).1
  dsimp only at u1 u2 u3
  clear hU r2 hW1 hb2 hb0 d0 f0
  go_region
  go_end0
  have fin : ∀ W', Below W1.heap.size W1 W' → TabX X (U W') g A cap b (N + 1) es ms' ∧ Only [b] w (U W') := fun W' hb => by
    obtain ⟨_, q2, q3⟩ := HU.out W' hb
    exact ⟨(HT.out.below hb).turned q3.grown q2, (Only.ofBelow (HB2.out.trans (hb.mono HB2.out.size))).grown q3.grown (fun k e => .inl (by injection e with e; simp [e]))⟩
  first
    | exact ⟨rfl, fin _ (drewN_below (Below.refl _ _) 1)⟩
    | exact ⟨rfl, fin _ (drewN_below (Below.refl _ _) 2)⟩
    | exact ⟨rfl, fin _ (drewN_below (Below.refl _ _) 3)⟩
set_option maxRecDepth 100000 in
set_option maxHeartbeats 4000000 in
theorem done_putx {X : Nat → Prop} {w : World} {g cap b N : Nat} {A : Option Addr} {es : List Int} {ms : List Mk} (t : ByteArray) (p pr ep sq off : Int) (R : Option Addr) (n rc L : Nat) (l : List Did) (h : Hid (TabX X w g A cap b N es ms)) (G : Hid (Good es ms)) (ht : t.size ≤ 281474976710656) (hp : Hid ((Lit.int .i64 p).wf = true)) (hpr : Hid (1 ≤ pr ∧ pr ≤ 32))
    (HA : Hid (askP es ms t p pr ep sq n = (0, false, 0))) (hn0 : 0 < n) (hoff : Hid (numB8 off = true)) (Hl : Hid (lastOf ms pr t p = l)) (HL : Hid (l.length = L)) (hN : N ≤ 100000) (hXW : Hid (∀ k, X k → k < w.heap.size)) :
    Calls Try.prog 13 #[.pointer (some ⟨g, 0, none⟩), .agg #[.string t, .int .i64 p], .agg #[.int .i64 pr, .int .i64 ep, .int .i64 sq, .slice R n rc], .int .i64 off] w fun e w' => e = .returned (.int .i64 0) ∧ TabX X w' g A cap b (N + 1) es (putM ⟨pr, ep, t, p, push l ⟨sq, n, off⟩⟩ false ms) ∧ Only [b] w w' := by
  have HI : Hid ((Lit.int .i64 pr).wf = true) := Lib.hid (num_wf (by have := hpr.out; omega) (by have := hpr.out; omega))
  have HT0 : Hid (t.size ≤ maxLen) := Lib.hid (by unfold maxLen; omega)
  have HL5 : Hid (L ≤ 5) := Lib.hid (by rw [← HL.out, ← Hl.out]; exact G.out.last_len _ _ _)
  obtain ⟨W, hW⟩ : ∃ W, (w.alloc (.cells #[.string t, .int .i64 p] 31)).alloc (.cells #[.int .i64 pr, .int .i64 ep, .int .i64 sq, .slice R n rc] 34) = W := ⟨_, rfl⟩
  have HW := Lib.hid hW
  obtain ⟨hbW, _⟩ := done_boxes hW (Below.refl _ _)
  have HT := Lib.hid (h.out.below hbW)
  clear hW hbW
  have i0 : (pr == 0) = false := by simpa using (by have := hpr.out; omega : pr ≠ 0)
  have n0 : ((n : Int) == 0) = false := by simpa using (by omega : (n : Int) ≠ 0)
  go_enter Try.func13, Try.ntmps13
  go_upto_region 10 with (first
    | (go_at_call 11; rw [HW.out]; refine (ask_is t p pr ep sq 0 0 false R n rc (Lib.hid HT.out.t) G HT0.out hp HA).mono ?_; rintro e w1 ⟨rfl, hb1⟩; obtain ⟨B1, ⟨k0, k1⟩, k2, k3, k4⟩ := done_boxes HW.out hb1; have HB1 := Lib.hid hb1; clear hb1)
    | (go_at_call 31; refine (within_is off true _ hoff).mono ?_; rintro e w2 ⟨rfl, rfl⟩))
  have HBW1 := Lib.hid B1
  have HT1 := Lib.hid (h.out.below B1)
  have c1 := HT1.out.t.c1
  obtain ⟨Xa, c, ⟨hR, hLC⟩, hXn, hXl, hlook⟩ := IsTab.look2 G.out HT1.out.t.map HI.out HT0.out hp.out
  rw [Hl.out] at hR hXl hLC
  rw [HL.out] at hLC
  rw [Hl.out, HL.out] at hlook
  have hb0 : ∀ q, Below w1.heap.size w1 (w1.drewN q) := fun q => drewN_below (Below.refl _ _) q
  have u1 := hlook w1.drew (hb0 1)
  have u2 := hlook w1.drew.drew (hb0 2)
  have u3 := hlook w1.drew.drew.drew (hb0 3)
  go_region
  obtain ⟨W2, hW2⟩ : ∃ W2, w1.drew = W2 := ⟨_, rfl⟩
  have b2 : Below w1.heap.size w1 W2 := by rw [← hW2]; exact hb0 1
  have q0 := cell_at b2 k0; have q1 := cell_at b2 k1; have q2 := cell_at b2 k2; have q3 := cell_at b2 k3; have q4 := cell_at b2 k4
  have HB2 : Hid (Below w.heap.size w W2) := Lib.hid (HBW1.out.trans (b2.mono HBW1.out.size))
  have HT2 := Lib.hid (HT1.out.below b2)
  have HR := Lib.hid (hR.below b2)
  have HXN := Lib.hid hXn
  have HXL := Lib.hid hXl
  rw [hW2]
  have hL5 := HL5.out
  clear u1 u2 u3 k0 k1 k2 k3 k4 c1 hb0 hlook hR hXn hXl hW2 b2 B1 HB1 i0 n0
  go_upto_region 11 with (fail)
  go_cut [13] (fun sv wc => ∃ (X' : Option Addr) (c' : Nat), sv = .slice X' (L - (L + 1 - 5)) c' ∧ Hid ((X' = none → c' = 0) ∧ RowD W2 X' (l.drop (L + 1 - 5))) ∧ W2 = wc)
  case first =>
    by_cases z0 : L = 0
    · have hl : l = [] := List.eq_nil_of_length_eq_zero (HL.out.trans z0)
      obtain rfl : Xa = none := HXL.out hl
      obtain rfl : c = 0 := HXN.out rfl
      subst z0
      go_wp2_with fail
      go_meet
      exact ⟨none, 0, rfl, Lib.hid ⟨fun _ => rfl, by rw [hl]; exact rowD_nil _ _⟩, rfl⟩
    · obtain ⟨g1, o1, cs, fr, rfl, hg1, _⟩ := HR.out (by rw [HL.out]; omega)
      by_cases z5 : L = 5
      · subst z5
        have hd := HR.out.drop 1
        go_wp2_with fail
        all_goals
          go_meet
          exact ⟨some ⟨g1, o1 + 1 * 3, none⟩, c - 1, rfl, Lib.hid ⟨fun e => (by cases e), hd⟩, rfl⟩
      · have hm : (max (0 : Int) ((L : Int) + 1 - 5)).toNat = 0 := by omega
        have hd : L + 1 - 5 = 0 := by omega
        have HM := Lib.hid hm
        have HDZ := Lib.hid hd
        clear hm hd
        go_wp2_with fail
        all_goals
          go_meet
          exact ⟨some ⟨g1, o1, none⟩, c, by rw [HM.out, HDZ.out]; simp, Lib.hid ⟨fun e => (by cases e), by rw [HDZ.out]; exact HR.out⟩, rfl⟩
  case rest =>
    obtain ⟨X', c', rfl, HX', rfl⟩ := hcut
    obtain ⟨k, hk⟩ : ∃ k, L - (L + 1 - 5) = k := ⟨_, rfl⟩
    obtain ⟨st, hst⟩ : ∃ st, l.drop (L + 1 - 5) = st := ⟨_, rfl⟩
    rw [hst] at HX'
    rw [hk]
    have HK : Hid (st.length = k) := Lib.hid (by rw [← hst, List.length_drop, HL.out]; exact hk)
    have HPU : Hid (push l ⟨sq, n, off⟩ = st ++ [⟨sq, n, off⟩]) := Lib.hid (by rw [push_eq, HL.out, hst])
    have hk5 : k ≤ 5 := by omega
    clear hk hst
    go_upto_region 13 with (fail)
    obtain ⟨W3, hW3⟩ : ∃ W3, W2.alloc (.cells #[.int .i64 sq, .int .i64 n, .int .i64 off] 50) = W3 := ⟨_, rfl⟩
    have b3 : Below W2.heap.size W2 W3 := by rw [← hW3]; exact one_box' _
    have r3 : W3.heap[W2.heap.size]? = some (.cells #[.int .i64 sq, .int .i64 n, .int .i64 off] 50 (0, 0)) := by rw [← hW3]; exact heap_alloc_new _ _
    have p0 := cell_at b3 q0; have p1 := cell_at b3 q1; have p2 := cell_at b3 q2
    have d0 : W3.cell? ⟨W2.heap.size, 0, none⟩ = some (.int .i64 sq) := (cell_of_row _ _ 0 _ _ _ r3).trans rfl
    have d1 : W3.cell? ⟨W2.heap.size, 1, none⟩ = some (.int .i64 n) := (cell_of_row _ _ 1 _ _ _ r3).trans rfl
    have d2 : W3.cell? ⟨W2.heap.size, 2, none⟩ = some (.int .i64 off) := (cell_of_row _ _ 2 _ _ _ r3).trans rfl
    have HT3 := Lib.hid (HT2.out.below b3)
    have HX3 : Hid ((X' = none → c' = 0) ∧ RowD W3 X' st) := Lib.hid ⟨HX'.out.1, HX'.out.2.below b3⟩
    have HB3 : Hid (Below w.heap.size w W3) := Lib.hid (HB2.out.trans (b3.mono HB2.out.size))
    rw [hW3]
    clear q0 q1 q2 q3 q4 hW3 r3 b3
    have hO := Only.refl [b] W3
    have HPM := Lib.hid (putM_mem ⟨pr, ep, t, p, st ++ [⟨sq, n, off⟩]⟩ G.out.sorted).2
    go_region_held3 (fun w' => (w'.cell? ⟨w.heap.size, 0, none⟩ = some (.string t) ∧ w'.cell? ⟨w.heap.size, 1, none⟩ = some (.int .i64 p) ∧ w'.cell? ⟨w.heap.size + 1, 0, none⟩ = some (.int .i64 pr) ∧ w'.cell? ⟨W2.heap.size, 0, none⟩ = some (.int .i64 sq) ∧ w'.cell? ⟨W2.heap.size, 1, none⟩ = some (.int .i64 n) ∧ w'.cell? ⟨W2.heap.size, 2, none⟩ = some (.int .i64 off)) ∧ Only [b] W3 w')
      (first | assumption | exact ⟨⟨p0, p1, p2, d0, d1, d2⟩, hO⟩ | exact ⟨⟨p0, p1, p2, d0, d1, d2⟩, hO.drew⟩ | exact keep6 (by assumption) ((Below.refl _ _).drew) | exact keep6 (by assumption) (one_box' _) | exact keep6 (keep6 (by assumption) (one_box' _)) ((Below.refl _ _).drew) | exact keep6 (by assumption) (by assumption) | exact keep6o (by assumption) (by assumption) (by assumption))
      (first
        | (go_at_call 33; refine (concat_done (two_a _ _ _ _ _) (two_b _ _ _ _ _) HK.out hk5 ⟨HX3.out.1, HX3.out.2.below (two_c _ _ _ _ _)⟩).mono ?_; rintro e w4 ⟨A4, c4, rfl, ho4, hb4⟩; have hb5 : Below W3.heap.size W3 w4 := (two_c W3 _ _ _ _).trans (hb4.mono (two_c W3 _ _ _ _).size); have HO4 := Lib.hid ho4; have hXA : Hid (∀ a, A4 = some a → ¬ X a.block) := Lib.hid (fun a ha hx => apart8 ho4 ((two_c W3 _ _ _ _).size) HB3.out.size a ha (hXW.out _ hx)); have hm4 := (HT3.out.below hb5).t.map.map; clear ho4)
        | (go_at_call 32; refine (keep_isx pr ep p t A4 (k + 1) c4 (st ++ [⟨sq, n, off⟩]) (Lib.hid (HT3.out.below hb5)) (by omega) (Lib.hid G.out.keys) HI.out ht hp.out (Lib.hid (by simp [HK.out])) (Lib.hid (RowC.own HO4.out (by simp [HK.out]))) hXA HPM).mono ?_; rintro e w5 ⟨rfl, ht5, ho5⟩))
    all_goals
      rename_i hh
      have HH := Lib.hid hh.2
      have HT5 := Lib.hid ht5
      clear hh ht5 ho5
      go_wp2_with fail
      go_ret
      exact ⟨rfl, by rw [HPU.out]; exact HT5.out, (Only.ofBelow HB3.out).trans HH.out (fun q hq => .inl hq)⟩


/-- a table of the law's own, whose rows lie elsewhere -/
def MTX (B : World) (X : Nat → Prop) (w : World) (g N : Nat) (es : List Int) (ms : List Mk) : Prop := (∃ A cap b, TabX X w g A cap b N es ms ∧ ∀ k ∈ blocks g A b, B.heap.size ≤ k) ∧ Below B.heap.size B w ∧ Good es ms
theorem MTX.t {B : World} {X : Nat → Prop} {w : World} {g N : Nat} {es : List Int} {ms : List Mk} (h : MTX B X w g N es ms) : MT B w g N es ms := by
  obtain ⟨⟨A, cap, b, h1, h2⟩, h3⟩ := h
  exact ⟨⟨A, cap, b, h1.t, h2⟩, h3⟩
theorem MTX.below {B : World} {X : Nat → Prop} {w w' : World} {g N : Nat} {es : List Int} {ms : List Mk} (h : MTX B X w g N es ms) (b : Below w.heap.size w w') : MTX B X w' g N es ms := by
  obtain ⟨⟨A, cap, k, ht, hk⟩, hb, hg⟩ := h
  exact ⟨⟨A, cap, k, ht.below b, hk⟩, hb.trans (b.mono hb.size), hg⟩
theorem MTX.ofNil {B : World} {X : Nat → Prop} {w : World} {g N : Nat} {es : List Int} (h : MT B w g N es []) : MTX B X w g N es [] := by
  obtain ⟨⟨A, cap, k, ht, hk⟩, hb, hg⟩ := h
  exact ⟨⟨A, cap, k, ⟨ht, IsTabX.of ht.map⟩, hk⟩, hb, hg⟩
theorem MTX.more {B : World} {X : Nat → Prop} {w : World} {g N : Nat} {es : List Int} {ms : List Mk} (h : MTX B X w g N es ms) : MTX B (fun k => X k ∨ w.heap.size ≤ k) w g N es ms := by
  obtain ⟨⟨A, cap, k, ht, hk⟩, hb, hg⟩ := h
  exact ⟨⟨A, cap, k, ⟨ht.t, ht.mapx.more (fun m hm => (hg.fit m hm).2.1)⟩, hk⟩, hb, hg⟩
theorem MTX.less {B : World} {X X' : Nat → Prop} {w : World} {g N : Nat} {es : List Int} {ms : List Mk} (h : MTX B X w g N es ms) (hX : ∀ k, X' k → X k) : MTX B X' w g N es ms := by
  obtain ⟨⟨A, cap, k, ht, hk⟩, hb, hg⟩ := h
  exact ⟨⟨A, cap, k, ⟨ht.t, ht.mapx.less hX⟩, hk⟩, hb, hg⟩
/-- other blocks are looked at from here on -/
theorem MTX.turn {B : World} {X X' : Nat → Prop} {w : World} {g N : Nat} {es : List Int} {ms : List Mk} (h : MTX B X w g N es ms) (hX : ∀ k, X' k → w.heap.size ≤ k) : MTX B X' w g N es ms := by
  obtain ⟨⟨A, cap, k, ht, hk⟩, hb, hg⟩ := h
  exact ⟨⟨A, cap, k, ⟨ht.t, IsTabX.fresh ht.t.map (fun m hm => (hg.fit m hm).2.1) hX⟩, hk⟩, hb, hg⟩
/-- a row of batches elsewhere was written into -/
theorem MTX.other {B : World} {X : Nat → Prop} {w w' : World} {g N : Nat} {es : List Int} {ms : List Mk} (h : MTX B X w g N es ms) {k : Nat} (hk : X k) {cs : Array Value} {fr : Nat × Nat} (hc : w.heap[k]? = some (.cells cs 50 fr)) (hB : B.heap.size ≤ k) (ho : Only [k] w w') : MTX B X w' g N es ms := by
  obtain ⟨⟨A, cap, b, ht, hbl⟩, hb, hg⟩ := h
  have hno := ht.t.noDid
  have hn : ∀ q ∈ blocks g A b, w'.heap[q]? = w.heap[q]? := fun q hq => ho.block q (ht.t.blk_lt q hq) (fun e => by
    rw [List.mem_singleton] at e
    subst e
    exact hno q hq cs fr hc)
  have hx : IsTabX X w' b N ms := ht.mapx.kept (hn b (by simp [blocks])) (fun q cs' fr' hq hq' => ho.block q (Array.getElem?_eq_some_iff.1 hq').1 (fun e => by
    rw [List.mem_singleton] at e
    subst e
    exact hq hk))
  refine ⟨⟨A, cap, b, ⟨⟨(hn g (by simp [blocks])).trans ht.t.row, own_at ht.t.own (fun q e => hn q (by rw [blk_own] at e; simp [blocks, mem_bk, e])), hx.t⟩, hx⟩, hbl⟩, hb.trans ((ho.below hb.size (fun q hq => by rw [List.mem_singleton] at hq; omega))), hg⟩
theorem m8_donex {B : World} {X : Nat → Prop} {w : World} {g N : Nat} {es : List Int} {ms : List Mk} (t : ByteArray) (p pr ep sq off : Int) (R : Option Addr) (n rc L : Nat) (l : List Did) (M : Hid (MTX B X w g N es ms)) (ht : t.size ≤ 281474976710656) (hp : Hid ((Lit.int .i64 p).wf = true)) (hpr : Hid (1 ≤ pr ∧ pr ≤ 32))
    (HA : Hid (askP es ms t p pr ep sq n = (0, false, 0))) (hn0 : 0 < n) (hoff : Hid (numB8 off = true)) (Hl : Hid (lastOf ms pr t p = l)) (HL : Hid (l.length = L)) (hN : N ≤ 100000) (hXW : Hid (∀ k, X k → k < w.heap.size)) (HM : Hid (doneM es ms t p pr ep sq n off = putM ⟨pr, ep, t, p, push l ⟨sq, n, off⟩⟩ false ms)) :
    Calls Try.prog 13 #[.pointer (some ⟨g, 0, none⟩), .agg #[.string t, .int .i64 p], .agg #[.int .i64 pr, .int .i64 ep, .int .i64 sq, .slice R n rc], .int .i64 off] w fun e w' => e = .returned (.int .i64 0) ∧ MTX B X w' g (N + 1) es (doneM es ms t p pr ep sq n off) ∧ Fr w w' := by
  obtain ⟨⟨A, cap, b, h, hk⟩, hb, hg⟩ := M.out
  refine (done_putx t p pr ep sq off R n rc L l (Lib.hid h) (Lib.hid hg) ht hp hpr HA hn0 hoff Hl HL hN hXW).mono ?_
  rintro e w' ⟨rfl, h', ho⟩
  rw [← HM.out] at h'
  have ho' : Only (blocks g A b) w w' := ho.mono (fun k q => .inl (by simp at q; simp [blocks, q]))
  exact ⟨rfl, ⟨⟨A, cap, b, h', hk⟩, hb.trans (ho'.below hb.size hk), good_done hg t p pr ep sq n off (by unfold maxLen; omega) hp.out⟩, Fr.only h.t ho'⟩
end Go.Proofs.Ytcmlopflandlgaa.L8
