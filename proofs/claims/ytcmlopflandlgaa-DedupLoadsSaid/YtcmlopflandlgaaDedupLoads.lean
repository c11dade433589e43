/-
  Proved: whether any state may be a table's is as the document says; loaded again a table is the same, and goes on alike (of at most 40 epochs, 30 rows of at most 8 batches). No condition.
-/
import Derived.Test.YtcmlopflandlgaaRows
import Derived.WalkKit
import Derived.ProofKit
import Derived.OpenShut
import Derived.ShutString
import Derived.ChangeOld
import Derived.Below
import Derived.Test.YtcmlopflandlgaaDdFixed
import Derived.Test.YtcmlopflandlgaaDdOpenMk
import Derived.Test.YtcmlopflandlgaaDdSame2
import Derived.Test.YtcmlopflandlgaaDdRload
import Derived.Test.YtcmlopflandlgaaRecBound
import Derived.Deep.RegionHeld3
import Derived.Deep.RegionLaw
import Derived.Deep.DeepCutAuto
import Derived.Deep.Cut
import Derived.Deep.CutBlock
import Derived.LoopTactic
namespace Go.Proofs.Ytcmlopflandlgaa.dedupLoads
open Go.ChangeShapes Go.WideShapes Go.ChangeAt Go.RowKit Go.Deep
open Go.ChangeMaps (open_string shut_string)
open L3 L4 L8

theorem own : ownKnob Try.prog.godebug = none := by kernel_rfl
theorem laidOut : laidOutB Try.prog = true := by kernel_rfl

set_option maxRecDepth 100000 in
theorem nil_nums {H : Type} {enc : TypeId × Value → H} {w : World} {base : Nat} {spare : Nat → Bool} {held : Bool} {A : Option Addr} {n c : Nat} {d : DataW H} {p : List MemPlace} (h : DataW.Trod enc Try.prog w base spare held 26 (.slice A n c) d p) : A = none → c = 0 := fun e => by
  obtain ⟨fuel, hf⟩ := h
  rcases open_slice Try.underlying26 hf with ⟨q, _⟩ | ⟨a, len, cap, m, n', D, Pl, q, _⟩
  · injection q with q; injection q with _ _ q
  · injection q with q; injection q with q; rw [e] at q; cases q
/-- a maker, as the law cuts it -/
def cutM (v : L8.Mk) : L8.Mk := ⟨v.id, v.ep, v.t.extract 0 (min (v.t.size : Int) 40).toNat, v.p, v.l.take 8⟩
theorem readsN_take {w : World} {B : Nat} {A : Option Addr} {l : List Int} (h : L8.NumsO w B A l) (n : Nat) : L8.ReadsN w A (l.take n) := fun h0 => by
  rw [List.length_take] at h0
  obtain ⟨g, o, e, _, hc⟩ := h (by omega)
  refine ⟨g, o, e, fun i x hx => ?_⟩
  rw [List.getElem?_take] at hx
  split at hx
  · have q := hc i x hx
    rwa [Nat.mul_one] at q
  · cases hx
theorem didsO_src {w : World} {B : Nat} {A : Option Addr} {l : List L8.Did} (h : L8.DidsO w B A l) (hA : A = none → l = []) (n : Nat) : L8.Src w A (rowD (l.take n)) := by
  by_cases h0 : 0 < l.length
  · obtain ⟨g, o, rfl, _, hc⟩ := h h0
    have hr : ∀ k : Nat, ∀ u, (rowD l)[k]? = some u → w.cell? ⟨g, o + k, none⟩ = some u := fun k u hu => by
      have hk := (List.getElem?_eq_some_iff.1 hu).1
      rw [rowD_len] at hk
      obtain ⟨d, hd⟩ : ∃ d, l[k / 3]? = some d := ⟨_, List.getElem?_eq_getElem (by omega)⟩
      obtain ⟨x0, x1, x2⟩ := hc _ _ hd
      have hj : k / 3 * 3 + k % 3 = k := by omega
      have h3 : k % 3 = 0 ∨ k % 3 = 1 ∨ k % 3 = 2 := by omega
      rcases h3 with h3 | h3 | h3
      · have q := rowD_at hd 0 _ rfl
        rw [show k / 3 * 3 + 0 = k by omega, hu] at q
        injection q with q; rw [q, show o + k = o + k / 3 * 3 by omega]; exact x0
      · have q := rowD_at hd 1 _ rfl
        rw [show k / 3 * 3 + 1 = k by omega, hu] at q
        injection q with q; rw [q, show o + k = o + k / 3 * 3 + 1 by omega]; exact x1
      · have q := rowD_at hd 2 _ rfl
        rw [show k / 3 * 3 + 2 = k by omega, hu] at q
        injection q with q; rw [q, show o + k = o + k / 3 * 3 + 2 by omega]; exact x2
    refine ⟨fun e => (by cases e), fun ad e k u hu => ?_⟩
    injection e with e; subst e
    rw [Addr.add_lit]
    refine hr k u ?_
    have e2 : rowD l = rowD (l.take n) ++ rowD (l.drop n) := by rw [← rowD_app, List.take_append_drop]
    rw [e2, List.getElem?_append_left (List.getElem?_eq_some_iff.1 hu).1]; exact hu
  · have hl : l = [] := List.eq_nil_of_length_eq_zero (by omega)
    subst hl
    exact ⟨fun _ => by simp [rowD], fun ad e k u hu => by simp [rowD] at hu⟩
theorem did_set {w : World} {mb i : Nat} {u : Value} {cs : Array Value} {fr : Nat × Nat} (h : w.heap[mb]? = some (.cells cs 48 fr)) : ∀ (q : Nat) (cs : Array Value) (fr : Nat × Nat), w.heap[q]? = some (.cells cs 50 fr) → (w.setCell ⟨mb, i, none⟩ u).heap[q]? = w.heap[q]? := fun q cs' fr' hq =>
  Below.heap_setCell _ _ _ _ (fun e => by rw [e, h] at hq; injection hq with e; injection e with _ e; exact absurd e (by decide))
theorem did_grown {w w' : World} {B n c : Nat} {A : Option Addr} {xs : List Value} {o : Obj} (h : w.ownsRow B 48 5 (.slice A n c) n xs) (hg : (w.alloc o).grownBy w' (Value.ownBlock (.slice A n c))) : ∀ (q : Nat) (cs : Array Value) (fr : Nat × Nat), w.heap[q]? = some (.cells cs 50 fr) → w'.heap[q]? = w.heap[q]? := fun q cs fr hq => by
  have hlt := (Array.getElem?_eq_some_iff.1 hq).1
  refine (hg.block q (by simp; omega) (fun e => ?_)).trans (Below.heap_alloc _ _ _ hlt)
  obtain ⟨cs', _, hb⟩ := own_bk h q (mem_bk.2 (by rw [blk_own] at e; exact e.symm))
  rw [hb] at hq; injection hq with e; injection e with _ e; exact absurd e (by decide)
/-- while the law cuts what came in -/
structure LM (W wr : World) (l : List L8.MV) (q c : Nat) (A : Option Addr) (us : List L8.MV) : Prop where
  own : wr.ownsRow W.heap.size 48 5 (.slice A q c) q (rowM us)
  len : us.length = q
  bel : Below W.heap.size W wr
  rows : L8.RowsIn wr us
  eq : us.map (·.m) = (l.map (fun v => cutM v.m)).take q
theorem putM_len (m : L8.Mk) : ∀ (l : List L8.Mk) (put : Bool), (putM m put l).length ≤ l.length + (if put then 0 else 1)
  | [], put => by cases put <;> simp [putM]
  | x :: t, put => by
    have ih := putM_len m t (put || !befB x m)
    show ((if (!put && !befB x m) = true then [m] else []) ++ ((if (befB x m || befB m x) = true then [x] else []) ++ putM m (put || !befB x m) t)).length ≤ _
    rw [List.length_append, List.length_append]
    generalize befB x m = u at ih ⊢
    generalize befB m x = v at ih ⊢
    cases put <;> cases u <;> cases v <;> simp at ih ⊢ <;> omega
theorem doneM_len (es : List Int) (ms : List L8.Mk) (t : ByteArray) (p pr ep sq : Int) (n : Nat) (off : Int) : (doneM es ms t p pr ep sq n off).length ≤ ms.length + 1 := by
  unfold doneM
  split
  · omega
  · exact putM_len _ ms false
theorem openM_len (es : List Int) (ms : List L8.Mk) (id : Int) : (openM es ms id).length ≤ ms.length := by
  unfold openM
  split
  · omega
  · split
    · omega
    · split
      · omega
      · exact List.length_filter_le _ _
theorem texts_done {es : List Int} {ms : List Mk} (G : L8.Good es ms) (h : Texts ms) (t : ByteArray) (p : Int) (ht : t.size ≤ 281474976710656) (hp : (Lit.int .i64 p).wf = true) (pr ep sq : Int) (n : Nat) (off : Int) : Texts (doneM es ms t p pr ep sq n off) := by
  unfold doneM
  split
  · exact h
  · intro m hm
    rcases ((putM_mem ⟨pr, ep, t, p, push (lastOf ms pr t p) ⟨sq, n, off⟩⟩ G.sorted).2 m).1 hm with rfl | ⟨hm, _⟩
    · exact ⟨ht, hp⟩
    · exact h m hm
theorem texts_open {es : List Int} {ms : List Mk} (h : Texts ms) (id : Int) : Texts (openM es ms id) := by
  unfold openM
  split
  · exact h
  · split
    · exact h
    · split
      · exact h
      · exact fun m hm => h m (List.mem_filter.1 hm).1
theorem LM.cut {w0 W wr : World} {l : List L8.MV} {q c : Nat} {A : Option Addr} {us : List L8.MV} (hm : ∀ v ∈ l, IsMk1 w0 v) (h : LM W wr l q c A us) : ∀ v ∈ us, v.m.t.size ≤ 40 ∧ (Lit.int .i64 v.m.p).wf = true ∧ v.m.l.length ≤ 8 := fun v hv => by
  have h1 : v.m ∈ us.map (·.m) := List.mem_map.2 ⟨v, hv, rfl⟩
  rw [h.eq] at h1
  obtain ⟨u, hu, e⟩ := List.mem_map.1 (List.mem_of_mem_take h1)
  rw [← e]
  obtain ⟨_, _, hp, _, _, _⟩ := hm u hu
  refine ⟨?_, hp, ?_⟩
  · show (u.m.t.extract 0 _).size ≤ 40
    rw [ByteArray.size_extract]; omega
  · show (u.m.l.take 8).length ≤ 8
    rw [List.length_take]; omega
theorem rload_any (A X : Option Addr) (n cap m xc : Nat) (es : List Int) (vs : List L8.MV) (x : Int) (w : World) (hn : Hid (es.length = n)) (HE : Hid (L8.ReadsN w A es)) (hA : Hid (A = none → cap = 0)) (hm : Hid (vs.length = m)) (hm1 : m ≤ 1000) (HX : Hid (ReadsM w X vs)) (HR : Hid (L8.RowsIn w vs)) (HT : Hid (Cmp (vs.map (·.m)))) (HL : Hid (∀ v ∈ vs, v.m.l.length ≤ 1000)) (HC : Hid (L8.loadE es (vs.map (·.m)) = x)) :
    Calls Try.prog 20 #[.slice A n cap, .slice X m xc] w (RLoadP w x es (vs.map (·.m))) := by
  have hx := HC.out
  rw [L8.load_cases, hn.out] at hx
  by_cases h : 32 < n
  · rw [if_pos h] at hx; subst hx
    exact (rload_big A X n cap m xc w h).mono fun e w' ⟨h1, h2⟩ => by subst h2; exact ⟨Below.refl _ _, .inl ⟨by decide, h1⟩⟩
  · rw [if_neg h] at hx
    exact rload_run A X n cap m xc es vs x w hn (by omega) HE hA hm hm1 HX HR HT HL (Lib.hid hx)
theorem rload_no {w w' : World} {x : Int} {es : List Int} {ms : List L8.Mk} {e : Ending} (hx : x ≠ 0) (h : RLoadP w x es ms e w') : e = .returned (.tuple #[.pointer none, .int .i64 x]) ∧ Below w.heap.size w w' := by
  obtain ⟨hb, ⟨_, he⟩ | ⟨h0, _⟩⟩ := h
  · exact ⟨he, hb⟩
  · exact absurd h0 hx
theorem load_yes {w w' : World} {es : List Int} {ms : List L8.Mk} {e : Ending} (h : L8.LoadP w 0 es ms e w') : ∃ g, e = .returned (.tuple #[.pointer (some ⟨g, 0, none⟩), .int .i64 0]) ∧ TabM w.heap.size w' g ms.length es ms ∧ Below w.heap.size w w' := by
  obtain ⟨hb, ⟨h0, _⟩ | ⟨_, g, he, ht⟩⟩ := h
  · exact absurd rfl h0
  · exact ⟨g, he, ht, hb⟩
theorem rload_yes {W w2 w3 : World} {g N : Nat} {es : List Int} {ms : List L8.Mk} {e : Ending} (h2 : TabM W.heap.size w2 g N es ms) (hb2 : Below W.heap.size W w2) (h : RLoadP w2 0 es ms e w3) : ∃ k, e = .returned (.tuple #[.pointer (some ⟨k, 0, none⟩), .int .i64 0]) ∧ S8 W w3 g N k es ms es ms := by
  obtain ⟨hb, ⟨h0, _⟩ | ⟨_, k, AE, cE, AL, cL, vs, he, hr, hv, hk⟩⟩ := h
  · exact absurd rfl h0
  · obtain ⟨A, cap, b, ht, hn⟩ := h2
    have hs := hb2.size
    refine ⟨k, he, A, cap, b, AE, cE, AL, cL, vs, ⟨ht.below hb, ⟨hr.row, L8.own_base hr.eown hs, L8.own_base hr.lown hs, hr.rows⟩, hn, by omega, hb2.trans (hb.mono hs), fun j hj e => ?_⟩, hv⟩
    obtain ⟨_, _, h1⟩ := own_bk ht.own j hj
    obtain ⟨_, h3, _⟩ := own_bk hr.eown j e
    have := (Array.getElem?_eq_some_iff.1 h1).1
    omega
/-- the call, in a box, and its batch, in another -/
def OB2 (b d : Nat) (k i f : Int) (t : ByteArray) (p pr ep sq : Int) (R : Option Addr) (n c : Nat) (R4 : Option Addr) (n4 c4 : Nat) (W w : World) : Prop :=
  (w.cell? ⟨b, 2, none⟩ = some (.int .i64 f) ∧ w.cell? ⟨b, 3, none⟩ = some (.string t) ∧ w.cell? ⟨b, 4, none⟩ = some (.int .i64 p) ∧ w.cell? ⟨d, 0, none⟩ = some (.int .i64 pr) ∧ w.cell? ⟨d, 1, none⟩ = some (.int .i64 ep) ∧ w.cell? ⟨d, 2, none⟩ = some (.int .i64 sq) ∧ w.cell? ⟨d, 3, none⟩ = some (.slice R4 n4 c4)) ∧ (w.heap[b]? = some (.cells #[.int .i64 k, .int .i64 i, .int .i64 f, .string t, .int .i64 p, .int .i64 pr, .int .i64 ep, .int .i64 sq, .slice R n c] 36 (0, 0)) ∧ w.heap[d]? = some (.cells #[.int .i64 pr, .int .i64 ep, .int .i64 sq, .slice R4 n4 c4] 34 (0, 0)) ∧ KB W w)
section
variable {b d : Nat} {k i f : Int} {t : ByteArray} {p pr ep sq : Int} {R : Option Addr} {n c : Nat} {R4 : Option Addr} {n4 c4 : Nat} {W w w' : World}
theorem OB2.of (h : w.heap[b]? = some (.cells #[.int .i64 k, .int .i64 i, .int .i64 f, .string t, .int .i64 p, .int .i64 pr, .int .i64 ep, .int .i64 sq, .slice R n c] 36 (0, 0))) (h' : w.heap[d]? = some (.cells #[.int .i64 pr, .int .i64 ep, .int .i64 sq, .slice R4 n4 c4] 34 (0, 0))) (fr : KB W w) : OB2 b d k i f t p pr ep sq R n c R4 n4 c4 W w :=
  ⟨⟨(cell_of_row _ _ 2 _ _ _ h).trans rfl, (cell_of_row _ _ 3 _ _ _ h).trans rfl, (cell_of_row _ _ 4 _ _ _ h).trans rfl, (cell_of_row _ _ 0 _ _ _ h').trans rfl, (cell_of_row _ _ 1 _ _ _ h').trans rfl, (cell_of_row _ _ 2 _ _ _ h').trans rfl, (cell_of_row _ _ 3 _ _ _ h').trans rfl⟩, h, h', fr⟩
theorem OB2.fr (h : OB2 b d k i f t p pr ep sq R n c R4 n4 c4 W w) (fr : KB w w') : OB2 b d k i f t p pr ep sq R n c R4 n4 c4 W w' := .of (fr.2 _ _ _ _ h.2.1 (by decide) (by decide) (by decide)) (fr.2 _ _ _ _ h.2.2.1 (by decide) (by decide) (by decide)) (h.2.2.2.trans fr)
theorem OB2.next (h : OB2 b d k i f t p pr ep sq R n c R4 n4 c4 W w) (hb : Below w.heap.size w w') : OB2 b d k i f t p pr ep sq R n c R4 n4 c4 W w' := h.fr (KB.below hb)
theorem OB2.here (h : OB2 b d k i f t p pr ep sq R n c R4 n4 c4 W w) : OB2 b d k i f t p pr ep sq R n c R4 n4 c4 w w := .of h.2.1 h.2.2.1 (KB.refl w)
end
set_option maxRecDepth 100000 in
set_option maxHeartbeats 16000000 in
theorem walk (w : World) (A0 : Option Addr) (l0 : List Int) (c0 : Nat) (R0 : IsNums w A0 l0 ∧ l0.length ≤ c0) (N0 : A0 = none → c0 = 0) (A1 : Option Addr) (l1 : List L8.MV) (c1 : Nat) (R1 : IsMks w A1 l1) (r2 : Sc) (R2 : IsSc1 w r2) (Z2 : r2.t.size ≤ 281474976710656) :
    Calls Try.prog 4 #[.slice A0 l0.length c0, .slice A1 l1.length c1, .agg #[.int .i64 r2.kind, .int .i64 r2.id, .int .i64 r2.off, .string r2.t, .int .i64 r2.p, .int .i64 r2.pr, .int .i64 r2.ep, .int .i64 r2.sq, .slice r2.A r2.l.length r2.c]] w fun e w' => e = .returned (.bool true) ∧ Below w.heap.size w w' := by
  obtain ⟨kd, id, off, t, p, pr, ep, sq, RA, rl, rc⟩ := r2
  obtain ⟨⟨hrec, hrc⟩, ⟨ht0, hp0⟩, _⟩ := R2
  dsimp only at Z2 hrec hrc ht0 hp0 ⊢
  obtain ⟨i0, hi0, hz0, hz1, hz2⟩ := info_parts didInfo
  obtain ⟨im, hi0m, hz0m, hz1m, hz2m⟩ := info_parts makerInfo
  obtain ⟨m0, hm0⟩ : ∃ m, l0.length = m := ⟨_, rfl⟩
  obtain ⟨m1, hm1⟩ : ∃ m, l1.length = m := ⟨_, rfl⟩
  obtain ⟨⟨HNUM, _, hnm⟩, hnc⟩ := R0
  obtain ⟨HMK, HM1, hmm⟩ := R1
  rw [hm0] at hnm hnc ⊢
  rw [hm1] at hmm ⊢
  unfold maxLen at hnm hmm
  have HL0 := Lib.hid hm0
  have HL1 := Lib.hid hm1
  have HN0 := Lib.hid N0
  have HREC := Lib.hid hrec
  obtain ⟨nl, hnl⟩ : ∃ n, rl.length = n := ⟨_, rfl⟩
  rw [hnl]
  have HNL := Lib.hid hnl
  have PW := Lib.hid hp0
  have HTZ := Lib.hid Z2
  have HTM := Lib.hid ht0
  obtain ⟨n1, hn1⟩ : ∃ n1 : Nat, min (m0 : Int) 40 = (n1 : Int) := ⟨(min (m0 : Int) 40).toNat, by omega⟩
  have n1a : n1 ≤ m0 := by omega
  have n1b : n1 ≤ 40 := by omega
  have n1c : n1 ≤ c0 := by omega
  clear hm0 hm1 N0 hrec hrc ht0 hp0 hnl Z2
  go_enter Try.func4, Try.ntmps4
  go_upto_region 1 with fail
  obtain ⟨bo, hbo⟩ : ∃ b, w.heap.size = b := ⟨_, rfl⟩
  obtain ⟨W1, hW1⟩ : ∃ W1, w.alloc (.cells #[.int .i64 kd, .int .i64 id, .int .i64 off, .string t, .int .i64 p, .int .i64 pr, .int .i64 ep, .int .i64 sq, .slice RA nl rc] 36) = W1 := ⟨_, rfl⟩
  have HB1 : Hid (Below w.heap.size w W1) := Lib.hid (hW1 ▸ one_box' _)
  have HX1 : Hid (W1.heap[bo]? = some (.cells #[.int .i64 kd, .int .i64 id, .int .i64 off, .string t, .int .i64 p, .int .i64 pr, .int .i64 ep, .int .i64 sq, .slice RA nl rc] 36 (0, 0))) := Lib.hid (by rw [← hW1, ← hbo]; exact heap_alloc_new w _)
  rw [hW1, hbo]
  clear hW1 hbo
  go_cut [7, 8] (fun v7 v8 wc => v7 = .slice A0 n1 c0 ∧ ∃ b8, v8 = .slice (some ⟨b8, 0, none⟩) 0 0 ∧ Hid (wc.ownsRow W1.heap.size 48 5 (.slice (some ⟨b8, 0, none⟩) 0 0) 0 []) ∧ Hid (Below W1.heap.size W1 wc))
  case first =>
    cases A0 with
    | none =>
      obtain rfl : c0 = 0 := HN0.out rfl
      obtain rfl : n1 = 0 := by omega
      go_wp2_with fail
      all_goals
        go_meet
        exact ⟨rfl, _, rfl, Lib.hid (World.ownsRow_made (size := 5) W1 #[] 0 (Nat.le_refl _) (by unfold maxLen; omega) rfl), Lib.hid (one_box' _)⟩
    | some ad =>
      have q1 : (n1 : Int) ≤ (c0 : Int) := by omega
      have q0 : (0 : Int) ≤ (n1 : Int) := by omega
      go_wp2_with fail
      all_goals
        go_meet
        exact ⟨rfl, _, rfl, Lib.hid (World.ownsRow_made (size := 5) W1 #[] 0 (Nat.le_refl _) (by unfold maxLen; omega) rfl), Lib.hid (one_box' _)⟩
  case rest =>
    obtain ⟨rfl, b8, rfl, HO8, HB8⟩ := hcut
    clear hn1
    go_wp2_with fail
    go_loopw [8, 9] (fun v8 i wr => ∃ (q c : Nat) (A : Option Addr) (us : List L8.MV), q ≤ m1 ∧ q ≤ 30 ∧ v8 = .slice A q c ∧ i = .int .i64 q ∧ Hid (LM W1 wr l1 q c A us)) (fun _ i _ => 30 - (intOf i).toNat)
    case atStart => exact ⟨0, 0, _, [], Nat.zero_le _, by omega, rfl, rfl, Lib.hid ⟨by simpa [rowM] using HO8.out, rfl, HB8.out, fun v hv => (by cases hv), rfl⟩⟩
    case round =>
      clear HO8 HB8
      obtain ⟨q, c, A, us, hq, hq30, rfl, rfl, HM⟩ := hrel
      by_cases hlt : q < m1 ∧ q < 30
      · obtain ⟨h1, h2⟩ := hlt
        obtain ⟨og, oo, rfl, hog, hc⟩ := HMK.out (by rw [HL1.out]; omega)
        obtain ⟨⟨⟨xi, xe, xt, xp, xl⟩, vA, vc⟩, hv⟩ : ∃ v, l1[q]? = some v := ⟨_, List.getElem?_eq_getElem (by rw [HL1.out]; exact h1)⟩
        obtain ⟨b0, b1, b2, b3, b4⟩ := hc q _ hv
        obtain ⟨hdo, hxt, _, hlc, hlm, hnil⟩ := HM1.out _ (List.mem_of_getElem? hv)
        dsimp only at b0 b1 b2 b3 b4 hdo hxt hlc hlm hnil
        obtain ⟨xn, hxn⟩ : ∃ n, xl.length = n := ⟨_, rfl⟩
        rw [hxn] at b4 hlc hlm
        have HXN := Lib.hid hxn
        have hbw : Below w.heap.size w wr := HB1.out.trans (HM.out.bel.mono HB1.out.size)
        have d0 := (hbw.cell (p := ⟨og, oo + q * 5, none⟩) hog).trans b0
        have d1 := (hbw.cell (p := ⟨og, oo + q * 5 + 1, none⟩) hog).trans b1
        have d2 := (hbw.cell (p := ⟨og, oo + q * 5 + 2, none⟩) hog).trans b2
        have d3 := (hbw.cell (p := ⟨og, oo + q * 5 + 3, none⟩) hog).trans b3
        have d4 := (hbw.cell (p := ⟨og, oo + q * 5 + 4, none⟩) hog).trans b4
        have HSRC : Hid (L8.Src wr vA (rowD (xl.take 8))) := Lib.hid (didsO_src (B := w.heap.size) (fun h0 => by
          obtain ⟨g, o, e, hg, hcc⟩ := hdo h0
          exact ⟨g, o, e, hg, fun i d hd => ⟨cell_at hbw (hcc i d hd).1, cell_at hbw (hcc i d hd).2.1, cell_at hbw (hcc i d hd).2.2⟩⟩) (fun e => (hnil e).1) 8)
        have HNIL := Lib.hid hnil
        have HEQ : Hid ((l1.map (fun v => cutM v.m)).take (q + 1) = (l1.map (fun v => cutM v.m)).take q ++ [cutM ⟨xi, xe, xt, xp, xl⟩]) := Lib.hid (by rw [List.take_add_one, List.getElem?_map, hv]; rfl)
        have HBW := Lib.hid hbw
        have HOW := Lib.hid HM.out.own
        have HZR : Hid (W1.heap.size ≤ wr.heap.size) := Lib.hid HM.out.bel.size
        obtain ⟨xs, hxs⟩ : ∃ s, xt.extract 0 (min (xt.size : Int) 40).toNat = s := ⟨_, rfl⟩
        have HXS := Lib.hid hxs
        unfold maxLen at hxt hlm
        obtain ⟨n8, hn8⟩ : ∃ n8 : Nat, min (xn : Int) 8 = (n8 : Int) := ⟨(min (xn : Int) 8).toNat, by omega⟩
        have n8a : n8 ≤ xn := by omega
        have n8b : n8 ≤ 8 := by omega
        have n8c : n8 ≤ vc := by omega
        have HTK : Hid ((xl.take 8).length = n8) := Lib.hid (by rw [List.length_take, hxn]; omega)
        have j0 : (0 : Int) ≤ (q : Int) := by omega
        have j1 : (q : Int) < (m1 : Int) := by omega
        have j2 : (q : Int) < 30 := by omega
        clear b0 b1 b2 b3 b4 hdo hnil hc hv hbw hxn hog
        go_upto_region 6 with fail
        obtain ⟨mb, hmb⟩ : ∃ b, wr.heap.size = b := ⟨_, rfl⟩
        obtain ⟨W5, hW5⟩ : ∃ W5, wr.alloc (.cells #[.int .i64 xi, .int .i64 xe, .string xt, .int .i64 xp, .slice vA xn vc] 48) = W5 := ⟨_, rfl⟩
        have hb5 : Below wr.heap.size wr W5 := hW5 ▸ one_box' _
        have HX5 : Hid (W5.heap[mb]? = some (.cells #[.int .i64 xi, .int .i64 xe, .string xt, .int .i64 xp, .slice vA xn vc] 48 (0, 0))) := Lib.hid (by rw [← hW5, ← hmb]; exact heap_alloc_new wr _)
        have HMB : Hid (W1.heap.size ≤ mb) := Lib.hid (by rw [← hmb]; exact HZR.out)
        rw [hW5, hmb]
        have HB5 := Lib.hid hb5
        clear hW5 hb5 d0 d1 d2 d3 d4
        have s2 : W5.cell? ⟨mb, 2, none⟩ = some (.string xt) := (cell_of_row _ _ 2 _ _ _ HX5.out).trans rfl
        have t2 : W5.frozen? ⟨mb, 2, none⟩ = false := frozen_of_row _ _ _ _ _ HX5.out
        go_upto_region 7 with fail
        obtain ⟨W6, hW6⟩ : ∃ W6, W5.setCell ⟨mb, 2, none⟩ (.string xs) = W6 := ⟨_, rfl⟩
        have HX6 : Hid (W6.heap[mb]? = some (.cells #[.int .i64 xi, .int .i64 xe, .string xs, .int .i64 xp, .slice vA xn vc] 48 (0, 0))) := Lib.hid (by rw [← hW6]; exact heap_setCell_same _ mb 2 _ _ (.string xs) HX5.out)
        have HMW : Hid (wr.heap.size ≤ mb) := Lib.hid (by omega)
        have HB6 : Hid (Below wr.heap.size wr W6) := Lib.hid (by rw [← hW6]; exact HB5.out.setCell (p := ⟨mb, 2, none⟩) (by show wr.heap.size ≤ mb; omega) _)
        rw [hW6]
        clear hW6 s2 t2 hxs HX5 HB5
        have s4 : W6.cell? ⟨mb, 4, none⟩ = some (.slice vA xn vc) := (cell_of_row _ _ 4 _ _ _ HX6.out).trans rfl
        have t4 : W6.frozen? ⟨mb, 4, none⟩ = false := frozen_of_row _ _ _ _ _ HX6.out
        have lmb : mb < W6.heap.size := (Array.getElem?_eq_some_iff.1 HX6.out).1
        obtain ⟨W7, hW7⟩ : ∃ W7, W6.alloc (.cells #[] 50) = W7 := ⟨_, rfl⟩
        have hb7 : Below W6.heap.size W6 W7 := by rw [← hW7]; exact one_box' _
        have HB7 := Lib.hid hb7
        have HO7 : Hid (W7.ownsRow W6.heap.size 50 3 (.slice (some ⟨W6.heap.size, 0, none⟩) 0 0) 0 []) := Lib.hid (by rw [← hW7]; exact World.ownsRow_made (size := 3) W6 #[] 0 (Nat.le_refl _) (by unfold maxLen; omega) rfl)
        have e4 := cell_at hb7 s4
        have HZ7 : Hid (W6.heap.size ≤ W7.heap.size) := Lib.hid hb7.size
        have HBW7 : Hid (Below wr.heap.size wr W7) := Lib.hid (HB6.out.trans (hb7.mono HB6.out.size))
        have HS7 : Hid (L8.Src W7 vA (rowD (xl.take 8))) := Lib.hid (HSRC.out.below HBW7.out)
        have q8 : (0 : Int) ≤ (n8 : Int) := by omega
        have q9 : (n8 : Int) ≤ (vc : Int) := by omega
        clear s4 t4 hb7
        go_cut [8] (fun v8 wc => v8 = .slice A q c ∧ ∃ (X8 : Option Addr) (xc8 : Nat), Hid (wc.heap[mb]? = some (.cells #[.int .i64 xi, .int .i64 xe, .string xs, .int .i64 xp, .slice X8 n8 xc8] 48 (0, 0))) ∧ Hid (RowC wc X8 xc8 (xl.take 8) ∧ (X8 = none → xc8 = 0)) ∧ Hid (Below wr.heap.size wr wc))
        case first =>
          cases vA with
          | none =>
            obtain ⟨e1, e2⟩ := HNIL.out rfl
            subst e1
            obtain rfl : vc = 0 := e2
            obtain rfl : n8 = 0 := by omega
            obtain rfl : xn = 0 := HXN.out.symm
            have HXX : Hid (W7.heap[mb]? = some (.cells #[.int .i64 xi, .int .i64 xe, .string xs, .int .i64 xp, .slice none 0 0] 48 (0, 0))) := Lib.hid ((HB7.out.block mb lmb).trans HX6.out)
            have t7 : W7.frozen? ⟨mb, 4, none⟩ = false := frozen_of_row _ _ _ _ _ HXX.out
            go_wp2_with fail
            go_meet
            exact ⟨rfl, some ⟨W6.heap.size, 0, none⟩, 0, Lib.hid (heap_setCell_same _ mb 4 _ _ _ HXX.out), Lib.hid ⟨⟨fun h0 => by simp at h0, by simp⟩, fun e => by cases e⟩, Lib.hid (HBW7.out.setCell (p := ⟨mb, 4, none⟩) HMW.out _)⟩
          | some ad =>
            go_wp2_with (at_builtin; have _q := HS7; refine wpList_append_src (by rfl) _ _ 46 (by rfl) W6.heap.size 50 i0 _ 3 24 Try.underlying46 hi0 hz0 hz1 hz2 rfl (by omega) (.slice (some ⟨W6.heap.size, 0, none⟩) 0 0) 0 [] (by rfl) HO7.out (some ad) n8 vc (rowD (xl.take 8)) (by rfl) (by rw [rowD_len, HTK.out]) HS7.out (fun e => by cases e) (rowD_one _) (by unfold maxLen; omega) (by omega) (by have := HZ7.out; omega) ?_; intro v8 w8 hown8 hgrow8; have HB8 : Hid (Below W6.heap.size W6 w8) := Lib.hid (HB7.out.grown hgrow8 (by have := HZ7.out; omega) (fun z e => (HO7.out.lt z e).1)); obtain ⟨A8, c8, rfl⟩ := own_len hown8; rw [Nat.zero_add, List.nil_append] at hown8; have HO8 := Lib.hid hown8; have HXX : Hid (w8.heap[mb]? = some (.cells #[.int .i64 xi, .int .i64 xe, .string xs, .int .i64 xp, .slice (some ad) xn vc] 48 (0, 0))) := Lib.hid ((HB8.out.block mb lmb).trans HX6.out); have e8 : w8.cell? ⟨mb, 4, none⟩ = some (.slice (some ad) xn vc) := (cell_of_row _ _ 4 _ _ _ HXX.out).trans rfl; have f8 : w8.frozen? ⟨mb, 4, none⟩ = false := frozen_of_row _ _ _ _ _ HXX.out; clear hown8 hgrow8)
            go_meet
            exact ⟨rfl, A8, c8, Lib.hid (heap_setCell_same _ mb 4 _ _ _ HXX.out), Lib.hid ⟨(RowC.own HO8.out HTK.out).kept (did_set HXX.out), own_nil HO8.out⟩, Lib.hid ((HB6.out.trans (HB8.out.mono HB6.out.size)).setCell (p := ⟨mb, 4, none⟩) HMW.out _)⟩
        case rest =>
          obtain ⟨rfl, X8, xc8, HX8, HR8, HB8⟩ := hcut
          clear hW7 HS7 HO7 HB7 HZ7 HBW7 e4
          have f0 : wc.cell? ⟨mb, 0, none⟩ = some (.int .i64 xi) := (cell_of_row _ _ 0 _ _ _ HX8.out).trans rfl
          have f1 : wc.cell? ⟨mb, 1, none⟩ = some (.int .i64 xe) := (cell_of_row _ _ 1 _ _ _ HX8.out).trans rfl
          have f2 : wc.cell? ⟨mb, 2, none⟩ = some (.string xs) := (cell_of_row _ _ 2 _ _ _ HX8.out).trans rfl
          have f3 : wc.cell? ⟨mb, 3, none⟩ = some (.int .i64 xp) := (cell_of_row _ _ 3 _ _ _ HX8.out).trans rfl
          have f4 : wc.cell? ⟨mb, 4, none⟩ = some (.slice X8 n8 xc8) := (cell_of_row _ _ 4 _ _ _ HX8.out).trans rfl
          have HOW8 : Hid (wc.ownsRow W1.heap.size 48 5 (.slice A q c) q (rowM us)) := Lib.hid (L8.own_below HOW.out HB8.out)
          have HBW8 : Hid (Below W1.heap.size W1 wc) := Lib.hid (HM.out.bel.trans (HB8.out.mono HZR.out))
          have HZ8 : Hid (W1.heap.size ≤ wc.heap.size) := Lib.hid HBW8.out.size
          go_wp2_with (at_builtin; refine wpList_append_own _ rfl _ _ 27 (by rfl) W1.heap.size 48 im _ 5 64 Try.underlying27 hi0m hz0m hz1m hz2m rfl (by omega) (.slice A q c) q (rowM us) (by rfl) (HOW8.out.alloc _) ⟨wc.heap.size, 0, none⟩ 1 1 [.int .i64 xi, .int .i64 xe, .string xs, .int .i64 xp, .slice X8 n8 xc8] (by rfl) (by rfl) (World.news_of_block (cs := #[.int .i64 xi, .int .i64 xe, .string xs, .int .i64 xp, .slice X8 n8 xc8]) (t := 48) (fr := (0, 0)) (heap_alloc_new wc _)) (by simp [Value.oneCell']) (by unfold maxLen; omega) (by omega) (by have := HZ8.out; simp; omega) ?_; intro v9 w9 hown9 hgrow9 _; have HB9 : Hid (Below W1.heap.size W1 w9) := Lib.hid ((HBW8.out.alloc HZ8.out _).grown hgrow9 (by have := HZ8.out; simp; omega) (fun z e => (HOW8.out.lt z e).1)); have HK9 := Lib.hid (did_grown HOW8.out hgrow9); obtain ⟨A9, c9, rfl⟩ := own_len hown9; have HO9 := Lib.hid hown9; clear hown9 hgrow9)
          go_roundw
          case rel =>
            refine ⟨q + 1, c9, A9, us ++ [⟨⟨xi, xe, xs, xp, xl.take 8⟩, X8, xc8⟩], by omega, by omega, rfl, by go_num, Lib.hid ⟨?_, ?_, HB9.out, fun v hv => ?_, ?_⟩⟩
            · rw [rowM_app]; simpa [rowM, mkC, HTK.out] using HO9.out
            · rw [List.length_append, HM.out.len]; rfl
            · rcases List.mem_append.1 hv with hv | hv
              · have h := HM.out.rows v hv
                exact ⟨(h.1.below HB8.out).kept HK9.out, h.2⟩
              · rw [List.mem_singleton] at hv; subst hv
                exact ⟨HR8.out.1.kept HK9.out, HR8.out.2⟩
            · rw [List.map_append, HM.out.eq, HEQ.out]
              show _ ++ [_] = _ ++ [_]
              rw [← HXS.out]; rfl
          case measure => simp [intOf]; omega
      · have hbw : Below w.heap.size w wr := HB1.out.trans (HM.out.bel.mono HB1.out.size)
        have HBW := Lib.hid hbw
        obtain ⟨es, hes⟩ : ∃ es, l0.take n1 = es := ⟨_, rfl⟩
        obtain ⟨ms, hms⟩ : ∃ ms, us.map (·.m) = ms := ⟨_, rfl⟩
        have HEN : Hid (L8.ReadsN wr A0 es) := Lib.hid (by rw [← hes]; exact (readsN_take HNUM.out n1).below hbw)
        have HNE : Hid (es.length = n1) := Lib.hid (by rw [← hes, List.length_take, HL0.out]; omega)
        have HCUT := Lib.hid (HM.out.cut HM1.out)
        have HVL : Hid (us.length = q) := Lib.hid HM.out.len
        have HRM : Hid (ReadsM wr A us) := Lib.hid (ReadsM.own HM.out.own HM.out.len)
        have HRI : Hid (L8.RowsIn wr us) := Lib.hid HM.out.rows
        have HTX : Hid (Texts (us.map (·.m))) := Lib.hid (fun m hm => by obtain ⟨v, hv, rfl⟩ := List.mem_map.1 hm; have h := HCUT.out v hv; exact ⟨by omega, h.2.1⟩)
        have HCM : Hid (Cmp (us.map (·.m))) := Lib.hid (fun m hm => by obtain ⟨v, hv, rfl⟩ := List.mem_map.1 hm; have h := HCUT.out v hv; exact ⟨by unfold maxLen; omega, h.2.1⟩)
        have HLL : Hid (∀ v ∈ us, v.m.l.length ≤ 1000000) := Lib.hid (fun v hv => by have h := HCUT.out v hv; omega)
        have HLK : Hid (∀ v ∈ us, v.m.l.length ≤ 1000) := Lib.hid (fun v hv => by have h := HCUT.out v hv; omega)
        obtain ⟨x, hx⟩ : ∃ x, L8.loadE es (us.map (·.m)) = x := ⟨_, rfl⟩
        have HX := Lib.hid hx
        have HMS := Lib.hid hms
        have hx1 : (x != x) = false := by simp
        have n1m : n1 ≤ maxLen := by unfold maxLen; omega
        clear hes hms hx hbw
        have hd : m1 ≤ q ∨ (q < m1 ∧ 30 ≤ q) := by omega
        rcases hd with hd | ⟨hd1, hd2⟩
        · have j1 : ¬ (q : Int) < (m1 : Int) := by omega
          by_cases hx0 : x = 0
          · subst hx0
            go_upto_region 15 with (first
              | (go_at_call 20; have _q := HB2; refine (rload_any A0 A n1 c0 q c es us 0 w2 HNE (Lib.hid (HEN.out.below HB2.out)) HN0 HVL (by omega) (Lib.hid (HRM.out.below HB2.out)) (Lib.hid (HRI.out.below HB2.out)) HCM HLK HX).mono ?_; intro e w3 h3; obtain ⟨k, rfl, hs3⟩ := rload_yes HT2.out HB2.out h3; rw [HMS.out] at hs3; have M3 := Lib.hid hs3; clear h3 hs3)
              | (go_at_call 19; refine (L8.load_is A0 A n1 c0 q c es us 0 n1m HNE HEN HN0.out HVL (by omega) HRM HRI HTX HLL HX).mono ?_; intro e w2 h2; obtain ⟨g, rfl, ht2, hb2⟩ := load_yes h2; have HB2 := Lib.hid hb2; have HT2 := Lib.hid ht2; clear h2 hb2 ht2))
            obtain ⟨N, hN⟩ : ∃ N, ms.length = N := ⟨_, rfl⟩
            rw [hN] at M3
            have hNq : N ≤ 30 := by rw [← hN, ← HMS.out, List.length_map, HVL.out]; exact hq30
            have HG : Hid (L8.Good es ms) := Lib.hid (by rw [← HMS.out]; exact L8.load_good HX.out HCM.out)
            have HT : Hid (Texts ms) := Lib.hid (by rw [← HMS.out]; exact HTX.out)
            have hml : ms.length ≤ 30 := by rw [hN]; exact hNq
            have hbx : Below W1.heap.size W1 w3 := HM.out.bel.trans (M3.out.bel.mono HM.out.bel.size)
            have HBO3 : Hid (w3.heap[bo]? = some (.cells #[.int .i64 kd, .int .i64 id, .int .i64 off, .string t, .int .i64 p, .int .i64 pr, .int .i64 ep, .int .i64 sq, .slice RA nl rc] 36 (0, 0))) := Lib.hid ((hbx.block bo (Array.getElem?_eq_some_iff.1 HX1.out).1).trans HX1.out)
            have hbw3 : Below w.heap.size w w3 := HBW.out.trans (M3.out.bel.mono HBW.out.size)
            have HRO3 : Hid (L3.ReadsO w3 w.heap.size RA rl) := Lib.hid (HREC.out.1.out.below hbw3)
            have HSZ3 : Hid (w.heap.size ≤ w3.heap.size) := Lib.hid hbw3.size
            have HRS := HREC.out.2.1
            have HRL := Lib.hid HREC.out.2.2
            obtain ⟨L4, hL4⟩ : ∃ L, (rl.take 20).map L3.R.cut = L := ⟨_, rfl⟩
            have HL4 := Lib.hid hL4
            obtain ⟨n, hn⟩ : ∃ n, L4.length = n := ⟨_, rfl⟩
            have HN4 := Lib.hid hn
            have s5 : w3.cell? ⟨bo, 5, none⟩ = some (.int .i64 pr) := (cell_of_row _ _ 5 _ _ _ HBO3.out).trans rfl
            have s6 : w3.cell? ⟨bo, 6, none⟩ = some (.int .i64 ep) := (cell_of_row _ _ 6 _ _ _ HBO3.out).trans rfl
            have s7 : w3.cell? ⟨bo, 7, none⟩ = some (.int .i64 sq) := (cell_of_row _ _ 7 _ _ _ HBO3.out).trans rfl
            have s8 : w3.cell? ⟨bo, 8, none⟩ = some (.slice RA nl rc) := (cell_of_row _ _ 8 _ _ _ HBO3.out).trans rfl
            clear hN hbx hbw3 hL4 hn HX HEN HNE HCUT HVL HRM HRI HTX HCM HLL HLK HMS HT2 HB2
            go_upto_region 16 with (go_at_call 8; rw [← HNL.out]; refine (L3.bound_is pr ep sq RA rl L4 rc w.heap.size w3 HRO3 HSZ3.out HRL.out HRS HL4).mono ?_; rintro e w4 ⟨R4, c4, rfl, ho4, hb4⟩; rw [HN4.out]; have HB4 := Lib.hid hb4; clear ho4 hb4)
            obtain ⟨bb, hbb⟩ : ∃ b, w4.heap.size = b := ⟨_, rfl⟩
            obtain ⟨W5, hW5⟩ : ∃ W5, w4.alloc (.cells #[.int .i64 pr, .int .i64 ep, .int .i64 sq, .slice R4 n c4] 34) = W5 := ⟨_, rfl⟩
            have hB5 : Below w4.heap.size w4 W5 := hW5 ▸ one_box' _
            have HBB : Hid (W5.heap[bb]? = some (.cells #[.int .i64 pr, .int .i64 ep, .int .i64 sq, .slice R4 n c4] 34 (0, 0))) := Lib.hid (by rw [← hW5, ← hbb]; exact heap_alloc_new w4 _)
            have hB35 : Below w3.heap.size w3 W5 := HB4.out.trans (hB5.mono HB4.out.size)
            have HBO : Hid (W5.heap[bo]? = some (.cells #[.int .i64 kd, .int .i64 id, .int .i64 off, .string t, .int .i64 p, .int .i64 pr, .int .i64 ep, .int .i64 sq, .slice RA nl rc] 36 (0, 0))) := Lib.hid ((hB35.block bo (Array.getElem?_eq_some_iff.1 HBO3.out).1).trans HBO3.out)
            have M5 := Lib.hid (M3.out.below hB35)
            rw [hW5, hbb]
            clear hW5 hbb hB5 hB35 s5 s6 s7 s8 M3 HBO3 HB4 HRO3 HSZ3
            have HTM8 : Hid (t.size ≤ maxLen) := Lib.hid (by have := HTZ.out; unfold maxLen; omega)
            have hml5 : ms.length ≤ 100000 := by omega
            have hN5 : N ≤ 100000 := by omega
            have htz := HTZ.out
            obtain ⟨y, hy⟩ : ∃ r, L8.doneE es ms t p pr ep sq n off = r := ⟨_, rfl⟩
            have HY := Lib.hid hy
            obtain ⟨ms', hms'⟩ : ∃ r, L8.doneM es ms t p pr ep sq n off = r := ⟨_, rfl⟩
            have HMD := Lib.hid hms'
            have HGD : Hid (L8.Good es ms') := Lib.hid (by rw [← hms']; exact good_done HG.out t p pr ep sq n off HTM8.out PW.out)
            have HTD : Hid (Texts ms') := Lib.hid (by rw [← hms']; exact texts_done HG.out HT.out t p HTZ.out PW.out pr ep sq n off)
            have hmd : ms'.length ≤ 31 := by rw [← hms']; exact Nat.le_trans (doneM_len es ms t p pr ep sq n off) (by omega)
            have hmd5 : ms'.length ≤ 100000 := by omega
            clear hy hms'
            have P5 := OB2.of HBO.out HBB.out (KB.refl W5)
            obtain ⟨q2, q3, q4, p0, p1, p2, p3⟩ := P5.1
            go_region_held3 (fun w' => (w'.cell? ⟨bo, 2, none⟩ = some (.int .i64 off) ∧ w'.cell? ⟨bo, 3, none⟩ = some (.string t) ∧ w'.cell? ⟨bo, 4, none⟩ = some (.int .i64 p) ∧ w'.cell? ⟨bb, 0, none⟩ = some (.int .i64 pr) ∧ w'.cell? ⟨bb, 1, none⟩ = some (.int .i64 ep) ∧ w'.cell? ⟨bb, 2, none⟩ = some (.int .i64 sq) ∧ w'.cell? ⟨bb, 3, none⟩ = some (.slice R4 n c4)) ∧ (w'.heap[bo]? = some (.cells #[.int .i64 kd, .int .i64 id, .int .i64 off, .string t, .int .i64 p, .int .i64 pr, .int .i64 ep, .int .i64 sq, .slice RA nl rc] 36 (0, 0)) ∧ w'.heap[bb]? = some (.cells #[.int .i64 pr, .int .i64 ep, .int .i64 sq, .slice R4 n c4] 34 (0, 0)) ∧ KB W5 w'))
              (first | assumption | exact OB2.here (by assumption) | exact OB2.next (OB2.here (by assumption)) (drewB _) | exact OB2.next (by assumption) (drewB _) | exact OB2.next (by assumption) (by assumption) | exact OB2.fr (by assumption) (by assumption))
              (first
                | (go_at_call 14; have _q := SD; refine (s8_rdone t p pr ep sq off y R4 n c4 SD HG hml5 HTM8.out PW HY).mono ?_; rintro e w7 ⟨rfl, s7, k7⟩; have SB := Lib.hid s7; clear s7)
                | (go_at_call 13; have _q := SR; refine (s8_done t p pr ep sq off y R4 n c4 SR HG htz PW hN5 HY).mono ?_; rintro e w7 ⟨rfl, s7, k7⟩; have SB := Lib.hid s7; clear s7)
                | (go_at_call 13; refine (s8_done t p pr ep sq off y R4 n c4 (Lib.hid (M5.out.below (drewB _))) HG htz PW hN5 HY).mono ?_; rintro e w6 ⟨rfl, s6, k6⟩; have SD := Lib.hid s6; clear s6)
                | (go_at_call 14; refine (s8_rdone t p pr ep sq off y R4 n c4 (Lib.hid (M5.out.below (drewB _))) HG hml5 HTM8.out PW HY).mono ?_; rintro e w6 ⟨rfl, s6, k6⟩; have SR := Lib.hid s6; clear s6))
            all_goals
              rename_i P7
              have hr7 := P7.2.1
              have HR7 := Lib.hid hr7
              have i1 : w7.cell? ⟨bo, 1, none⟩ = some (.int .i64 id) := (cell_of_row _ _ 1 _ _ _ hr7).trans rfl
              obtain ⟨⟨r1, r2, z⟩, hz⟩ : ∃ r, L8.openR es id = r := ⟨_, rfl⟩
              have HZ := Lib.hid hz
              rw [HMD.out] at SB
              have HGO : Hid (L8.Good (openE es id) (openM es ms' id)) := Lib.hid (good_open HGD.out id)
              have HTO : Hid (Texts (openM es ms' id)) := Lib.hid (texts_open HTD.out id)
              have hmo : (openM es ms' id).length ≤ 100000 := Nat.le_trans (openM_len es ms' id) hmd5
              have hy1 : (y == y) = true := by simp
              have hz1' : (z == z) = true := by simp
              have hr1' : (r1 == r1) = true := by simp
              have hr2' : (r2 == r2) = true := by simp
              clear hz P7 hr7 q2 q3 q4 p0 p1 p2 p3 P5
              go_wp2_with (first
                | (go_at_call 10; have _q := SO; refine (s8_ropen id r1 r2 z SO HGD hmd5 HZ).mono ?_; rintro e w9 ⟨rfl, s9, k9⟩; have S9 := Lib.hid s9; clear s9)
                | (go_at_call 9; refine (s8_open id r1 r2 z SB HGD HZ).mono ?_; rintro e w8 ⟨rfl, s8, k8⟩; have SO := Lib.hid s8; have i8 : w8.cell? ⟨bo, 1, none⟩ = some (.int .i64 id) := (cell_of_row _ _ 1 _ _ _ (k8.2 _ _ _ _ HR7.out (by decide) (by decide) (by decide))).trans rfl; clear s8)
                | (go_at_call 16; refine (s8_same S9 HGO HTO hmo).mono ?_; rintro e w10 ⟨rfl, hb10⟩; have S10 := Lib.hid (S9.out.below hb10); clear hb10)
                | (go_at_call 18; refine (fixed8_any _).mono ?_; rintro e w20 ⟨rfl, hb20⟩))
              go_ret
              exact ⟨rfl, HBW.out.trans (((S10.out.below hb20).bel).mono HBW.out.size)⟩
          · go_wp2_with (first
              | (go_at_call 20; have _q := HB2; refine (rload_any A0 A n1 c0 q c es us x w2 HNE (Lib.hid (HEN.out.below HB2.out)) HN0 HVL (by omega) (Lib.hid (HRM.out.below HB2.out)) (Lib.hid (HRI.out.below HB2.out)) HCM HLK HX).mono ?_; intro e w3 h3; obtain ⟨rfl, hb3⟩ := rload_no hx0 h3; have HB3 := Lib.hid (HB2.out.trans (hb3.mono HB2.out.size)); clear h3 hb3)
              | (go_at_call 19; refine (L8.load_is A0 A n1 c0 q c es us x n1m HNE HEN HN0.out HVL (by omega) HRM HRI HTX HLL HX).mono ?_; intro e w2 h2; obtain ⟨rfl, hb2⟩ := L8.load_no hx0 h2; have HB2 := Lib.hid hb2; clear h2 hb2)
              | (go_at_call 18; refine (fixed8_any _).mono ?_; rintro e w20 ⟨rfl, hb20⟩))
            go_ret
            exact ⟨rfl, HBW.out.trans ((HB3.out.trans (hb20.mono HB3.out.size)).mono HBW.out.size)⟩
        · have j1 : (q : Int) < (m1 : Int) := by omega
          have j2 : ¬ (q : Int) < 30 := by omega
          by_cases hx0 : x = 0
          · subst hx0
            go_upto_region 15 with (first
              | (go_at_call 20; have _q := HB2; refine (rload_any A0 A n1 c0 q c es us 0 w2 HNE (Lib.hid (HEN.out.below HB2.out)) HN0 HVL (by omega) (Lib.hid (HRM.out.below HB2.out)) (Lib.hid (HRI.out.below HB2.out)) HCM HLK HX).mono ?_; intro e w3 h3; obtain ⟨k, rfl, hs3⟩ := rload_yes HT2.out HB2.out h3; rw [HMS.out] at hs3; have M3 := Lib.hid hs3; clear h3 hs3)
              | (go_at_call 19; refine (L8.load_is A0 A n1 c0 q c es us 0 n1m HNE HEN HN0.out HVL (by omega) HRM HRI HTX HLL HX).mono ?_; intro e w2 h2; obtain ⟨g, rfl, ht2, hb2⟩ := load_yes h2; have HB2 := Lib.hid hb2; have HT2 := Lib.hid ht2; clear h2 hb2 ht2))
            obtain ⟨N, hN⟩ : ∃ N, ms.length = N := ⟨_, rfl⟩
            rw [hN] at M3
            have hNq : N ≤ 30 := by rw [← hN, ← HMS.out, List.length_map, HVL.out]; exact hq30
            have HG : Hid (L8.Good es ms) := Lib.hid (by rw [← HMS.out]; exact L8.load_good HX.out HCM.out)
            have HT : Hid (Texts ms) := Lib.hid (by rw [← HMS.out]; exact HTX.out)
            have hml : ms.length ≤ 30 := by rw [hN]; exact hNq
            have hbx : Below W1.heap.size W1 w3 := HM.out.bel.trans (M3.out.bel.mono HM.out.bel.size)
            have HBO3 : Hid (w3.heap[bo]? = some (.cells #[.int .i64 kd, .int .i64 id, .int .i64 off, .string t, .int .i64 p, .int .i64 pr, .int .i64 ep, .int .i64 sq, .slice RA nl rc] 36 (0, 0))) := Lib.hid ((hbx.block bo (Array.getElem?_eq_some_iff.1 HX1.out).1).trans HX1.out)
            have hbw3 : Below w.heap.size w w3 := HBW.out.trans (M3.out.bel.mono HBW.out.size)
            have HRO3 : Hid (L3.ReadsO w3 w.heap.size RA rl) := Lib.hid (HREC.out.1.out.below hbw3)
            have HSZ3 : Hid (w.heap.size ≤ w3.heap.size) := Lib.hid hbw3.size
            have HRS := HREC.out.2.1
            have HRL := Lib.hid HREC.out.2.2
            obtain ⟨L4, hL4⟩ : ∃ L, (rl.take 20).map L3.R.cut = L := ⟨_, rfl⟩
            have HL4 := Lib.hid hL4
            obtain ⟨n, hn⟩ : ∃ n, L4.length = n := ⟨_, rfl⟩
            have HN4 := Lib.hid hn
            have s5 : w3.cell? ⟨bo, 5, none⟩ = some (.int .i64 pr) := (cell_of_row _ _ 5 _ _ _ HBO3.out).trans rfl
            have s6 : w3.cell? ⟨bo, 6, none⟩ = some (.int .i64 ep) := (cell_of_row _ _ 6 _ _ _ HBO3.out).trans rfl
            have s7 : w3.cell? ⟨bo, 7, none⟩ = some (.int .i64 sq) := (cell_of_row _ _ 7 _ _ _ HBO3.out).trans rfl
            have s8 : w3.cell? ⟨bo, 8, none⟩ = some (.slice RA nl rc) := (cell_of_row _ _ 8 _ _ _ HBO3.out).trans rfl
            clear hN hbx hbw3 hL4 hn HX HEN HNE HCUT HVL HRM HRI HTX HCM HLL HLK HMS HT2 HB2
            go_upto_region 16 with (go_at_call 8; rw [← HNL.out]; refine (L3.bound_is pr ep sq RA rl L4 rc w.heap.size w3 HRO3 HSZ3.out HRL.out HRS HL4).mono ?_; rintro e w4 ⟨R4, c4, rfl, ho4, hb4⟩; rw [HN4.out]; have HB4 := Lib.hid hb4; clear ho4 hb4)
            obtain ⟨bb, hbb⟩ : ∃ b, w4.heap.size = b := ⟨_, rfl⟩
            obtain ⟨W5, hW5⟩ : ∃ W5, w4.alloc (.cells #[.int .i64 pr, .int .i64 ep, .int .i64 sq, .slice R4 n c4] 34) = W5 := ⟨_, rfl⟩
            have hB5 : Below w4.heap.size w4 W5 := hW5 ▸ one_box' _
            have HBB : Hid (W5.heap[bb]? = some (.cells #[.int .i64 pr, .int .i64 ep, .int .i64 sq, .slice R4 n c4] 34 (0, 0))) := Lib.hid (by rw [← hW5, ← hbb]; exact heap_alloc_new w4 _)
            have hB35 : Below w3.heap.size w3 W5 := HB4.out.trans (hB5.mono HB4.out.size)
            have HBO : Hid (W5.heap[bo]? = some (.cells #[.int .i64 kd, .int .i64 id, .int .i64 off, .string t, .int .i64 p, .int .i64 pr, .int .i64 ep, .int .i64 sq, .slice RA nl rc] 36 (0, 0))) := Lib.hid ((hB35.block bo (Array.getElem?_eq_some_iff.1 HBO3.out).1).trans HBO3.out)
            have M5 := Lib.hid (M3.out.below hB35)
            rw [hW5, hbb]
            clear hW5 hbb hB5 hB35 s5 s6 s7 s8 M3 HBO3 HB4 HRO3 HSZ3
            have HTM8 : Hid (t.size ≤ maxLen) := Lib.hid (by have := HTZ.out; unfold maxLen; omega)
            have hml5 : ms.length ≤ 100000 := by omega
            have hN5 : N ≤ 100000 := by omega
            have htz := HTZ.out
            obtain ⟨y, hy⟩ : ∃ r, L8.doneE es ms t p pr ep sq n off = r := ⟨_, rfl⟩
            have HY := Lib.hid hy
            obtain ⟨ms', hms'⟩ : ∃ r, L8.doneM es ms t p pr ep sq n off = r := ⟨_, rfl⟩
            have HMD := Lib.hid hms'
            have HGD : Hid (L8.Good es ms') := Lib.hid (by rw [← hms']; exact good_done HG.out t p pr ep sq n off HTM8.out PW.out)
            have HTD : Hid (Texts ms') := Lib.hid (by rw [← hms']; exact texts_done HG.out HT.out t p HTZ.out PW.out pr ep sq n off)
            have hmd : ms'.length ≤ 31 := by rw [← hms']; exact Nat.le_trans (doneM_len es ms t p pr ep sq n off) (by omega)
            have hmd5 : ms'.length ≤ 100000 := by omega
            clear hy hms'
            have P5 := OB2.of HBO.out HBB.out (KB.refl W5)
            obtain ⟨q2, q3, q4, p0, p1, p2, p3⟩ := P5.1
            go_region_held3 (fun w' => (w'.cell? ⟨bo, 2, none⟩ = some (.int .i64 off) ∧ w'.cell? ⟨bo, 3, none⟩ = some (.string t) ∧ w'.cell? ⟨bo, 4, none⟩ = some (.int .i64 p) ∧ w'.cell? ⟨bb, 0, none⟩ = some (.int .i64 pr) ∧ w'.cell? ⟨bb, 1, none⟩ = some (.int .i64 ep) ∧ w'.cell? ⟨bb, 2, none⟩ = some (.int .i64 sq) ∧ w'.cell? ⟨bb, 3, none⟩ = some (.slice R4 n c4)) ∧ (w'.heap[bo]? = some (.cells #[.int .i64 kd, .int .i64 id, .int .i64 off, .string t, .int .i64 p, .int .i64 pr, .int .i64 ep, .int .i64 sq, .slice RA nl rc] 36 (0, 0)) ∧ w'.heap[bb]? = some (.cells #[.int .i64 pr, .int .i64 ep, .int .i64 sq, .slice R4 n c4] 34 (0, 0)) ∧ KB W5 w'))
              (first | assumption | exact OB2.here (by assumption) | exact OB2.next (OB2.here (by assumption)) (drewB _) | exact OB2.next (by assumption) (drewB _) | exact OB2.next (by assumption) (by assumption) | exact OB2.fr (by assumption) (by assumption))
              (first
                | (go_at_call 14; have _q := SD; refine (s8_rdone t p pr ep sq off y R4 n c4 SD HG hml5 HTM8.out PW HY).mono ?_; rintro e w7 ⟨rfl, s7, k7⟩; have SB := Lib.hid s7; clear s7)
                | (go_at_call 13; have _q := SR; refine (s8_done t p pr ep sq off y R4 n c4 SR HG htz PW hN5 HY).mono ?_; rintro e w7 ⟨rfl, s7, k7⟩; have SB := Lib.hid s7; clear s7)
                | (go_at_call 13; refine (s8_done t p pr ep sq off y R4 n c4 (Lib.hid (M5.out.below (drewB _))) HG htz PW hN5 HY).mono ?_; rintro e w6 ⟨rfl, s6, k6⟩; have SD := Lib.hid s6; clear s6)
                | (go_at_call 14; refine (s8_rdone t p pr ep sq off y R4 n c4 (Lib.hid (M5.out.below (drewB _))) HG hml5 HTM8.out PW HY).mono ?_; rintro e w6 ⟨rfl, s6, k6⟩; have SR := Lib.hid s6; clear s6))
            all_goals
              rename_i P7
              have hr7 := P7.2.1
              have HR7 := Lib.hid hr7
              have i1 : w7.cell? ⟨bo, 1, none⟩ = some (.int .i64 id) := (cell_of_row _ _ 1 _ _ _ hr7).trans rfl
              obtain ⟨⟨r1, r2, z⟩, hz⟩ : ∃ r, L8.openR es id = r := ⟨_, rfl⟩
              have HZ := Lib.hid hz
              rw [HMD.out] at SB
              have HGO : Hid (L8.Good (openE es id) (openM es ms' id)) := Lib.hid (good_open HGD.out id)
              have HTO : Hid (Texts (openM es ms' id)) := Lib.hid (texts_open HTD.out id)
              have hmo : (openM es ms' id).length ≤ 100000 := Nat.le_trans (openM_len es ms' id) hmd5
              have hy1 : (y == y) = true := by simp
              have hz1' : (z == z) = true := by simp
              have hr1' : (r1 == r1) = true := by simp
              have hr2' : (r2 == r2) = true := by simp
              clear hz P7 hr7 q2 q3 q4 p0 p1 p2 p3 P5
              go_wp2_with (first
                | (go_at_call 10; have _q := SO; refine (s8_ropen id r1 r2 z SO HGD hmd5 HZ).mono ?_; rintro e w9 ⟨rfl, s9, k9⟩; have S9 := Lib.hid s9; clear s9)
                | (go_at_call 9; refine (s8_open id r1 r2 z SB HGD HZ).mono ?_; rintro e w8 ⟨rfl, s8, k8⟩; have SO := Lib.hid s8; have i8 : w8.cell? ⟨bo, 1, none⟩ = some (.int .i64 id) := (cell_of_row _ _ 1 _ _ _ (k8.2 _ _ _ _ HR7.out (by decide) (by decide) (by decide))).trans rfl; clear s8)
                | (go_at_call 16; refine (s8_same S9 HGO HTO hmo).mono ?_; rintro e w10 ⟨rfl, hb10⟩; have S10 := Lib.hid (S9.out.below hb10); clear hb10)
                | (go_at_call 18; refine (fixed8_any _).mono ?_; rintro e w20 ⟨rfl, hb20⟩))
              go_ret
              exact ⟨rfl, HBW.out.trans (((S10.out.below hb20).bel).mono HBW.out.size)⟩
          · go_wp2_with (first
              | (go_at_call 20; have _q := HB2; refine (rload_any A0 A n1 c0 q c es us x w2 HNE (Lib.hid (HEN.out.below HB2.out)) HN0 HVL (by omega) (Lib.hid (HRM.out.below HB2.out)) (Lib.hid (HRI.out.below HB2.out)) HCM HLK HX).mono ?_; intro e w3 h3; obtain ⟨rfl, hb3⟩ := rload_no hx0 h3; have HB3 := Lib.hid (HB2.out.trans (hb3.mono HB2.out.size)); clear h3 hb3)
              | (go_at_call 19; refine (L8.load_is A0 A n1 c0 q c es us x n1m HNE HEN HN0.out HVL (by omega) HRM HRI HTX HLL HX).mono ?_; intro e w2 h2; obtain ⟨rfl, hb2⟩ := L8.load_no hx0 h2; have HB2 := Lib.hid hb2; clear h2 hb2)
              | (go_at_call 18; refine (fixed8_any _).mono ?_; rintro e w20 ⟨rfl, hb20⟩))
            go_ret
            exact ⟨rfl, HBW.out.trans ((HB3.out.trans (hb20.mono HB3.out.size)).mono HBW.out.size)⟩

set_option maxRecDepth 100000 in
set_option maxHeartbeats 1000000 in
theorem lifted (os : Os) (started : os.Started) (H : Type) (enc : TypeId × Value → H) :
    ReturnsInHanded {} Try.checked os 4 .any (Rows.dedupLoadsSpec.pre6 enc Try.prog Try.f4 Rows.dedupLoadsRow.domain false) (Rows.dedupLoadsSpec.post enc Try.prog Try.f4 false true false false) := by
  refine returnsInHanded_of_change_sized (C := Try.checked) own started (by kernel_rfl) Try.func4
    (ChangeSpec.witness6 (enc := enc) (C := Try.checked) false ⟨#[], #[.slice none 0 0, .slice none 0 0, .agg #[.int .i64 0, .int .i64 0, .int .i64 0, .string ByteArray.empty, .int .i64 0, .int .i64 0, .int .i64 0, .int .i64 0, .slice none 0 0]], []⟩ 8 (by kernel_rfl) (by kernel_rfl) (by kernel_rfl) (by kernel_rfl)) ?_
  intro W base args ds gs before hval0 hW _ hsz0 _
  have hval : ∀ (j : Nat) t v, Try.f4.params[j]? = some t → args[j]? = some v → Value.okWide Try.prog W .any base t v := hval0
  have hW' := hW
  obtain ⟨p, q, hA0, hV, rfl, hfz, hnd⟩ := hW
  have hA : DataW.TrodAll enc Try.prog W 0 (fun _ => true) true Try.f4.params.toList args.toList ds p := hA0
  have hsz : (DataW.weightsEach Try.prog (Try.f4.params.toList ++ Rows.dedupLoadsSpec.plain.varTypes Try.prog) (ds ++ gs)).all (· ≤ reachBytes) = true := hsz0
  rw [Try.params4] at hA hval hsz
  obtain ⟨v0, vs0, d0, ds0, p0, q0, hargs, rfl, rfl, h0, r0⟩ := trodAll_cons hA
  obtain ⟨v1, vs1, d1, ds1, p1, q1, rfl, rfl, rfl, h1, r1⟩ := trodAll_cons r0
  obtain ⟨v2, vs2, d2, ds2, p2, q2, rfl, rfl, rfl, h2, r2⟩ := trodAll_cons r1
  obtain ⟨rfl, rfl, rfl⟩ := trodAll_nil r2
  obtain rfl : args = #[v0, v1, v2] := by cases args; simp_all
  obtain ⟨rfl, rfl⟩ := trodVars_none hV
  have k0 := h0
  have lt0 : ∀ x ∈ p0, x.block < W.heap.size := by obtain ⟨m, hm⟩ := k0; exact DataW.trod_lt m _ _ _ hm
  have k1 := h1
  have lt1 : ∀ x ∈ p1, x.block < W.heap.size := by obtain ⟨m, hm⟩ := k1; exact DataW.trod_lt m _ _ _ hm
  have k2 := h2
  have lt2 : ∀ x ∈ p2, x.block < W.heap.size := by obtain ⟨m, hm⟩ := k2; exact DataW.trod_lt m _ _ _ hm
  obtain ⟨A0, l0, c0, e0, R0⟩ := L8.open_nums (hval 0 26 v0 rfl rfl) h0
  subst e0
  have N0 := nil_nums h0
  obtain ⟨A1, l1, c1, e1, R1⟩ := L8.open_mks (hval 1 27 v1 rfl rfl) h1
  subst e1
  obtain ⟨r2, e2, R2⟩ := L8.open_sc (hval 2 36 v2 rfl rfl) h2
  subst e2
  have Z2 := L8.reach_sc hsz (j := 2) rfl rfl h2
  clear hA0 hval0
  refine (walk W A0 l0 c0 R0 N0 A1 l1 c1 R1 r2 R2 Z2).mono fun e W' ⟨he, bel⟩ => ?_
  subst he
  exact ⟨_, rfl, _, _, _, [], _, [], hW', trodAll_mk1 (shut_bool Try.underlying4 _), (trodAll_cons_mk (Below.trod laidOut (by kernel_rfl) (of_decide_eq_true (by kernel_rfl)) k0 bel lt0) (trodAll_cons_mk (Below.trod laidOut (by kernel_rfl) (of_decide_eq_true (by kernel_rfl)) k1 bel lt1) (trodAll_cons_mk (Below.trod laidOut (by kernel_rfl) (of_decide_eq_true (by kernel_rfl)) k2 bel lt2) trodAll_mk0))), rfl, bel.frame _, fun h => by cases h⟩

theorem over : Rows.dedupLoadsRow.holds Try.pinned (OpenSpec.ofChange Rows.dedupLoadsSpec) :=
  OpenClaim.holds_of_wide 4 Try.f4 rfl rfl rfl rfl rfl rfl rfl ⟨rfl, rfl, rfl, rfl, rfl⟩ rfl rfl rfl rfl rfl (by kernel_rfl) Try.func4 (by kernel_rfl)
    (of_decide_eq_true (by kernel_rfl)) (by unfold Func.isWrapper; first | (rw [if_pos (by decide +kernel)]; kernel_rfl) | (rw [if_neg (by decide +kernel)]; exact ⟨rfl, rfl⟩))
    (fun os started H enc _ => lifted os started H enc)

/-- the statement -/
theorem proved : Rows.DedupLoadsSaid :=
  over
#print axioms proved
end Go.Proofs.Ytcmlopflandlgaa.dedupLoads
