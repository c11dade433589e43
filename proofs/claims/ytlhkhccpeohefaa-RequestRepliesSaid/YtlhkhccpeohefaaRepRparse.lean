/-
  Contracts: the reply of bytes: the document's.
-/
import Derived.Test.YtlhkhccpeohefaaRepRput
import Derived.Test.YtlhkhccpeohefaaRepCut
import Derived.Test.YtlhkhccpeohefaaReqIn
import Derived.Deep.AppendLies
import Derived.Deep.DeepCutAuto
namespace Go.Proofs.Ytlhkhccpeohefaa.L4
open Go.RowKit
open L3

/-- what stands behind some steps of the reading -/
structure Doc (s : ByteArray) (w : World) (p : Option Int) (row : Array Value) (wr : World) : Prop where
  i : RdrI (w.heap.size + 1) s p wr
  x : wr.heap[w.heap.size + 1 + 1]? = some (.cells row 42 (0, 0))
  z : wr.heap[w.heap.size]? = some (.cells #[.int .i64 0, .int .i64 0, .int .i64 0, .int .i64 0, .slice none 0 0, .slice none 0 0] 42 (0, 0))
  b : Below w.heap.size w wr
section
variable {s : ByteArray} {w wr w' : World} {p q : Option Int} {row : Array Value}
theorem rdri_other {P : Nat} (h : RdrI P s p wr) (hk : w'.heap[P]? = wr.heap[P]?) : RdrI P s p w' := by
  obtain ⟨a, h1, h2⟩ := h
  exact ⟨a, hk.trans h1, h2⟩
theorem Doc.below (h : Doc s w p row wr) (hb : Below wr.heap.size wr w') : Doc s w p row w' := ⟨h.i.below hb, (hb.block _ (at_lt h.x)).trans h.x, (hb.block _ (at_lt h.z)).trans h.z, acc h.b hb⟩
theorem Doc.num (h : Doc s w p row wr) (hr : RdrI (w.heap.size + 1) s q w') (hg : wr.grownBy w' (some (w.heap.size + 1))) : Doc s w q row w' :=
  ⟨hr, g_row hg h.x (by omega), g_row hg h.z (by omega), g_bel h.b hg h.b.size (by omega)⟩
theorem Doc.set (h : Doc s w p row wr) (j : Nat) (v : Value) : Doc s w p (row.setIfInBounds j v) (wr.setCell ⟨w.heap.size + 1 + 1, j, none⟩ v) :=
  ⟨rdri_other h.i (heap_setCell_other _ _ _ _ (by simp)), heap_setCell_same _ _ j _ _ v h.x, (heap_setCell_other _ _ _ _ (by simp; omega)).trans h.z, h.b.setCell (by simp; omega) v⟩
theorem Doc.other (h : Doc s w p row wr) (G j : Nat) (hG : w.heap.size + 1 + 1 < G) (v : Value) : Doc s w p row (wr.setCell ⟨G, j, none⟩ v) :=
  ⟨rdri_other h.i (heap_setCell_other _ _ _ _ (by simp; omega)), (heap_setCell_other _ _ _ _ (by simp; omega)).trans h.x, (heap_setCell_other _ _ _ _ (by simp; omega)).trans h.z, h.b.setCell (by simp; omega) v⟩
theorem Doc.step (h : Doc s w p row wr) (q : Option Int) (tt : Int) (hq : ∀ b, q = some b → tt = b) : Doc s w q row ((wr.setCell ⟨w.heap.size + 1, 2, none⟩ (.bool q.isNone)).setCell ⟨w.heap.size + 1, 1, none⟩ (.int .i64 tt)) := by
  obtain ⟨a, h1, _⟩ := h.i
  refine ⟨⟨tt, heap_setCell_same _ _ 1 _ _ (.int .i64 tt) (heap_setCell_same _ _ 2 _ _ (.bool q.isNone) h1), hq⟩, ?_, ?_, (h.b.setCell (by simp) _).setCell (by simp) _⟩
  · exact (heap_setCell_other _ _ _ _ (by simp)).trans ((heap_setCell_other _ _ _ _ (by simp)).trans h.x)
  · exact (heap_setCell_other _ _ _ _ (by simp)).trans ((heap_setCell_other _ _ _ _ (by simp)).trans h.z)
theorem Doc.lt (h : Doc s w p row wr) : w.heap.size + 1 + 1 < wr.heap.size := at_lt h.x
theorem Doc.app (h : Doc s w p row wr) {B0 k m : Nat} {T : TypeId} {V : Value} {xs : List Value} {wx : World} (ho : wr.ownsRow B0 T m V k xs) (hB : w.heap.size + 1 + 1 < B0) (hb : Below wr.heap.size wr wx) (hg : wx.grownBy w' V.ownBlock) : Doc s w p row w' := by
  have hl := h.lt
  have hz := hb.size
  have hne : ∀ b, b < B0 → some b ≠ V.ownBlock := fun b hb2 e => by have := (ho.lt b e.symm).1; omega
  have h2 := h.below hb
  refine ⟨rdri_other h2.i (hg.block _ (by omega) (hne _ (by omega))), (hg.block _ (by omega) (hne _ hB)).trans h2.x, (hg.block _ (by omega) (hne _ (by omega))).trans h2.z, h2.b.grown hg h2.b.size (fun j e => by have := (ho.lt j e).1; omega)⟩
end
theorem own_far {w w' : World} {base k m P : Nat} {T : TypeId} {V : Value} {xs : List Value} (h : w.ownsRow base T m V k xs) (hg : w.grownBy w' (some P)) (hP : ∀ b, V.ownBlock = some b → b ≠ P) : w'.ownsRow base T m V k xs :=
  h.kept hg (by
    rcases hb : V.ownBlock with _ | b
    · exact .inl rfl
    · exact .inr (fun e => hP b hb (Option.some.inj e)))
theorem own_setf {w : World} {base k m G j : Nat} {T : TypeId} {V v : Value} {xs : List Value} (h : w.ownsRow base T m V k xs) (hP : ∀ b, V.ownBlock = some b → b ≠ G) : (w.setCell ⟨G, j, none⟩ v).ownsRow base T m V k xs := own_far h (g_set v) hP
theorem own_apart {V V2 : Value} {B : Nat} (h1 : ∀ b, V.ownBlock = some b → b < B) (h2 : ∀ b, V2.ownBlock = some b → B ≤ b) : V.ownBlock = none ∨ V.ownBlock ≠ V2.ownBlock := by
  rcases h : V.ownBlock with _ | b
  · exact .inl rfl
  · exact .inr (fun e => by have := h1 b h; have := h2 b e.symm; omega)
theorem bool_is (P : Prop) : ∃ v : Bool, v = true ↔ P := by
  by_cases h : P
  · exact ⟨true, by simp [h]⟩
  · exact ⟨false, by simp [h]⟩
theorem isNone_step (p : Option Int) (t e : Int) (h : p.isNone = false) : (stepTo p t e).isNone = (e != 0) := by
  cases p with
  | none => cases h
  | some b =>
    by_cases he : e = 0
    · simp [stepTo, he]
    · simp [stepTo, he]
theorem step_at {p : Option Int} {t e : Int} : ∀ b, stepTo p t e = some b → t = b := fun b h => by
  cases p with
  | none => cases h
  | some _ =>
    by_cases he : e = 0
    · simpa [stepTo, he] using h
    · simp [stepTo, he] at h
theorem fd_step {s : ByteArray} {a : Int} {no : Nat} {p1 : Option Int} (hn : rNum s 1099511627776 (some a) = (no, p1)) {q : R} {at1 t e : Int} (h2 : ∀ b, p1 = some b → at1 = b) (hg : getR s at1 = (q, t, e)) :
    (stepTo p1 t e ≠ none → rFd s (some a) = (⟨no, q⟩, stepTo p1 t e)) ∧ (stepTo p1 t e = none → (rFd s (some a)).2 = none) := by
  unfold rFd
  rw [hn]
  dsimp only
  rw [step_rec h2 hg]
  dsimp only
  refine ⟨fun h => ?_, fun h => h⟩
  rw [if_pos (Option.isSome_iff_ne_none.2 h)]
/-- a list that was read so far: as the plain function has it, as long as nothing was wrong -/
def Mok {α : Type} (f : Option Int → α × Option Int) (p0 : Option Int) (k : Nat) (l : List α) (p : Option Int) : Prop :=
  l.length = k ∧ (p ≠ none → rMany f p0 k = (l, p)) ∧ (p = none → (rMany f p0 k).2 = none)
theorem Mok.zero {α : Type} (f : Option Int → α × Option Int) (p0 : Option Int) : Mok f p0 0 [] p0 := ⟨rfl, fun _ => rfl, fun h => h⟩
theorem Mok.next {α : Type} {f : Option Int → α × Option Int} {p0 : Option Int} {k : Nat} {l : List α} {a : Int} (h : Mok f p0 k l (some a)) {x : α} {q : Option Int} (h1 : q ≠ none → f (some a) = (x, q)) (h2 : q = none → (f (some a)).2 = none) : Mok f p0 (k + 1) (l ++ [x]) q := by
  have e := h.2.1 (by simp)
  refine ⟨by simp [h.1], fun hq => ?_, fun hq => ?_⟩
  · show ((rMany f p0 k).1 ++ [(f (rMany f p0 k).2).1], (f (rMany f p0 k).2).2) = _
    rw [e, h1 hq]
  · show (f (rMany f p0 k).2).2 = none
    rw [e]
    exact h2 hq

theorem getR_small {s : ByteArray} {a t e : Int} {r : R} (h : getR s a = (r, t, e)) : r.key.size ≤ 64 ∧ r.val.size ≤ 512 := by
  by_cases he : e = 0
  · subst he
    have := rec_small s (some a)
    rw [show rRec s (some a) = (r, some t) from rd_some h rfl] at this
    exact this
  · rw [(getR_err h he).1]
    exact ⟨Nat.zero_le 64, Nat.zero_le 512⟩
theorem many_non {α : Type} {f : Option Int → α × Option Int} (hf : (f none).2 = none) {p0 : Option Int} {k : Nat} (h : (rMany f p0 k).2 = none) : ∀ j, (rMany f p0 (k + j)).2 = none
  | 0 => h
  | j + 1 => by
    show (f (rMany f p0 (k + j)).2).2 = none
    rw [many_non hf h j]
    exact hf
/-- a list whose reading has ended -/
def Mfin {α : Type} (f : Option Int → α × Option Int) (p0 : Option Int) (n : Nat) (l : List α) (p : Option Int) : Prop :=
  (p ≠ none → rMany f p0 (min n 65) = (l, p)) ∧ (p = none → (rMany f p0 (min n 65)).2 = none)
theorem Mok.fin {α : Type} {f : Option Int → α × Option Int} (hf : (f none).2 = none) {p0 : Option Int} {k n : Nat} {l : List α} {p : Option Int} (h : Mok f p0 k l p) (hk : k ≤ n) (hk2 : k ≤ 65) (he : ¬ (k < n ∧ p ≠ none ∧ k < 65)) : Mfin f p0 n l p := by
  refine ⟨fun hp => ?_, fun hp => ?_⟩
  · have e : min n 65 = k := by
      by_cases q : k < n
      · by_cases q2 : k < 65
        · exact absurd ⟨q, hp, q2⟩ he
        · omega
      · omega
    rw [e]
    exact h.2.1 hp
  · have := many_non hf (h.2.2 hp) (min n 65 - k)
    rwa [show k + (min n 65 - k) = min n 65 by omega] at this
theorem rfd_none (s : ByteArray) : (rFd s none).2 = none := rfl
theorem rpt_none (s : ByteArray) : (rPt s none).2 = none := rfl
theorem read_doc {s : ByteArray} {n1 n2 n3 n4 n5 n7 : Nat} {p1 p2 p3 p4 p5 p p7 p8 : Option Int} {l : List Fd} {l2 : List Pt} (h1 : rNum s 1099511627776 (some 0) = (n1, p1)) (h2 : rNum s 1099511627776 p1 = (n2, p2)) (h3 : rNum s 1099511627776 p2 = (n3, p3)) (h4 : rNum s 1099511627776 p3 = (n4, p4)) (h5 : rNum s 1099511627776 p4 = (n5, p5))
    (h6 : Mfin (rFd s) p5 n5 l p) (h7 : rNum s 1099511627776 p = (n7, p7)) (h8 : Mfin (rPt s) p7 n7 l2 p8) :
    (p8 ≠ none → readR s 1099511627776 = (⟨n1, n2, n3, n4, l, l2⟩, p8)) ∧ (p8 = none → (readR s 1099511627776).2 = none) := by
  have e : readR s 1099511627776 = (⟨n1, n2, n3, n4, (rMany (rFd s) p5 (min n5 65)).1, (rMany (rPt s) (rNum s 1099511627776 (rMany (rFd s) p5 (min n5 65)).2).2 (min (rNum s 1099511627776 (rMany (rFd s) p5 (min n5 65)).2).1 65)).1⟩, (rMany (rPt s) (rNum s 1099511627776 (rMany (rFd s) p5 (min n5 65)).2).2 (min (rNum s 1099511627776 (rMany (rFd s) p5 (min n5 65)).2).1 65)).2) := by
    unfold readR
    simp only [rFds, rPts, h1, h2, h3, h4, h5]
  by_cases hp : p = none
  · have q6 := h6.2 hp
    have e7 : rNum s 1099511627776 (rMany (rFd s) p5 (min n5 65)).2 = (n7, p7) := by rw [q6, ← hp]; exact h7
    have hp7 : p7 = none := by rw [hp] at h7; exact ((Prod.mk.inj h7).2).symm
    rw [e, e7]
    dsimp only
    have z : ∀ j, (rMany (rPt s) p7 j).2 = none := fun j => by have := many_non (rpt_none s) (k := 0) (p0 := p7) hp7 j; rwa [Nat.zero_add] at this
    refine ⟨fun h => ?_, fun _ => z _⟩
    have := h8.1 h
    rw [Prod.ext_iff] at this
    exact absurd (this.2.symm.trans (z _)) h
  · have q6 := h6.1 hp
    rw [e, q6]
    dsimp only
    rw [h7]
    dsimp only
    refine ⟨fun h => ?_, fun h => h8.2 h⟩
    rw [h8.1 h]
theorem rreply_v (e off n gen : Int) (found : List Fd) (parts : List Pt) (FA PA : Option Addr) (fc pc : Nat) (w : World) (hF : Hid (ReadsF w w.heap.size FA found)) (hP : Hid (ReadsP w w.heap.size PA parts)) (zF : Hid (found.length ≤ maxLen)) (zP : Hid (parts.length ≤ maxLen)) (sF : Hid (FSz found)) (sP : Hid (PSz parts)) (ts : ByteArray) (ee : Int)
    (HU : Hid ((⟨e, off, n, gen, found, parts⟩ : Rp).chk = ee ∧ ts = if ee = 0 then (⟨e, off, n, gen, found, parts⟩ : Rp).bytes else ⟨#[]⟩)) :
    Calls Try.prog 22 #[.agg #[.int .i64 e, .int .i64 off, .int .i64 n, .int .i64 gen, .slice FA found.length fc, .slice PA parts.length pc]] w fun x w' => x = .returned (.tuple #[.string ts, .int .i64 ee]) ∧ Below w.heap.size w w' := by
  obtain ⟨h1, h2⟩ := HU.out
  by_cases hx : ee = 0
  · subst hx
    rw [if_pos rfl] at h2
    subst h2
    exact rreply_ok ⟨e, off, n, gen, found, parts⟩ FA PA fc pc w.heap.size w (Nat.le_refl _) hF hP zF zP sF sP (Lib.hid h1)
  · rw [if_neg hx] at h2
    subst h2
    exact rreply_bad ⟨e, off, n, gen, found, parts⟩ FA PA fc pc w.heap.size w (Nat.le_refl _) hF hP zF zP sF sP ee (Lib.hid h1) hx

set_option maxRecDepth 100000 in
set_option maxHeartbeats 32000000 in
theorem rparse_in (s : ByteArray) (w : World) (hs : s.size ≤ 140737488355328) (R : Rp) (E : Int) (HGO : Hid (∀ x : Rp, x.chk = 0 → x.bytes = s → (R = x ∧ E = 0))) (HNO : Hid ((∀ x : Rp, x.chk = 0 → x.bytes ≠ s) → (R = Rp.zero ∧ E = 40))) :
    Calls Try.prog 24 #[.string s] w (GotR R E w) := by
  have HSM : Hid (s.size ≤ maxLen) := Lib.hid (by unfold maxLen; omega)
  have HSZ := Lib.hid hs
  obtain ⟨n1, p1, h1⟩ : ∃ n p, rNum s 1099511627776 (some 0) = (n, p) := ⟨_, _, rfl⟩
  have HN1 := Lib.hid h1
  obtain ⟨n2, p2, h2⟩ : ∃ n p, rNum s 1099511627776 p1 = (n, p) := ⟨_, _, rfl⟩
  have HN2 := Lib.hid h2
  obtain ⟨n3, p3, h3⟩ : ∃ n p, rNum s 1099511627776 p2 = (n, p) := ⟨_, _, rfl⟩
  have HN3 := Lib.hid h3
  obtain ⟨n4, p4, h4⟩ : ∃ n p, rNum s 1099511627776 p3 = (n, p) := ⟨_, _, rfl⟩
  have HN4 := Lib.hid h4
  obtain ⟨n5, p5, h5⟩ : ∃ n p, rNum s 1099511627776 p4 = (n, p) := ⟨_, _, rfl⟩
  have HN5 := Lib.hid h5
  clear h1 h2 h3 h4 h5 hs
  have D0 : Hid (Doc s w (some 0) #[.int .i64 0, .int .i64 0, .int .i64 0, .int .i64 0, .slice none 0 0, .slice none 0 0] (((w.alloc (.cells #[.int .i64 0, .int .i64 0, .int .i64 0, .int .i64 0, .slice none 0 0, .slice none 0 0] 42 (0, 0))).alloc (.cells #[.string s, .int .i64 0, .bool false] 93 (0, 0))).alloc (.cells #[.int .i64 0, .int .i64 0, .int .i64 0, .int .i64 0, .slice none 0 0, .slice none 0 0] 42 (0, 0)))) := Lib.hid
    ⟨⟨0, heap_alloc3_1 w _ _ _, fun _ q => Option.some.inj q⟩, heap_alloc3_2 w _ _ _, heap_alloc3_0 w _ _ _, below3⟩
  go_enter Try.func24, Try.ntmps24
  go_upto_region 6 with (first
    | (have _q := D3; go_at_call 54; refine (in_num (w.heap.size + 1) s p3 p4 n4 _ HSM.out HN4 D3.out.i).mono ?_; rintro e w4 ⟨rfl, hr, hg⟩; have E4 := Lib.hid (D3.out.num hr hg); have y4 := row_of (j := 3) E4.out.x rfl; have f4 := frozen_of_row _ _ 3 _ _ E4.out.x; have D4 : Hid (Doc s w p4 #[.int .i64 n1, .int .i64 n2, .int .i64 n3, .int .i64 n4, .slice none 0 0, .slice none 0 0] (w4.setCell ⟨w.heap.size + 1 + 1, 3, none⟩ (.int .i64 n4))) := Lib.hid (E4.out.set 3 _); clear hr hg)
    | (have _q := D2; go_at_call 54; refine (in_num (w.heap.size + 1) s p2 p3 n3 _ HSM.out HN3 D2.out.i).mono ?_; rintro e w3 ⟨rfl, hr, hg⟩; have E3 := Lib.hid (D2.out.num hr hg); have y3 := row_of (j := 2) E3.out.x rfl; have f3 := frozen_of_row _ _ 2 _ _ E3.out.x; have D3 : Hid (Doc s w p3 #[.int .i64 n1, .int .i64 n2, .int .i64 n3, .int .i64 0, .slice none 0 0, .slice none 0 0] (w3.setCell ⟨w.heap.size + 1 + 1, 2, none⟩ (.int .i64 n3))) := Lib.hid (E3.out.set 2 _); clear hr hg)
    | (have _q := D1; go_at_call 54; refine (in_num (w.heap.size + 1) s p1 p2 n2 _ HSM.out HN2 D1.out.i).mono ?_; rintro e w2 ⟨rfl, hr, hg⟩; have E2 := Lib.hid (D1.out.num hr hg); have y2 := row_of (j := 1) E2.out.x rfl; have f2 := frozen_of_row _ _ 1 _ _ E2.out.x; have D2 : Hid (Doc s w p2 #[.int .i64 n1, .int .i64 n2, .int .i64 0, .int .i64 0, .slice none 0 0, .slice none 0 0] (w2.setCell ⟨w.heap.size + 1 + 1, 1, none⟩ (.int .i64 n2))) := Lib.hid (E2.out.set 1 _); clear hr hg)
    | (have _q := D0; go_at_call 54; refine (in_num (w.heap.size + 1) s (some 0) p1 n1 _ HSM.out HN1 D0.out.i).mono ?_; rintro e w1 ⟨rfl, hr, hg⟩; have E1 := Lib.hid (D0.out.num hr hg); have y1 := row_of (j := 0) E1.out.x rfl; have f1 := frozen_of_row _ _ 0 _ _ E1.out.x; have D1 : Hid (Doc s w p1 #[.int .i64 n1, .int .i64 0, .int .i64 0, .int .i64 0, .slice none 0 0, .slice none 0 0] (w1.setCell ⟨w.heap.size + 1 + 1, 0, none⟩ (.int .i64 n1))) := Lib.hid (E1.out.set 0 _); clear hr hg))
  clear y1 y2 y3 y4 f1 f2 f3 f4 E1 E2 E3 E4 D0 D1 D2 D3
  go_wp2_with (have _q := D4; go_at_call 54; refine (in_num (w.heap.size + 1) s p4 p5 n5 _ HSM.out HN5 D4.out.i).mono ?_; rintro e w5 ⟨rfl, hr, hg⟩; have E5 := Lib.hid (D4.out.num hr hg); clear hr hg)
  clear D4
  obtain ⟨W5, hW⟩ : ∃ W5 : World, W5 = w5 := ⟨_, rfl⟩
  subst hW
  have HB0 : Hid (w.heap.size + 1 + 1 < W5.heap.size) := Lib.hid E5.out.lt
  obtain ⟨i0, hi0, hiz, hi1, hi2⟩ := info_parts foundInfo
  go_loopw [7] (fun i wr => ∃ (k : Nat) (V : Value) (l : List Fd) (p : Option Int), k ≤ n5 ∧ k ≤ 65 ∧ i = .int .i64 k ∧ Hid (Mok (rFd s) p5 k l p) ∧ Hid (Doc s w p #[.int .i64 n1, .int .i64 n2, .int .i64 n3, .int .i64 n4, V, .slice none 0 0] wr) ∧ Hid (W5.heap.size ≤ wr.heap.size) ∧ Hid (∀ f ∈ l, f.r.key.size ≤ 64 ∧ f.r.val.size ≤ 512) ∧ wr.ownsRow W5.heap.size 78 5 V k (rowF l)) (fun i _ => n5 - (intOf i).toNat)
  case atStart => exact ⟨0, .slice none 0 0, [], p5, by omega, by omega, rfl, Lib.hid (Mok.zero _ _), E5, Lib.hid (Nat.le_refl _), Lib.hid (by simp), World.ownsRow_nil _ _ _ _⟩
  case round =>
    obtain ⟨k, V, l, p, hk, hk65, rfl, hmok, hdoc, hsz, hsm, hown⟩ := hrel
    have b2 : wr.cell? ⟨w.heap.size + 1, 2, none⟩ = some (.bool p.isNone) := by
      obtain ⟨a, hi1', _⟩ := hdoc.out.i
      exact row_of hi1' rfl
    have HO := Lib.hid hown
    obtain ⟨c, hc⟩ := bool_is (k < n5 ∧ p ≠ none ∧ k < 65)
    have HC := Lib.hid hc
    clear hown hc
    go_upto_region 8 with (fail)
    go_cut [48] (fun s48 wx => s48 = .bool c ∧ wr = wx)
    case first =>
      by_cases q1 : k < n5
      · have q1' : (k : Int) < (n5 : Int) := by omega
        cases p with
        | none =>
          have hcf : Hid (c = false) := Lib.hid (by cases c; rfl; exact absurd rfl (HC.out.1 rfl).2.1)
          have b2 : wr.cell? ⟨w.heap.size + 1, 2, none⟩ = some (.bool true) := b2
          go_wp2_with fail
          go_meet
          exact ⟨by rw [hcf.out], rfl⟩
        | some a =>
          have b2 : wr.cell? ⟨w.heap.size + 1, 2, none⟩ = some (.bool false) := b2
          by_cases q3 : k < 65
          · have q3' : (k : Int) < 65 := by omega
            have hcf : Hid (c = true) := Lib.hid (HC.out.2 ⟨q1, by simp, q3⟩)
            go_wp2_with fail
            go_meet
            exact ⟨by rw [hcf.out], rfl⟩
          · have q3' : ¬ (k : Int) < 65 := by omega
            have hcf : Hid (c = false) := Lib.hid (by cases c; rfl; exact absurd (HC.out.1 rfl).2.2 q3)
            go_wp2_with fail
            go_meet
            exact ⟨by rw [hcf.out], rfl⟩
      · have q1' : ¬ (k : Int) < (n5 : Int) := by omega
        have hcf : Hid (c = false) := Lib.hid (by cases c; rfl; exact absurd (HC.out.1 rfl).1 q1)
        go_wp2_with fail
        go_meet
        exact ⟨by rw [hcf.out], rfl⟩
    case rest =>
      obtain ⟨rfl, rfl⟩ := hcut
      clear b2
      cases c with
      | true =>
        obtain ⟨hkn, hpn, hk65'⟩ := HC.out.1 rfl
        obtain ⟨a, rfl⟩ : ∃ a, p = some a := Option.ne_none_iff_exists'.1 hpn
        obtain ⟨no, p1, hn1⟩ : ∃ n q, rNum s 1099511627776 (some a) = (n, q) := ⟨_, _, rfl⟩
        have HN := Lib.hid hn1
        clear hn1 hpn HC
        go_upto_region 11 with (go_at_call 54; refine (in_num (w.heap.size + 1) s (some a) p1 no _ HSM.out HN hdoc.out.i).mono ?_; rintro e wa ⟨rfl, hr, hg⟩; have DA := Lib.hid (hdoc.out.num hr hg); have OA := Lib.hid (own_far HO.out hg (fun b e => by have := (HO.out.lt b e).1; have := HB0.out; omega)); have GA := Lib.hid hg.size; clear hr hg)
        have DF := Lib.hid (DA.out.below (one_box (.cells #[.int .i64 no, .bool false, .string ⟨#[]⟩, .bool false, .string ⟨#[]⟩] 78 (0, 0))))
        have OF := Lib.hid (OA.out.alloc (.cells #[.int .i64 no, .bool false, .string ⟨#[]⟩, .bool false, .string ⟨#[]⟩] 78 (0, 0)))
        have RF := Lib.hid (heap_alloc_new wa (.cells #[.int .i64 no, .bool false, .string ⟨#[]⟩, .bool false, .string ⟨#[]⟩] 78 (0, 0)))
        have HVF : Hid (∀ b, V.ownBlock = some b → W5.heap.size ≤ b ∧ b < wa.heap.size) := Lib.hid OA.out.lt
        have HF : Hid (w.heap.size + 1 + 1 < wa.heap.size ∧ wa.heap.size < (wa.alloc (.cells #[.int .i64 no, .bool false, .string ⟨#[]⟩, .bool false, .string ⟨#[]⟩] 78 (0, 0))).heap.size) := Lib.hid ⟨DA.out.lt, by simp⟩
        have HFS : Hid (W5.heap.size ≤ (wa.alloc (.cells #[.int .i64 no, .bool false, .string ⟨#[]⟩, .bool false, .string ⟨#[]⟩] 78 (0, 0))).heap.size) := Lib.hid (by have := hsz.out; have := GA.out; simp; omega)
        clear DA OA GA HO
        generalize wa.alloc (.cells #[.int .i64 no, .bool false, .string ⟨#[]⟩, .bool false, .string ⟨#[]⟩] 78 (0, 0)) = WA at DF OF RF HF HFS ⊢
        generalize wa.heap.size = F at RF HVF HF ⊢
        obtain ⟨at1, hi1', hi2'⟩ := DF.out.i
        obtain ⟨⟨qk, qkey, qt, qval⟩, t2, e2, hgr⟩ : ∃ r t e, getR s at1 = (r, t, e) := ⟨_, _, _, rfl⟩
        have HG := Lib.hid hgr
        have HST := Lib.hid (fd_step HN.out hi2' hgr)
        have HQS := Lib.hid (getR_small hgr)
        have HI := Lib.hid hi1'
        have x0 : WA.cell? ⟨w.heap.size + 1, 0, none⟩ = some (.string s) := row_of hi1' rfl
        have x1 : WA.cell? ⟨w.heap.size + 1, 1, none⟩ = some (.int .i64 at1) := row_of hi1' rfl
        clear hgr hi1' hi2'
        have HS : Hid (∀ w', Below WA.heap.size WA w' → (w'.cell? ⟨w.heap.size + 1, 0, none⟩ = some (.string s) ∧ w'.cell? ⟨w.heap.size + 1, 1, none⟩ = some (.int .i64 at1)) ∧ Below WA.heap.size WA w') := Lib.hid (fun w' hb => ⟨⟨row_of ((hb.block _ (at_lt HI.out)).trans HI.out) rfl, row_of ((hb.block _ (at_lt HI.out)).trans HI.out) rfl⟩, hb⟩)
        go_cut [9, 10, 11] (fun s9 s10 s11 wx => ∃ g : Nat, s9 = .pointer (some ⟨g, 0, none⟩) ∧ s10 = .int .i64 t2 ∧ s11 = .int .i64 e2 ∧ Hid (WA.heap.size ≤ g) ∧ Hid (wx.heap[g]? = some (.cells #[.bool qk, .string qkey, .bool qt, .string qval] 76 (0, 0))) ∧ Hid (Below WA.heap.size WA wx))
        case first =>
          go_region_held3 (fun w' => (w'.cell? ⟨w.heap.size + 1, 0, none⟩ = some (.string s) ∧ w'.cell? ⟨w.heap.size + 1, 1, none⟩ = some (.int .i64 at1)) ∧ Below WA.heap.size WA w')
            (first | with_reducible assumption | exact HS.out _ (Below.refl _ _).drew | exact HS.out _ (one_box _).drew | exact HB1.out | exact HS.out _ ((HB1.out.2.alloc HB1.out.2.size _)) | (refine HS.out _ ?_; repeat (first | with_reducible exact HB1.out.2 | with_reducible refine Below.drew ?_ | with_reducible refine Below.setCell ?_ (by first | (simp; omega) | simp) _ | with_reducible refine Below.alloc ?_ (by first | (simp; omega) | simp) _)))
            ((go_at_call 55; refine (rgetrec_is _ _ _ _ _ _ HSZ.out HG).mono ?_; rintro e w1 ⟨rfl, hb1⟩; have HB1 : Hid (_ ∧ Below WA.heap.size WA w1) := Lib.hid (by first | exact HS.out _ ((Below.refl _ _).drew.trans hb1) | exact HS.out _ ((one_box _).drew.trans (hb1.mono (by simp)))); have HB1S := Lib.hid hb1; try (have rr := (hb1.block WA.heap.size (by simp)).trans (show _ = _ from heap_alloc_new WA _); have q0 := row_of (j := 0) rr rfl; have q1 := row_of (j := 1) rr rfl; have q2 := row_of (j := 2) rr rfl; have q3 := row_of (j := 3) rr rfl; have g0 := frozen_of_row _ _ 0 _ _ rr; have g1 := frozen_of_row _ _ 1 _ _ rr; have g2 := frozen_of_row _ _ 2 _ _ rr; have g3 := frozen_of_row _ _ 3 _ _ rr; have RR := Lib.hid rr; clear rr); clear hb1))
          · go_wp2_with fail
            go_meet
            exact ⟨_, rfl, rfl, rfl, Lib.hid HB1.out.2.size, Lib.hid (heap_alloc_new w1 _), Lib.hid (HB1.out.2.alloc HB1.out.2.size _)⟩
          · go_wp2_with fail
            go_meet
            exact ⟨_, rfl, rfl, rfl, Lib.hid (Nat.le_refl _), Lib.hid (set4 RR.out), Lib.hid (set4_below HB1.out.2 (Nat.le_refl _) _ _ _ _)⟩
        case rest =>
          obtain ⟨g, rfl, rfl, rfl, HGL, HGR, HGB⟩ := hcut
          have DC := Lib.hid (DF.out.below HGB.out)
          have OC := Lib.hid (own_below OF.out HGB.out)
          have RC := Lib.hid ((HGB.out.block F (at_lt RF.out)).trans RF.out)
          obtain ⟨bb, hbb⟩ : ∃ bb, (stepTo p1 t2 e2).isNone = bb := ⟨_, rfl⟩
          have HBB := Lib.hid hbb
          have QI := Lib.hid ((HGB.out.block _ (at_lt HI.out)).trans HI.out)
          have DW : Hid (Doc s w (stepTo p1 t2 e2) #[.int .i64 n1, .int .i64 n2, .int .i64 n3, .int .i64 n4, V, .slice none 0 0] ((((((wc.setCell ⟨w.heap.size + 1, 2, none⟩ (.bool bb)).setCell ⟨w.heap.size + 1, 1, none⟩ (.int .i64 t2)).setCell ⟨F, 1, none⟩ (.bool qk)).setCell ⟨F, 2, none⟩ (.string qkey)).setCell ⟨F, 3, none⟩ (.bool qt)).setCell ⟨F, 4, none⟩ (.string qval))) := Lib.hid (by
            have h := DC.out.step (stepTo p1 t2 e2) t2 step_at
            rw [hbb] at h
            exact (((h.other F 1 HF.out.1 _).other F 2 HF.out.1 _).other F 3 HF.out.1 _).other F 4 HF.out.1 _)
          have OW : Hid (((((((wc.setCell ⟨w.heap.size + 1, 2, none⟩ (.bool bb)).setCell ⟨w.heap.size + 1, 1, none⟩ (.int .i64 t2)).setCell ⟨F, 1, none⟩ (.bool qk)).setCell ⟨F, 2, none⟩ (.string qkey)).setCell ⟨F, 3, none⟩ (.bool qt)).setCell ⟨F, 4, none⟩ (.string qval)).ownsRow W5.heap.size 78 5 V k (rowF l)) := Lib.hid (by
            have nI : ∀ b, V.ownBlock = some b → b ≠ w.heap.size + 1 := fun b e => by have := (HVF.out b e).1; have := HB0.out; omega
            have nF : ∀ b, V.ownBlock = some b → b ≠ F := fun b e => by have := (HVF.out b e).2; omega
            exact own_setf (own_setf (own_setf (own_setf (own_setf (own_setf OC.out nI) nI) nF) nF) nF) nF)
          have nFI : F ≠ w.heap.size + 1 := by have := HF.out.1; omega
          have RW : Hid (((((((wc.setCell ⟨w.heap.size + 1, 2, none⟩ (.bool bb)).setCell ⟨w.heap.size + 1, 1, none⟩ (.int .i64 t2)).setCell ⟨F, 1, none⟩ (.bool qk)).setCell ⟨F, 2, none⟩ (.string qkey)).setCell ⟨F, 3, none⟩ (.bool qt)).setCell ⟨F, 4, none⟩ (.string qval)).heap[F]? = some (.cells #[.int .i64 no, .bool qk, .string qkey, .bool qt, .string qval] 78 (0, 0))) := Lib.hid
            (heap_setCell_same _ F 4 _ _ (.string qval) (heap_setCell_same _ F 3 _ _ (.bool qt) (heap_setCell_same _ F 2 _ _ (.string qkey) (heap_setCell_same _ F 1 _ _ (.bool qk) ((heap_setCell_other _ _ _ _ nFI).trans ((heap_setCell_other _ _ _ _ nFI).trans RC.out))))))
          have HSW : Hid (W5.heap.size ≤ ((((((wc.setCell ⟨w.heap.size + 1, 2, none⟩ (.bool bb)).setCell ⟨w.heap.size + 1, 1, none⟩ (.int .i64 t2)).setCell ⟨F, 1, none⟩ (.bool qk)).setCell ⟨F, 2, none⟩ (.string qkey)).setCell ⟨F, 3, none⟩ (.bool qt)).setCell ⟨F, 4, none⟩ (.string qval)).heap.size) := Lib.hid (by have := HFS.out; have := HGB.out.size; simp; omega)
          have u0 := row_of (j := 0) QI.out rfl
          have u1 := row_of (j := 1) QI.out rfl
          have u2 : wc.cell? ⟨w.heap.size + 1, 2, none⟩ = some (.bool p1.isNone) := row_of (j := 2) QI.out rfl
          have v1 := frozen_of_row _ _ 1 _ _ QI.out
          have v2 := frozen_of_row _ _ 2 _ _ QI.out
          have m0 := row_of (j := 0) RC.out rfl
          have m1 := row_of (j := 1) RC.out rfl
          have m2 := row_of (j := 2) RC.out rfl
          have m3 := row_of (j := 3) RC.out rfl
          have m4 := row_of (j := 4) RC.out rfl
          have l1 := frozen_of_row _ _ 1 _ _ RC.out
          have l2 := frozen_of_row _ _ 2 _ _ RC.out
          have l3 := frozen_of_row _ _ 3 _ _ RC.out
          have l4 := frozen_of_row _ _ 4 _ _ RC.out
          have z0 := row_of (j := 0) HGR.out rfl
          have z1 := row_of (j := 1) HGR.out rfl
          have z2 := row_of (j := 2) HGR.out rfl
          have z3 := row_of (j := 3) HGR.out rfl
          have nIF : w.heap.size + 1 ≠ F := nFI.symm
          have ngI : g ≠ w.heap.size + 1 := by have := HGL.out; have := HF.out; omega
          have ngF : g ≠ F := by have := HGL.out; have := HF.out; omega
          go_upto_region 12 with (fail)
          go_cut [10] (fun s10 wx => s10 = .int .i64 t2 ∧ wc.setCell ⟨w.heap.size + 1, 2, none⟩ (.bool bb) = wx)
          case first =>
            cases hq : p1.isNone with
            | false =>
              have hx : (e2 != 0) = bb := by rw [← hbb]; exact (isNone_step _ _ _ hq).symm
              rw [hq] at u2
              clear hbb
              go_wp2_with fail
              go_meet
              exact ⟨rfl, rfl⟩
            | true =>
              have hx : bb = true := by rw [← hbb]; cases p1; rfl; cases hq
              rw [hq] at u2
              have HX := Lib.hid hx
              clear hbb hx
              go_wp2_with fail
              go_meet
              exact ⟨rfl, by rw [HX.out]⟩
          case rest =>
            obtain ⟨rfl, rfl⟩ := hcut
            clear hbb u2
            go_upto_region 15 with (fail)
            clear u0 u1 v1 v2 m0 m1 m2 m3 m4 l1 l2 l3 l4 z0 z1 z2 z3 nIF ngI ngF nFI DC OC RC QI HGR HGB HGL DF OF RF HI HS x0 x1
            generalize ((((((wc.setCell ⟨w.heap.size + 1, 2, none⟩ (.bool bb)).setCell ⟨w.heap.size + 1, 1, none⟩ (.int .i64 t2)).setCell ⟨F, 1, none⟩ (.bool qk)).setCell ⟨F, 2, none⟩ (.string qkey)).setCell ⟨F, 3, none⟩ (.bool qt)).setCell ⟨F, 4, none⟩ (.string qval)) = W' at DW OW RW HSW ⊢
            have x4 := row_of (j := 4) DW.out.x rfl
            have r0 := row_of (j := 0) RW.out rfl
            have r1 := row_of (j := 1) RW.out rfl
            have r2 := row_of (j := 2) RW.out rfl
            have r3 := row_of (j := 3) RW.out rfl
            have r4 := row_of (j := 4) RW.out rfl
            have hn : k + 1 ≤ maxLen := by unfold maxLen; omega
            have hnb : (k + 1) * 56 ≤ 140737488355328 := by omega
            go_wp2_with (at_builtin; refine wpList_append_lies _ rfl _ _ 39 (by rfl) W5.heap.size 78 i0 _ 5 56 Try.underlying39 hi0 hiz hi1 hi2 rfl (by omega) V k (rowF l) (by rfl) (OW.out.alloc _) ⟨W'.heap.size, 0, none⟩ 1 1 [.int .i64 no, .bool qk, .string qkey, .bool qt, .string qval] (by rfl) (by rfl) (World.news_of_block (cs := #[.int .i64 no, .bool qk, .string qkey, .bool qt, .string qval]) (t := 78) (fr := (0, 0)) (heap_alloc_new W' _)) (by simp [Value.oneCell']) (by omega) hn hnb (by have := HSW.out; simp; omega) (W'.heap.size + 1) (by simp) ?_; intro gg cc w2 hown2 hgrow hat hltg; have D2 := Lib.hid (DW.out.app OW.out HB0.out (one_box _) hgrow); have hx3 := row_of (j := 4) D2.out.x rfl; have hy3 := frozen_of_row _ _ 4 _ _ D2.out.x)
            go_roundw
            case rel =>
              exact ⟨k + 1, .slice (some ⟨gg, 0, none⟩) (k + 1) cc, l ++ [⟨no, ⟨qk, qkey, qt, qval⟩⟩], stepTo p1 t2 e2, by omega, by omega, by go_num, Lib.hid (hmok.out.next HST.out.1 HST.out.2), Lib.hid (D2.out.set 4 _), Lib.hid (by have := HSW.out; have := hgrow.size; simp at this ⊢; omega), Lib.hid (fun f hf => by rcases List.mem_append.1 hf with h | h; exact hsm.out f h; rw [List.mem_singleton.1 h]; exact HQS.out), by rw [rowF_app]; exact ownsRow_setCell_below hown2 HB0.out _⟩
            case measure => simp [intOf]; omega
      | false =>
        have hcf : ¬ (k < n5 ∧ p ≠ none ∧ k < 65) := fun h => by have := HC.out.2 h; cases this
        have HM := Lib.hid (hmok.out.fin (rfd_none s) hk hk65 hcf)
        have hl := hmok.out.1
        subst hl
        obtain ⟨FA, fc, rfl⟩ := own_form HO.out
        obtain ⟨n7, p7, hn7⟩ : ∃ n q, rNum s 1099511627776 p = (n, q) := ⟨_, _, rfl⟩
        have HN7 := Lib.hid hn7
        clear hn7 hcf HC hi0 hiz hi1 hi2
        go_wp2_with (go_at_call 54; refine (in_num (w.heap.size + 1) s p p7 n7 _ HSM.out HN7 hdoc.out.i).mono ?_; rintro e w7 ⟨rfl, hr, hg⟩; have E7 := Lib.hid (hdoc.out.num hr hg); have O7 := Lib.hid (own_far HO.out hg (fun b e => by have := (HO.out.lt b e).1; have := HB0.out; omega)); have G7 := Lib.hid (Nat.le_trans hsz.out hg.size); clear hr hg)
        obtain ⟨W7, hW⟩ : ∃ W7 : World, W7 = w7 := ⟨_, rfl⟩
        subst hW
        have HB7 : Hid (w.heap.size + 1 + 1 < W7.heap.size) := Lib.hid E7.out.lt
        have HFB : Hid (∀ b, (Value.slice FA l.length fc).ownBlock = some b → W5.heap.size ≤ b ∧ b < W7.heap.size) := Lib.hid O7.out.lt
        have HL65 := Lib.hid hk65
        clear hdoc hsz HO hmok hk hk65
        obtain ⟨i0, hi0, hiz, hi1, hi2⟩ := info_parts partInfo
        as_aux_lemma =>
        go_loopw [13] (fun i wr => ∃ (k : Nat) (V2 : Value) (l2 : List Pt) (p8 : Option Int), k ≤ n7 ∧ k ≤ 65 ∧ i = .int .i64 k ∧ Hid (Mok (rPt s) p7 k l2 p8) ∧ Hid (Doc s w p8 #[.int .i64 n1, .int .i64 n2, .int .i64 n3, .int .i64 n4, .slice FA l.length fc, V2] wr) ∧ Hid (W7.heap.size ≤ wr.heap.size) ∧ Hid (∀ f ∈ l2, f.t.size ≤ 16) ∧ Hid (wr.ownsRow W5.heap.size 78 5 (.slice FA l.length fc) l.length (rowF l)) ∧ wr.ownsRow W7.heap.size 23 2 V2 k (rowP l2)) (fun i _ => n7 - (intOf i).toNat)
        case atStart => exact ⟨0, .slice none 0 0, [], p7, by omega, by omega, rfl, Lib.hid (Mok.zero _ _), E7, Lib.hid (Nat.le_refl _), Lib.hid (by simp), O7, World.ownsRow_nil _ _ _ _⟩
        case round =>
          obtain ⟨k, V2, l2, p8, hk, hk65, rfl, hmok, hdoc, hsz, hps, hol, hown⟩ := hrel
          have b2 : wr.cell? ⟨w.heap.size + 1, 2, none⟩ = some (.bool p8.isNone) := by
            obtain ⟨a, hi1', _⟩ := hdoc.out.i
            exact row_of hi1' rfl
          have HO := Lib.hid hown
          obtain ⟨c, hc⟩ := bool_is (k < n7 ∧ p8 ≠ none ∧ k < 65)
          have HC := Lib.hid hc
          clear hown hc
          go_upto_region 18 with (fail)
          go_cut [105] (fun s48 wx => s48 = .bool c ∧ wr = wx)
          case first =>
            by_cases q1 : k < n7
            · have q1' : (k : Int) < (n7 : Int) := by omega
              cases p8 with
              | none =>
                have hcf : Hid (c = false) := Lib.hid (by cases c; rfl; exact absurd rfl (HC.out.1 rfl).2.1)
                have b2 : wr.cell? ⟨w.heap.size + 1, 2, none⟩ = some (.bool true) := b2
                go_wp2_with fail
                go_meet
                exact ⟨by rw [hcf.out], rfl⟩
              | some a =>
                have b2 : wr.cell? ⟨w.heap.size + 1, 2, none⟩ = some (.bool false) := b2
                by_cases q3 : k < 65
                · have q3' : (k : Int) < 65 := by omega
                  have hcf : Hid (c = true) := Lib.hid (HC.out.2 ⟨q1, by simp, q3⟩)
                  go_wp2_with fail
                  go_meet
                  exact ⟨by rw [hcf.out], rfl⟩
                · have q3' : ¬ (k : Int) < 65 := by omega
                  have hcf : Hid (c = false) := Lib.hid (by cases c; rfl; exact absurd (HC.out.1 rfl).2.2 q3)
                  go_wp2_with fail
                  go_meet
                  exact ⟨by rw [hcf.out], rfl⟩
            · have q1' : ¬ (k : Int) < (n7 : Int) := by omega
              have hcf : Hid (c = false) := Lib.hid (by cases c; rfl; exact absurd (HC.out.1 rfl).1 q1)
              go_wp2_with fail
              go_meet
              exact ⟨by rw [hcf.out], rfl⟩
          case rest =>
            obtain ⟨rfl, rfl⟩ := hcut
            clear b2
            cases c with
            | true =>
              obtain ⟨hkn, hpn, hk65'⟩ := HC.out.1 rfl
              obtain ⟨a, rfl⟩ : ∃ a, p8 = some a := Option.ne_none_iff_exists'.1 hpn
              obtain ⟨t, q1, ht1⟩ : ∃ t q, rTxt s (some a) = (t, q) := ⟨_, _, rfl⟩
              obtain ⟨m, q2, hm1⟩ : ∃ m q, rNum s 1099511627776 q1 = (m, q) := ⟨_, _, rfl⟩
              have HT := Lib.hid ht1
              have HN := Lib.hid hm1
              have HTS : Hid (t.size ≤ 16) := Lib.hid (by have := txt_small (s := s) (some a); rwa [ht1] at this)
              have HST : Hid (rPt s (some a) = (⟨t, m⟩, q2)) := Lib.hid (by unfold rPt; rw [ht1]; dsimp only; rw [hm1])
              clear ht1 hm1 hpn HC
              go_upto_region 22 with (first
                | (have _q := DT; go_at_call 54; refine (in_num (w.heap.size + 1) s q1 q2 m _ HSM.out HN (DT.out.below (one_box _)).i).mono ?_; rintro e wb ⟨rfl, hr, hg⟩; have DB := Lib.hid ((DT.out.below (one_box (.cells #[.string t, .int .i64 0] 23 (0, 0)))).num hr hg); have OB := Lib.hid (own_far (OT.out.alloc (.cells #[.string t, .int .i64 0] 23 (0, 0))) hg (fun b e => by have := (OT.out.lt b e).1; have := HB7.out; omega)); have LB := Lib.hid (own_far (LT.out.alloc (.cells #[.string t, .int .i64 0] 23 (0, 0))) hg (fun b e => by have := (LT.out.lt b e).1; have := HB0.out; omega)); have GB := Lib.hid hg.size; have rb := g_row hg (heap_alloc_new wa (.cells #[.string t, .int .i64 0] 23 (0, 0))) (by have := DT.out.lt; omega); have RB := Lib.hid rb; have y1 := row_of (j := 1) rb rfl; have f1 := frozen_of_row _ _ 1 _ _ rb; clear hr hg rb)
                | (go_at_call 56; refine (in_txt (w.heap.size + 1) s (some a) q1 t _ HSZ.out HT hdoc.out.i).mono ?_; rintro e wa ⟨rfl, hr, hg⟩; have DT := Lib.hid (hdoc.out.num hr hg); have OT := Lib.hid (own_far HO.out hg (fun b e => by have := (HO.out.lt b e).1; have := HB7.out; omega)); have LT := Lib.hid (own_far hol.out hg (fun b e => by have := (hol.out.lt b e).1; have := HB0.out; omega)); have GT := Lib.hid hg.size; clear hr hg))
              have hG : Hid (W7.heap.size ≤ wa.heap.size ∧ w.heap.size + 1 + 1 < wa.heap.size) := Lib.hid ⟨Nat.le_trans hsz.out GT.out, DT.out.lt⟩
              have HVB : Hid (∀ b, V2.ownBlock = some b → W7.heap.size ≤ b ∧ b < wa.heap.size) := Lib.hid OT.out.lt
              have HWB : Hid (W7.heap.size ≤ wb.heap.size) := Lib.hid (by have := GB.out; have := hG.out.1; simp at *; omega)
              clear y1 f1 DT OT LT GT GB HO
              generalize wa.heap.size = G at RB hG HVB ⊢
              have DW := Lib.hid (DB.out.other G 1 hG.out.2 (.int .i64 m))
              have OW := Lib.hid (own_setf (G := G) (j := 1) (v := .int .i64 m) OB.out (fun b e => by have := (HVB.out b e).2; omega))
              have LW := Lib.hid (own_setf (G := G) (j := 1) (v := .int .i64 m) LB.out (fun b e => by have := (HFB.out b e).2; have := hG.out.1; omega))
              have RW := Lib.hid (heap_setCell_same wb G 1 _ _ (.int .i64 m) RB.out)
              have HSW : Hid (W7.heap.size ≤ (wb.setCell ⟨G, 1, none⟩ (.int .i64 m)).heap.size) := Lib.hid (by have := HWB.out; simp; omega)
              generalize (wb.setCell ⟨G, 1, none⟩ (.int .i64 m)) = W' at DW OW LW RW HSW ⊢
              have x5 := row_of (j := 5) DW.out.x rfl
              have r0 := row_of (j := 0) RW.out rfl
              have r1 := row_of (j := 1) RW.out rfl
              have hn : k + 1 ≤ maxLen := by unfold maxLen; omega
              have hnb : (k + 1) * 24 ≤ 140737488355328 := by omega
              clear DB OB LB RB
              go_wp2_with (at_builtin; refine wpList_append_lies _ rfl _ _ 40 (by rfl) W7.heap.size 23 i0 _ 2 24 Try.underlying40 hi0 hiz hi1 hi2 rfl (by omega) V2 k (rowP l2) (by rfl) (OW.out.alloc _) ⟨W'.heap.size, 0, none⟩ 1 1 [.string t, .int .i64 m] (by rfl) (by rfl) (World.news_of_block (cs := #[.string t, .int .i64 m]) (t := 23) (fr := (0, 0)) (heap_alloc_new W' _)) (by simp [Value.oneCell']) (by omega) hn hnb (by have := HSW.out; simp; omega) (W'.heap.size + 1) (by simp) ?_; intro gg cc w2 hown2 hgrow hat hltg; have D2 := Lib.hid (DW.out.app OW.out HB7.out (one_box _) hgrow); have L2 := Lib.hid ((LW.out.alloc (.cells #[.string t, .int .i64 m] 23 (0, 0))).kept hgrow (own_apart (B := W7.heap.size) (fun b e => (HFB.out b e).2) (fun b e => (HVB.out b e).1))); have hx3 := row_of (j := 5) D2.out.x rfl; have hy3 := frozen_of_row _ _ 5 _ _ D2.out.x)
              go_roundw
              case rel =>
                exact ⟨k + 1, .slice (some ⟨gg, 0, none⟩) (k + 1) cc, l2 ++ [⟨t, m⟩], q2, by omega, by omega, by go_num, Lib.hid (hmok.out.next (fun _ => HST.out) (fun h => by rw [HST.out]; exact h)), Lib.hid (D2.out.set 5 _), Lib.hid (by have := HSW.out; have := hgrow.size; simp at this ⊢; omega), Lib.hid (fun f hf => by rcases List.mem_append.1 hf with h | h; exact hps.out f h; rw [List.mem_singleton.1 h]; exact HTS.out), Lib.hid (ownsRow_setCell_below L2.out HB0.out _), by rw [rowP_app]; exact ownsRow_setCell_below hown2 HB7.out _⟩
              case measure => simp [intOf]; omega
            | false =>
              have hcf : ¬ (k < n7 ∧ p8 ≠ none ∧ k < 65) := fun h => by have := HC.out.2 h; cases this
              have HM8 := Lib.hid (hmok.out.fin (rpt_none s) hk hk65 hcf)
              have hl2 := hmok.out.1
              subst hl2
              obtain ⟨PA, pc, rfl⟩ := own_form HO.out
              have HRD := Lib.hid (read_doc HN1.out HN2.out HN3.out HN4.out HN5.out HM.out HN7.out HM8.out)
              have SF1 : Hid (FSz l) := Lib.hid (fun f hf => by have := hsm.out f hf; unfold maxLen; omega)
              have SP1 : Hid (PSz l2) := Lib.hid (fun f hf => by have := hps.out f hf; unfold maxLen; omega)
              have ZF : Hid (l.length ≤ maxLen) := Lib.hid (by have := HL65.out; unfold maxLen; omega)
              have ZP : Hid (l2.length ≤ maxLen) := Lib.hid (by unfold maxLen; omega)
              obtain ⟨ts, ee, HU⟩ : ∃ (ts : ByteArray) (ee : Int), (⟨n1, n2, n3, n4, l, l2⟩ : Rp).chk = ee ∧ ts = if ee = 0 then (⟨n1, n2, n3, n4, l, l2⟩ : Rp).bytes else ⟨#[]⟩ := ⟨_, _, rfl, rfl⟩
              have HUU := Lib.hid HU
              have z0 := row_of (j := 0) hdoc.out.x rfl
              have z1 := row_of (j := 1) hdoc.out.x rfl
              have z2 := row_of (j := 2) hdoc.out.x rfl
              have z3 := row_of (j := 3) hdoc.out.x rfl
              have z4 := row_of (j := 4) hdoc.out.x rfl
              have z5 := row_of (j := 5) hdoc.out.x rfl
              clear HU hk hk65 hcf HC hmok hi0 hiz hi1 hi2
              go_upto_region 24 with (go_at_call 22; refine (rreply_v n1 n2 n3 n4 l l2 FA PA fc pc _ (Lib.hid (ReadsF.own hol.out)) (Lib.hid (ReadsP.own HO.out)) ZF ZP SF1 SP1 ts ee HUU).mono ?_; rintro e w9 ⟨rfl, hb9⟩; have D9 := Lib.hid (hdoc.out.below hb9); have L9 := Lib.hid (own_below hol.out hb9); have O9 := Lib.hid (own_below HO.out hb9); clear hb9 z0 z1 z2 z3 z4 z5)
              have b2 : w9.cell? ⟨w.heap.size + 1, 2, none⟩ = some (.bool p8.isNone) := by
                obtain ⟨a, hi1', _⟩ := D9.out.i
                exact row_of hi1' rfl
              have z0 := row_of (j := 0) D9.out.x rfl
              have z1 := row_of (j := 1) D9.out.x rfl
              have z2 := row_of (j := 2) D9.out.x rfl
              have z3 := row_of (j := 3) D9.out.x rfl
              have z4 := row_of (j := 4) D9.out.x rfl
              have z5 := row_of (j := 5) D9.out.x rfl
              have t0 := row_of (j := 0) D9.out.z rfl
              have t1 := row_of (j := 1) D9.out.z rfl
              have t2 := row_of (j := 2) D9.out.z rfl
              have t3 := row_of (j := 3) D9.out.z rfl
              have t4 := row_of (j := 4) D9.out.z rfl
              have t5 := row_of (j := 5) D9.out.z rfl
              have f0 := frozen_of_row _ _ 0 _ _ D9.out.z
              have f1 := frozen_of_row _ _ 1 _ _ D9.out.z
              have f2 := frozen_of_row _ _ 2 _ _ D9.out.z
              have f3 := frozen_of_row _ _ 3 _ _ D9.out.z
              have f4 := frozen_of_row _ _ 4 _ _ D9.out.z
              have f5 := frozen_of_row _ _ 5 _ _ D9.out.z
              clear hdoc hol HO
              by_cases hok : p8 ≠ none ∧ ee = 0 ∧ ts = s
              · obtain ⟨hp, he, hts⟩ := hok
                have hts' := hts.symm
                subst he hts'
                obtain ⟨a, rfl⟩ : ∃ a, p8 = some a := Option.ne_none_iff_exists'.1 hp
                have b2 : w9.cell? ⟨w.heap.size + 1, 2, none⟩ = some (.bool false) := b2
                obtain ⟨rfl, rfl⟩ := HGO.out ⟨n1, n2, n3, n4, l, l2⟩ HUU.out.1 HUU.out.2.symm
                clear hp
                go_wp2_with fail
                refine bodyPost_ret (v := .tuple #[.agg #[.int .i64 n1, .int .i64 n2, .int .i64 n3, .int .i64 n4, .slice FA l.length fc, .slice PA l2.length pc], .int .i64 0]) (results_row2 (p := 2) (t1 := 3) (ty := 42) Try.results24 _ _ w.heap.size 42 #[.int .i64 n1, .int .i64 n2, .int .i64 n3, .int .i64 n4, .slice FA l.length fc, .slice PA l2.length pc] (0, 0) _ rfl (set6 D9.out.z) Try.underlying42 rfl (by kernel_rfl)) rfl ?_
                exact ⟨FA, PA, fc, pc, rfl, own_mono (set6_own L9.out (by have := HB0.out; omega) _ _ _ _ _ _) (by have := HB0.out; omega), own_mono (set6_own O9.out (by have := HB7.out; omega) _ _ _ _ _ _) (by have := HB7.out; omega), set6_below D9.out.b (Nat.le_refl _) _ _ _ _ _ _⟩
              · have hno : ∀ x : Rp, x.chk = 0 → x.bytes ≠ s := fun x hx hb => by
                  have e := readR_put (good_r hx) (m := 1099511627776) (by omega)
                  rw [hb] at e
                  by_cases hp : p8 = none
                  · have := HRD.out.2 hp
                    rw [e] at this
                    cases this
                  · have e2 := HRD.out.1 hp
                    rw [e] at e2
                    obtain ⟨rfl, _⟩ := Prod.mk.inj e2
                    obtain ⟨u1, u2⟩ := HUU.out
                    have h0 : ee = 0 := u1.symm.trans hx
                    rw [if_pos h0] at u2
                    exact hok ⟨hp, h0, u2.trans hb⟩
                obtain ⟨rfl, rfl⟩ := HNO.out hno
                have hz : p8 = none ∨ ((∃ a, p8 = some a) ∧ (ee != 0) = true) ∨ ((∃ a, p8 = some a) ∧ (ee != 0) = false ∧ (ts.toList == s.toList) = false) := by
                  by_cases hp : p8 = none
                  · exact .inl hp
                  · have hp' : ∃ a, p8 = some a := Option.ne_none_iff_exists'.1 hp
                    by_cases h0 : ee = 0
                    · exact .inr (.inr ⟨hp', by simp [h0], bytes_off (fun e => hok ⟨hp, h0, e⟩)⟩)
                    · exact .inr (.inl ⟨hp', by simpa using h0⟩)
                clear hno hok
                rcases hz with rfl | ⟨⟨a, rfl⟩, h1⟩ | ⟨⟨a, rfl⟩, h1, h2⟩
                · have b2 : w9.cell? ⟨w.heap.size + 1, 2, none⟩ = some (.bool true) := b2
                  go_wp2_with fail
                  refine bodyPost_ret (v := .tuple #[.agg #[.int .i64 0, .int .i64 0, .int .i64 0, .int .i64 0, .slice none 0 0, .slice none 0 0], .int .i64 40]) (results_row2 (p := 2) (t1 := 3) (ty := 42) Try.results24 _ _ w.heap.size 42 #[.int .i64 0, .int .i64 0, .int .i64 0, .int .i64 0, .slice none 0 0, .slice none 0 0] (0, 0) _ rfl (set6 D9.out.z) Try.underlying42 rfl (by kernel_rfl)) rfl ?_
                  exact ⟨none, none, 0, 0, rfl, World.ownsRow_nil _ _ _ _, World.ownsRow_nil _ _ _ _, set6_below D9.out.b (Nat.le_refl _) _ _ _ _ _ _⟩
                · have b2 : w9.cell? ⟨w.heap.size + 1, 2, none⟩ = some (.bool false) := b2
                  go_wp2_with fail
                  refine bodyPost_ret (v := .tuple #[.agg #[.int .i64 0, .int .i64 0, .int .i64 0, .int .i64 0, .slice none 0 0, .slice none 0 0], .int .i64 40]) (results_row2 (p := 2) (t1 := 3) (ty := 42) Try.results24 _ _ w.heap.size 42 #[.int .i64 0, .int .i64 0, .int .i64 0, .int .i64 0, .slice none 0 0, .slice none 0 0] (0, 0) _ rfl (set6 D9.out.z) Try.underlying42 rfl (by kernel_rfl)) rfl ?_
                  exact ⟨none, none, 0, 0, rfl, World.ownsRow_nil _ _ _ _, World.ownsRow_nil _ _ _ _, set6_below D9.out.b (Nat.le_refl _) _ _ _ _ _ _⟩
                · have b2 : w9.cell? ⟨w.heap.size + 1, 2, none⟩ = some (.bool false) := b2
                  have h3 : (!(ts.toList == s.toList)) = true := by rw [h2]; rfl
                  go_wp2_with fail
                  refine bodyPost_ret (v := .tuple #[.agg #[.int .i64 0, .int .i64 0, .int .i64 0, .int .i64 0, .slice none 0 0, .slice none 0 0], .int .i64 40]) (results_row2 (p := 2) (t1 := 3) (ty := 42) Try.results24 _ _ w.heap.size 42 #[.int .i64 0, .int .i64 0, .int .i64 0, .int .i64 0, .slice none 0 0, .slice none 0 0] (0, 0) _ rfl (set6 D9.out.z) Try.underlying42 rfl (by kernel_rfl)) rfl ?_
                  exact ⟨none, none, 0, 0, rfl, World.ownsRow_nil _ _ _ _, World.ownsRow_nil _ _ _ _, set6_below D9.out.b (Nat.le_refl _) _ _ _ _ _ _⟩
end Go.Proofs.Ytlhkhccpeohefaa.L4
