/-
  What is remembered behind a script of small batches, as plain data.
-/
import Derived.Test.YtcmlopflandlgaaDdOneP
namespace Go.Proofs.Ytcmlopflandlgaa.L8
open Go.RowKit

/-- small batches -/
def Smalls (b : Int) (l : List Did) : Prop := ∀ d ∈ l, 0 ≤ d.s ∧ 1 ≤ d.n ∧ d.n ≤ 4 ∧ d.s + d.n ≤ b ∧ d.o = 5
/-- each behind the one ahead of it -/
def Lk : Option Int → List Did → Prop
  | _, [] => True
  | q, d :: t => (∀ x, q = some x → d.s = x) ∧ Lk (some (d.s + d.n)) t
theorem lk_none {q : Option Int} {l : List Did} (h : Lk q l) : Lk none l := by
  cases l with
  | nil => trivial
  | cons d t => exact ⟨fun x e => (by cases e), h.2⟩
theorem lk_drop {l : List Did} : ∀ {q : Option Int} (k : Nat), Lk q l → Lk none (l.drop k) := by
  induction l with
  | nil => intro q k _; simp [Lk]
  | cons d t ih =>
    intro q k h
    cases k with
    | zero => exact lk_none h
    | succ k => exact ih k h.2
theorem lk_row {b : Int} (hb : b ≤ 1000) : ∀ {l : List Did} {q : Option Int}, Smalls b l → Lk q l → rowB q l = true
  | [], _, _, _ => rfl
  | d :: t, q, hs, h => by
    obtain ⟨s0, n1, n4, sn, o5⟩ := hs d (by simp)
    have ih := lk_row hb (l := t) (q := some (d.s + d.n)) (fun x hx => hs x (by simp [hx])) h.2
    have e : wrap64 (d.s + d.n) = d.s + d.n := by simp only [wrap64]; omega
    have b1 : numB8 d.s = true := by simp [numB8]; omega
    have b2 : numB8 d.o = true := by rw [o5]; decide
    have b3 : decide (1 ≤ d.n) = true := decide_eq_true n1
    have b4 : decide (d.n ≤ 1099511627776) = true := decide_eq_true (by omega)
    cases q with
    | none =>
      show ((numB8 d.s && (numB8 d.o && (decide (1 ≤ d.n) && decide (d.n ≤ 1099511627776)))) && (true && rowB (some (wrap64 (d.s + d.n))) t)) = true
      rw [b1, b2, b3, b4, e, ih]; rfl
    | some x =>
      show ((numB8 d.s && (numB8 d.o && (decide (1 ≤ d.n) && decide (d.n ≤ 1099511627776)))) && (decide (d.s = x) && rowB (some (wrap64 (d.s + d.n))) t)) = true
      rw [b1, b2, b3, b4, decide_eq_true (h.1 x rfl), e, ih]; rfl
theorem lk_snoc {d : Did} : ∀ {l : List Did} {q : Option Int}, Lk q l → (l = [] → ∀ x, q = some x → d.s = x) → (∀ e, l.getLast? = some e → d.s = e.s + e.n) → Lk q (l ++ [d])
  | [], _, _, h1, _ => ⟨h1 rfl, trivial⟩
  | [e], _, h, _, h2 => ⟨h.1, ⟨fun x q => by injection q with q; rw [← q]; exact h2 e rfl, trivial⟩⟩
  | e :: f :: t, _, h, _, h2 => ⟨h.1, lk_snoc (l := f :: t) h.2 (fun z => by cases z) (fun x hx => h2 x (by simpa [List.getLast?_cons_cons] using hx))⟩
theorem lk_at : ∀ {l : List Did} {q : Option Int} {k : Nat} {a c : Did}, Lk q l → l[k]? = some a → l[k + 1]? = some c → c.s = a.s + a.n
  | [], _, _, _, _, _, h1, _ => by simp at h1
  | [e], _, _, _, _, _, _, h2 => by simp at h2
  | e :: f :: t, _, 0, a, c, h, h1, h2 => by
    simp at h1 h2
    subst h1; subst h2
    exact h.2.1 _ rfl
  | e :: f :: t, _, k + 1, a, c, h, h1, h2 => lk_at (l := f :: t) h.2 (by simpa using h1) (by simpa using h2)
/-- all that is remembered is so -/
def ToldOk (b : Int) (ms : List Mk) : Prop := ∀ m ∈ ms, Smalls b m.l ∧ Lk none m.l
theorem Smalls.mono {b b' : Int} {l : List Did} (h : Smalls b l) (hb : b ≤ b') : Smalls b' l := fun d hd => by
  obtain ⟨a1, a2, a3, a4, a5⟩ := h d hd
  exact ⟨a1, a2, a3, by omega, a5⟩
theorem ToldOk.mono {b b' : Int} {ms : List Mk} (h : ToldOk b ms) (hb : b ≤ b') : ToldOk b' ms := fun m hm => ⟨(h m hm).1.mono hb, (h m hm).2⟩
theorem told_open {b : Int} {es : List Int} {ms : List Mk} (h : ToldOk b ms) (id : Int) : ToldOk b (openM es ms id) := by
  unfold openM
  split
  · exact h
  · split
    · exact h
    · split
      · exact h
      · exact fun m hm => h m (List.mem_filter.1 hm).1
theorem told_last {b : Int} {ms : List Mk} (h : ToldOk b ms) (id : Int) (t : ByteArray) (p : Int) : Smalls b (lastOf ms id t p) ∧ Lk none (lastOf ms id t p) := by
  unfold lastOf
  cases hf : ms.find? (isK id t p) with
  | none => exact ⟨fun d hd => by simp at hd, trivial⟩
  | some x => exact h x (List.mem_of_find?_eq_some hf)
theorem told_due {b : Int} {l : List Did} (hb : 0 ≤ b) (hb1 : b ≤ 1000) (h : Smalls b l) : 0 ≤ due l ∧ due l ≤ b ∧ (∀ e, l.getLast? = some e → due l = e.s + e.n) := by
  unfold due
  cases hg : l.getLast? with
  | none => exact ⟨Int.le_refl 0, hb, fun e q => (by cases q)⟩
  | some d =>
    obtain ⟨a1, a2, a3, a4, _⟩ := h d (List.mem_of_getLast? hg)
    have e : wrap64 (d.s + d.n) = d.s + d.n := by simp only [wrap64]; omega
    refine ⟨?_, ?_, fun x q => ?_⟩
    · show 0 ≤ wrap64 (d.s + d.n); rw [e]; omega
    · show wrap64 (d.s + d.n) ≤ b; rw [e]; omega
    · injection q with q; subst q; exact e
theorem done_due {es : List Int} {ms : List Mk} {t : ByteArray} {p pr ep sq off : Int} {n : Nat} (h : doneE es ms t p pr ep sq n off = 0) (h0 : pr ≠ 0) : sq = due (lastOf ms pr t p) := by
  unfold doneE at h
  split at h
  · rename_i q; exact absurd h q
  · split at h
    · simp at h
    · rename_i q1 q2
      have q1' : (askP es ms t p pr ep sq n).2.2 = 0 := by omega
      unfold askP at q1' q2
      rw [if_neg h0] at q1' q2
      split at q1'
      · simp at q1'
      · rename_i z1
        rw [if_neg z1] at q2
        split at q1'
        · simp at q1'
        · rename_i z2
          rw [if_neg z2] at q2
          split at q1'
          · simp at q1'
          · rename_i z3
            rw [if_neg z3] at q2
            split at q1'
            · rename_i z4; exact z4
            · rename_i z4
              rw [if_neg z4] at q2
              split at q1'
              · rename_i d hd; rw [hd] at q2; simp at q2
              · simp at q1'
theorem told_done {b : Int} {es : List Int} {ms : List Mk} {n : Nat} (G : Good es ms) (h : ToldOk b ms) (hb : 0 ≤ b) (hb1 : b ≤ 900) (t : ByteArray) (p pr ep sq : Int) (n1 : 1 ≤ n) (n4 : n ≤ 4) : ToldOk (b + 4) (doneM es ms t p pr ep sq n 5) := by
  unfold doneM
  split
  · exact h.mono (by omega)
  · rename_i q
    have q1 : doneE es ms t p pr ep sq n 5 = 0 ∧ pr ≠ 0 := by omega
    have hd := done_due q1.1 q1.2
    obtain ⟨l1, l2⟩ := told_last h pr t p
    obtain ⟨d1, d2, d3⟩ := told_due hb (by omega) l1
    intro m hm
    rcases ((putM_mem ⟨pr, ep, t, p, push (lastOf ms pr t p) ⟨sq, n, 5⟩⟩ G.sorted).2 m).1 hm with rfl | ⟨hm, _⟩
    · refine ⟨fun d hx => ?_, ?_⟩
      · have hx' : d ∈ lastOf ms pr t p ++ [⟨sq, n, 5⟩] := List.mem_of_mem_drop hx
        rcases List.mem_append.1 hx' with hx' | hx'
        · exact l1.mono (by omega) d hx'
        · rw [List.mem_singleton.1 hx']
          refine ⟨by show 0 ≤ sq; omega, by show (1 : Int) ≤ n; omega, by show (n : Int) ≤ 4; omega, by show sq + (n : Int) ≤ b + 4; omega, rfl⟩
      · exact lk_drop _ (lk_snoc l2 (fun _ x e => by cases e) (fun e he => by show sq = _; rw [hd]; exact d3 e he))
    · exact ⟨(h m hm).1.mono (by omega), (h m hm).2⟩
theorem chain_all {es : List Int} : ∀ {l : List Mk} {q : Option Mk}, Sorted l → (∀ m ∈ l, fitB es m = true) → (∀ x, q = some x → ∀ m ∈ l, befB x m = true) → chainB es q l = true
  | [], _, _, _, _ => rfl
  | m :: t, q, hs, hf, hq => by
    obtain ⟨h1, h2⟩ := List.pairwise_cons.1 hs
    have ih := chain_all (es := es) (l := t) (q := some m) h2 (fun x hx => hf x (by simp [hx])) (fun x e y hy => by injection e with e; subst e; exact h1 y hy)
    cases q with
    | none =>
      show (true && fitB es m && chainB es (some m) t) = true
      rw [hf m (by simp), ih]; rfl
    | some x =>
      show (befB x m && fitB es m && chainB es (some m) t) = true
      rw [hq x rfl m (by simp), hf m (by simp), ih]; rfl
theorem told_load {b : Int} {es : List Int} {ms : List Mk} (G : Good es ms) (h : ToldOk b ms) (hb1 : b ≤ 1000) : loadE es ms = 0 := by
  have hl := G.len
  unfold loadE
  rw [if_neg (by omega), if_pos]
  rw [Bool.and_eq_true, List.all_eq_true]
  refine ⟨fun e he => ?_, chain_all G.sorted (fun m hm => ?_) (fun x e => by cases e)⟩
  · have := G.num e he
    simp [numB8]; omega
  · obtain ⟨⟨f1, f2, f3⟩, f4, f5⟩ := G.fit m hm
    have r := lk_row hb1 (h m hm).1 (h m hm).2
    have g := getD_at f3
    simp only [fitB, r, g, Bool.and_eq_true, decide_eq_true_eq]
    exact ⟨⟨f1, f2, trivial⟩, ⟨f4, f5⟩, trivial⟩
end Go.Proofs.Ytcmlopflandlgaa.L8
