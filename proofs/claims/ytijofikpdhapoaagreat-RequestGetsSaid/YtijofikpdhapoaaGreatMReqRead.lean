/-
  Reading, as plain functions: numbers, texts, records, batches, lists at a place; what stands there.
-/
import Derived.Test.YtijofikpdhapoaaGreatMRecBack
import Derived.Test.YtijofikpdhapoaaGreatRepRow0
import Derived.Test.YtijofikpdhapoaaGreatRepPut
namespace Go.Proofs.YtijofikpdhapoaaGreat.L4
open L3

/-- from place a to place b of s stand these bytes -/
def Stands (s : ByteArray) (a : Int) (x : List Nat) (b : Int) : Prop := ∃ l r, V.nats s = l ++ (x ++ r) ∧ a = (l.length : Int) ∧ b = a + x.length

theorem Stands.of {s : ByteArray} {a b : Int} {x : List Nat} (h0 : 0 ≤ a) (h1 : a ≤ b) (h2 : b ≤ s.size) (h : (V.nats s).drop a.toNat = x ++ (V.nats s).drop b.toNat) : Stands s a x b := by
  have hl := V.nats_len s
  refine ⟨(V.nats s).take a.toNat, (V.nats s).drop b.toNat, ?_, ?_, ?_⟩
  · rw [← h, List.take_append_drop]
  · rw [List.length_take, hl]; omega
  · have := congrArg List.length h
    rw [List.length_append, List.length_drop, List.length_drop, hl] at this
    omega
theorem Stands.bounds {s : ByteArray} {a b : Int} {x : List Nat} (h : Stands s a x b) : 0 ≤ a ∧ a ≤ b ∧ b ≤ s.size := by
  obtain ⟨l, r, h1, rfl, rfl⟩ := h
  have := congrArg List.length h1
  rw [V.nats_len, List.length_append, List.length_append] at this
  omega
theorem Stands.comp {s : ByteArray} {a b c : Int} {x y : List Nat} (h : Stands s a x b) (k : Stands s b y c) : Stands s a (x ++ y) c := by
  obtain ⟨l, r, h1, rfl, rfl⟩ := h
  obtain ⟨l', r', k1, k2, rfl⟩ := k
  have e : l ++ (x ++ r) = l' ++ (y ++ r') := h1.symm.trans k1
  rw [← List.append_assoc] at e
  obtain ⟨e1, e2⟩ := List.append_inj e (by rw [List.length_append]; omega)
  refine ⟨l, r', ?_, rfl, by rw [List.length_append]; omega⟩
  rw [h1, e2, List.append_assoc]
theorem Stands.split {s : ByteArray} {a c : Int} {x y : List Nat} (h : Stands s a (x ++ y) c) : Stands s a x (a + x.length) ∧ Stands s (a + x.length) y c := by
  obtain ⟨l, r, h1, rfl, rfl⟩ := h
  refine ⟨⟨l, y ++ r, by rw [h1, List.append_assoc], rfl, rfl⟩, ⟨l ++ x, r, by rw [h1]; simp, by rw [List.length_append]; omega, by rw [List.length_append]; omega⟩⟩
theorem Stands.whole {s : ByteArray} {x : List Nat} : Stands s 0 x s.size ↔ V.nats s = x := by
  constructor
  · rintro ⟨l, r, h1, h2, h3⟩
    have hl : l = [] := List.eq_nil_of_length_eq_zero (by omega)
    subst hl
    have := congrArg List.length h1
    rw [V.nats_len, List.length_append, List.length_append] at this
    have hr : r = [] := List.eq_nil_of_length_eq_zero (by simp at this; omega)
    subst hr
    simpa using h1
  · intro h
    exact ⟨[], [], by simpa using h, rfl, by rw [← h, V.nats_len]; simp⟩
theorem Stands.nil {s : ByteArray} {a : Int} (h0 : 0 ≤ a) (h1 : a ≤ s.size) : Stands s a [] a := Stands.of h0 (by omega) h1 (by simp)

/-- reading once: nothing was wrong yet, nothing is wrong -/
def rd {α : Type} (f : Int → α × Int × Int) (g : α → Bool) (z : α) : Option Int → α × Option Int
  | none => (z, none)
  | some a => if (f a).2.2 = 0 ∧ g (f a).1 = true then ((f a).1, some (f a).2.1) else (z, none)
theorem rd_none {α : Type} (f : Int → α × Int × Int) (g : α → Bool) (z : α) : rd f g z none = (z, none) := rfl
theorem rd_some {α : Type} {f : Int → α × Int × Int} {g : α → Bool} {z x : α} {a b : Int} (h : f a = (x, b, 0)) (hg : g x = true) : rd f g z (some a) = (x, some b) := by simp [rd, h, hg]
theorem rd_got {α : Type} {f : Int → α × Int × Int} {g : α → Bool} {z x : α} {p : Option Int} {b : Int} (h : rd f g z p = (x, some b)) : ∃ a, p = some a ∧ f a = (x, b, 0) ∧ g x = true := by
  cases p with
  | none => simp [rd] at h
  | some a =>
    refine ⟨a, rfl, ?_⟩
    unfold rd at h
    dsimp only at h
    split at h
    · rename_i hc
      obtain ⟨h1, h2⟩ := Prod.mk.inj h
      obtain ⟨c1, c2⟩ := hc
      subst h1
      injection h2 with h2
      exact ⟨by rw [← c1, ← h2], c2⟩
    · cases (Prod.mk.inj h).2
theorem rd_bad {α : Type} {f : Int → α × Int × Int} {g : α → Bool} {z x : α} {p : Option Int} (h : rd f g z p = (x, none)) : x = z := by
  cases p with
  | none => exact (Prod.mk.inj h).1.symm
  | some a =>
    unfold rd at h
    dsimp only at h
    split at h
    · cases (Prod.mk.inj h).2
    · exact (Prod.mk.inj h).1.symm

def rNum (s : ByteArray) (most : Nat) : Option Int → Nat × Option Int := rd (V.get s) (fun n => decide (n ≤ most)) 0
def rTxt (s : ByteArray) : Option Int → ByteArray × Option Int := rd (fun a => V.text s a 16) (fun _ => true) ⟨#[]⟩
def rRec (s : ByteArray) : Option Int → R × Option Int := rd (getR s) (fun _ => true) R.zero
def rBat (s : ByteArray) : Option Int → Bt × Option Int := rd (parse s) (fun _ => true) Bt.zero

theorem num_put {s : ByteArray} {a b : Int} {n most : Nat} (hm : n ≤ most) (hn : n ≤ 1099511627776) (h : Stands s a (V.puts n) b) : rNum s most (some a) = (n, some b) := by
  obtain ⟨l, r, h1, rfl, rfl⟩ := h
  exact rd_some (V.get_at (by omega) h1) (by simpa using hm)
theorem num_got {s : ByteArray} {p : Option Int} {b : Int} {n most : Nat} (h : rNum s most p = (n, some b)) : ∃ a, p = some a ∧ n ≤ most ∧ Stands s a (V.puts n) b := by
  obtain ⟨a, rfl, h1, h2⟩ := rd_got h
  obtain ⟨g0, g1, g2, _, g4⟩ := get_ok h1
  exact ⟨a, rfl, by simpa using h2, Stands.of g0 (by omega) g2 g4⟩
theorem txt_put {s t : ByteArray} {a b : Int} (ht : t.size ≤ 16) (h : Stands s a (V.nats (txt t)) b) : rTxt s (some a) = (t, some b) := by
  obtain ⟨l, r, h1, rfl, rfl⟩ := h
  have := text_at (most := 16) (by omega) (by omega) h1
  rw [← V.nats_len] at this
  exact rd_some this rfl
theorem txt_got {s t : ByteArray} {p : Option Int} {b : Int} (h : rTxt s p = (t, some b)) : ∃ a, p = some a ∧ t.size ≤ 16 ∧ Stands s a (V.nats (txt t)) b := by
  obtain ⟨a, rfl, h1, _⟩ := rd_got h
  obtain ⟨g0, g1, g2, g3, g4⟩ := text_got h1
  exact ⟨a, rfl, by omega, Stands.of g0 (by omega) g2 g4⟩
theorem txt_small {s : ByteArray} (p : Option Int) : (rTxt s p).1.size ≤ 16 := by
  obtain ⟨t, q, h⟩ : ∃ t q, rTxt s p = (t, q) := ⟨_, _, rfl⟩
  rw [h]
  cases q with
  | none => rw [rd_bad h]; show (0 : Nat) ≤ 16; omega
  | some b => obtain ⟨_, _, h1, _⟩ := txt_got h; exact h1
theorem rec_put {s : ByteArray} {r : R} {a b : Int} (hr : r.chk = 0) (h : Stands s a (V.nats r.put) b) : rRec s (some a) = (r, some b) := by
  obtain ⟨l, q, h1, rfl, rfl⟩ := h
  exact rd_some (getR_put hr h1) rfl
theorem rec_got {s : ByteArray} {r : R} {p : Option Int} {b : Int} (h : rRec s p = (r, some b)) : ∃ a, p = some a ∧ r.chk = 0 ∧ Stands s a (V.nats r.put) b := by
  obtain ⟨a, rfl, h1, _⟩ := rd_got h
  obtain ⟨g3, g0, g1, g2, g4⟩ := getR_got h1
  exact ⟨a, rfl, g3, Stands.of g0 (by omega) g2 g4⟩
theorem bat_put {s : ByteArray} {p e q : Int} {l : List R} {a b : Int} (hr : allN p e q l = 0) (h : Stands s a (V.nats (batT p e q l)) b) : rBat s (some a) = (⟨p.toNat, e.toNat, q.toNat, l⟩, some b) := by
  obtain ⟨pre, post, h1, rfl, rfl⟩ := h
  have := parse_put hr h1
  rw [← V.nats_len] at this
  exact rd_some this rfl
theorem bat_got {s : ByteArray} {x : Bt} {p : Option Int} {b : Int} (h : rBat s p = (x, some b)) : ∃ a, p = some a ∧ allN x.p x.e x.q x.l = 0 ∧ Stands s a (V.nats (batT x.p x.e x.q x.l)) b := by
  obtain ⟨a, rfl, h1, _⟩ := rd_got h
  obtain ⟨g0, g1, g2, g3, g4⟩ := parse_got h1
  exact ⟨a, rfl, g3, Stands.of g0 (by omega) g2 g4⟩

/-- so many, one behind the other -/
def rMany {α : Type} (f : Option Int → α × Option Int) (p : Option Int) : Nat → List α × Option Int
  | 0 => ([], p)
  | n + 1 => ((rMany f p n).1 ++ [(f (rMany f p n).2).1], (f (rMany f p n).2).2)
theorem many_put {α : Type} {s : ByteArray} {f : Option Int → α × Option Int} {enc : α → List Nat} {a : Int} : ∀ (xs : List α) (b : Int), (∀ x ∈ xs, ∀ a b, Stands s a (enc x) b → f (some a) = (x, some b)) → Stands s a (xs.flatMap enc) b → ∀ k ≤ xs.length, ∃ c, rMany f (some a) k = (xs.take k, some c) ∧ Stands s a ((xs.take k).flatMap enc) c ∧ Stands s c ((xs.drop k).flatMap enc) b := by
  intro xs b hf h k
  induction k with
  | zero => intro _; exact ⟨a, by simp [rMany], by have := h.bounds; simpa using Stands.nil this.1 (by omega), by simpa using h⟩
  | succ k ih =>
    intro hk
    obtain ⟨c, h1, h2, h3⟩ := ih (by omega)
    have hx : xs[k]? = some xs[k] := List.getElem?_eq_getElem (by omega)
    have hd : xs.drop k = xs[k] :: xs.drop (k + 1) := List.drop_eq_getElem_cons (by omega)
    rw [hd, List.flatMap_cons] at h3
    obtain ⟨q1, q2⟩ := h3.split
    refine ⟨_, ?_, ?_, q2⟩
    · simp only [rMany, h1, hf _ (List.getElem_mem (by omega)) _ _ q1]
      rw [List.take_add_one, hx]
      rfl
    · rw [List.take_add_one, hx, List.flatMap_append]
      simpa using h2.comp q1
theorem many_all {α : Type} {s : ByteArray} {f : Option Int → α × Option Int} {enc : α → List Nat} {a b : Int} (xs : List α) (hf : ∀ x ∈ xs, ∀ a b, Stands s a (enc x) b → f (some a) = (x, some b)) (h : Stands s a (xs.flatMap enc) b) : rMany f (some a) xs.length = (xs, some b) := by
  obtain ⟨c, h1, h2, h3⟩ := many_put xs b hf h xs.length (Nat.le_refl _)
  rw [List.take_length] at h1 h2
  rw [h1]
  obtain ⟨_, _, _, _, e1⟩ := h
  obtain ⟨_, _, _, _, e2⟩ := h2
  rw [e1, e2]
theorem many_got {α : Type} {s : ByteArray} {f : Option Int → α × Option Int} {enc : α → List Nat} {P : α → Prop} (hf : ∀ p x b, f p = (x, some b) → ∃ a, p = some a ∧ P x ∧ Stands s a (enc x) b) {p : Option Int} (h0 : ∀ a, p = some a → 0 ≤ a ∧ a ≤ s.size) : ∀ (n : Nat) {l : List α} {b : Int}, rMany f p n = (l, some b) → ∃ a, p = some a ∧ l.length = n ∧ (∀ x ∈ l, P x) ∧ Stands s a (l.flatMap enc) b := by
  intro n
  induction n with
  | zero =>
    intro l b h
    obtain ⟨rfl, rfl⟩ := Prod.mk.inj h
    exact ⟨b, rfl, rfl, by simp, by simpa using Stands.nil (h0 b rfl).1 (h0 b rfl).2⟩
  | succ n ih =>
    intro l b h
    obtain ⟨l0, q, hq⟩ : ∃ l0 q, rMany f p n = (l0, q) := ⟨_, _, rfl⟩
    simp only [rMany, hq] at h
    obtain ⟨e1, e2⟩ := Prod.mk.inj h
    obtain ⟨x, hx⟩ : ∃ x, f q = (x, some b) := ⟨(f q).1, by rw [← e2]⟩
    obtain ⟨c, rfl, hp, hs⟩ := hf _ _ _ hx
    obtain ⟨a, rfl, h1, h2, h3⟩ := ih hq
    rw [hx] at e1
    subst e1
    refine ⟨a, rfl, by simp [h1], ?_, ?_⟩
    · intro y hy
      rcases List.mem_append.1 hy with hy | hy
      · exact h2 y hy
      · rw [List.mem_singleton.1 hy]; exact hp
    · rw [List.flatMap_append]
      simpa using h3.comp hs
theorem many_len {α : Type} (f : Option Int → α × Option Int) (p : Option Int) (n : Nat) : (rMany f p n).1.length = n := by
  induction n with
  | zero => rfl
  | succ n ih => simp [rMany, ih]
theorem many_each {α : Type} {f : Option Int → α × Option Int} {P : α → Prop} (hf : ∀ p, P (f p).1) (p : Option Int) (n : Nat) : ∀ x ∈ (rMany f p n).1, P x := by
  induction n with
  | zero => intro x hx; simp [rMany] at hx
  | succ n ih =>
    intro x hx
    rcases List.mem_append.1 hx with hx | hx
    · exact ih x hx
    · rw [List.mem_singleton.1 hx]; exact hf _
theorem many_none {α : Type} {f : Option Int → α × Option Int} (hf : (f none).2 = none) (n : Nat) : (rMany f none n).2 = none := by
  induction n with
  | zero => rfl
  | succ n ih => simp only [rMany, ih, hf]
/-- once wrong, wrong to the end -/
theorem many_stop {α : Type} {f : Option Int → α × Option Int} (hf : (f none).2 = none) {p : Option Int} {k n : Nat} (hk : k ≤ n) (h : (rMany f p k).2 = none) : (rMany f p n).2 = none := by
  obtain ⟨d, rfl⟩ : ∃ d, n = k + d := ⟨n - k, by omega⟩
  clear hk
  induction d with
  | zero => exact h
  | succ d ih => rw [← Nat.add_assoc]; simp only [rMany, ih, hf]

end Go.Proofs.YtijofikpdhapoaaGreat.L4
/-
  Reading a reply, as plain functions.
-/
namespace Go.Proofs.YtijofikpdhapoaaGreat.L4
open Go.RowKit
open L3

/-! ### reading a reply -/
def rFd (s : ByteArray) (p : Option Int) : Fd × Option Int := (⟨((rNum s 1099511627776 p).1 : Int), (rRec s (rNum s 1099511627776 p).2).1⟩, (rRec s (rNum s 1099511627776 p).2).2)
def rPt (s : ByteArray) (p : Option Int) : Pt × Option Int := (⟨(rTxt s p).1, ((rNum s 1099511627776 (rTxt s p).2).1 : Int)⟩, (rNum s 1099511627776 (rTxt s p).2).2)
def rFds (s : ByteArray) (m : Nat) (p : Option Int) : List Fd × Option Int := rMany (rFd s) (rNum s m p).2 (min (rNum s m p).1 65)
def rPts (s : ByteArray) (m : Nat) (p : Option Int) : List Pt × Option Int := rMany (rPt s) (rNum s m p).2 (min (rNum s m p).1 65)
def readR (s : ByteArray) (m : Nat) : Rp × Option Int :=
  let a := rNum s 1099511627776 (some 0)
  let b := rNum s 1099511627776 a.2
  let c := rNum s 1099511627776 b.2
  let d := rNum s 1099511627776 c.2
  let f := rFds s m d.2
  let g := rPts s m f.2
  (⟨a.1, b.1, c.1, d.1, f.1, g.1⟩, g.2)

theorem fd_put {s : ByteArray} {f : Fd} (h : (0 ≤ f.o ∧ f.o ≤ 1099511627776) ∧ f.r.chk = 0) {a b : Int} (hs : Stands s a (fdN f) b) : rFd s (some a) = (f, some b) := by
  unfold fdN at hs
  obtain ⟨h1, h2⟩ := hs.split
  have e1 := num_put (most := 1099511627776) (by omega) (by omega) h1
  have e2 := rec_put h.2 h2
  unfold rFd
  rw [e1]
  dsimp only
  rw [e2, Int.toNat_of_nonneg h.1.1]
theorem fd_got {s : ByteArray} {f : Fd} {p : Option Int} {b : Int} (h : rFd s p = (f, some b)) : ∃ a, p = some a ∧ True ∧ Stands s a (fdN f) b := by
  obtain ⟨n, q, hn⟩ : ∃ n q, rNum s 1099511627776 p = (n, q) := ⟨_, _, rfl⟩
  unfold rFd at h
  rw [hn] at h
  obtain ⟨e1, e2⟩ := Prod.mk.inj h
  have h2 : rRec s q = ((rRec s q).1, some b) := by rw [← e2]
  obtain ⟨c, rfl, hc, hs⟩ := rec_got h2
  obtain ⟨a, rfl, _, hs'⟩ := num_got hn
  refine ⟨a, rfl, trivial, ?_⟩
  rw [← e1]
  unfold fdN
  rw [Int.toNat_natCast]
  exact hs'.comp hs
theorem pt_put {s : ByteArray} {f : Pt} (h : (0 ≤ f.n ∧ f.n ≤ 1099511627776) ∧ nameB f.t = true) {a b : Int} (hs : Stands s a (ptN f) b) : rPt s (some a) = (f, some b) := by
  unfold ptN at hs
  obtain ⟨h1, h2⟩ := hs.split
  have e1 := txt_put (name_size' h.2).2 h1
  have e2 := num_put (most := 1099511627776) (by omega) (by omega) h2
  unfold rPt
  rw [e1]
  dsimp only
  rw [e2, Int.toNat_of_nonneg h.1.1]
theorem pt_got {s : ByteArray} {f : Pt} {p : Option Int} {b : Int} (h : rPt s p = (f, some b)) : ∃ a, p = some a ∧ True ∧ Stands s a (ptN f) b := by
  obtain ⟨t, q, hn⟩ : ∃ t q, rTxt s p = (t, q) := ⟨_, _, rfl⟩
  unfold rPt at h
  rw [hn] at h
  obtain ⟨e1, e2⟩ := Prod.mk.inj h
  have h2 : rNum s 1099511627776 q = ((rNum s 1099511627776 q).1, some b) := by rw [← e2]
  obtain ⟨c, rfl, hc, hs⟩ := num_got h2
  obtain ⟨a, rfl, _, hs'⟩ := txt_got hn
  refine ⟨a, rfl, trivial, ?_⟩
  rw [← e1]
  unfold ptN
  rw [Int.toNat_natCast]
  exact hs'.comp hs

theorem nats_rep (r : Rp) : V.nats r.bytes = V.puts r.e.toNat ++ (V.puts r.off.toNat ++ (V.puts r.n.toNat ++ (V.puts r.gen.toNat ++ (V.puts r.found.length ++ (r.found.flatMap fdN ++ (V.puts r.parts.length ++ r.parts.flatMap ptN)))))) := by
  unfold Rp.bytes
  rw [nats_catP, V.nats_append, nats_catF, nats_five, V.nats_put]
  simp

theorem readR_put {r : Rp} (g : GoodR r) {m : Nat} (hm : 64 ≤ m) : readR r.bytes m = (r, some (r.bytes.size : Int)) := by
  have hw := Stands.whole.2 (nats_rep r)
  obtain ⟨h1, hw⟩ := hw.split
  obtain ⟨h2, hw⟩ := hw.split
  obtain ⟨h3, hw⟩ := hw.split
  obtain ⟨h4, hw⟩ := hw.split
  obtain ⟨h5, hw⟩ := hw.split
  obtain ⟨h6, hw⟩ := hw.split
  obtain ⟨h7, h8⟩ := hw.split
  have a1 := g.e
  have a2 := g.off
  have a3 := g.n
  have a4 := g.gen
  have a5 := g.lf
  have a6 := g.lp
  have e1 := num_put (most := 1099511627776) (by omega) (by omega) h1
  have e2 := num_put (most := 1099511627776) (by omega) (by omega) h2
  have e3 := num_put (most := 1099511627776) (by omega) (by omega) h3
  have e4 := num_put (most := 1099511627776) (by omega) (by omega) h4
  have e5 := num_put (most := m) (by omega) (by omega) h5
  have e6 := many_all (f := rFd r.bytes) r.found (fun f hf a b q => fd_put (g.fs f hf) q) h6
  have e7 := num_put (most := m) (by omega) (by omega) h7
  have e8 := many_all (f := rPt r.bytes) r.parts (fun f hf a b q => pt_put (g.ps f hf) q) h8
  have m1 : min r.found.length 65 = r.found.length := by omega
  have m2 : min r.parts.length 65 = r.parts.length := by omega
  unfold readR
  simp only [rFds, rPts, e1, e2, e3, e4, e5, m1, e6, e7, m2, e8, Int.toNat_of_nonneg a1.1, Int.toNat_of_nonneg a2.1, Int.toNat_of_nonneg a3.1, Int.toNat_of_nonneg a4.1]

theorem rBytes_inj {x y : Rp} (hx : x.chk = 0) (hy : y.chk = 0) (h : x.bytes = y.bytes) : x = y := by
  have e := readR_put (good_r hx) (Nat.le_refl 64)
  rw [h, readR_put (good_r hy) (Nat.le_refl 64)] at e
  exact (Prod.mk.inj e).1.symm

theorem readR_got {s : ByteArray} {r : Rp} (h : readR s 64 = (r, some (s.size : Int))) : r.bytes = s := by
  obtain ⟨n1, p1, h1⟩ : ∃ n p, rNum s 1099511627776 (some 0) = (n, p) := ⟨_, _, rfl⟩
  obtain ⟨n2, p2, h2⟩ : ∃ n p, rNum s 1099511627776 p1 = (n, p) := ⟨_, _, rfl⟩
  obtain ⟨n3, p3, h3⟩ : ∃ n p, rNum s 1099511627776 p2 = (n, p) := ⟨_, _, rfl⟩
  obtain ⟨n4, p4, h4⟩ : ∃ n p, rNum s 1099511627776 p3 = (n, p) := ⟨_, _, rfl⟩
  obtain ⟨n5, p5, h5⟩ : ∃ n p, rNum s 64 p4 = (n, p) := ⟨_, _, rfl⟩
  obtain ⟨l6, p6, h6⟩ : ∃ n p, rMany (rFd s) p5 (min n5 65) = (n, p) := ⟨_, _, rfl⟩
  obtain ⟨n7, p7, h7⟩ : ∃ n p, rNum s 64 p6 = (n, p) := ⟨_, _, rfl⟩
  obtain ⟨l8, p8, h8⟩ : ∃ n p, rMany (rPt s) p7 (min n7 65) = (n, p) := ⟨_, _, rfl⟩
  unfold readR at h
  simp only [rFds, rPts, h1, h2, h3, h4, h5, h6, h7, h8] at h
  obtain ⟨e1, e2⟩ := Prod.mk.inj h
  subst e2
  subst e1
  have b7 : ∀ a, p7 = some a → 0 ≤ a ∧ a ≤ s.size := fun a e => by subst e; obtain ⟨_, _, _, q⟩ := num_got h7; have := q.bounds; omega
  obtain ⟨a7, rfl, l8n, _, s8⟩ := many_got (P := fun _ => True) (fun p x b q => pt_got q) b7 _ h8
  obtain ⟨a6, rfl, m7, s7⟩ := num_got h7
  have b5 : ∀ a, p5 = some a → 0 ≤ a ∧ a ≤ s.size := fun a e => by subst e; obtain ⟨_, _, _, q⟩ := num_got h5; have := q.bounds; omega
  obtain ⟨a5, rfl, l6n, _, s6⟩ := many_got (P := fun _ => True) (fun p x b q => fd_got q) b5 _ h6
  obtain ⟨a4, rfl, m5, s5⟩ := num_got h5
  obtain ⟨a3, rfl, _, s4⟩ := num_got h4
  obtain ⟨a2, rfl, _, s3⟩ := num_got h3
  obtain ⟨a1, rfl, _, s2⟩ := num_got h2
  obtain ⟨a0, e0, _, s1⟩ := num_got h1
  injection e0 with e0
  subst e0
  refine V.nats_inj ?_
  rw [nats_rep]
  dsimp only
  simp only [Int.toNat_natCast, l6n, l8n, show min n5 65 = n5 by omega, show min n7 65 = n7 by omega]
  exact (Stands.whole.1 (s1.comp (s2.comp (s3.comp (s4.comp (s5.comp (s6.comp (s7.comp s8)))))))).symm

theorem rec_small (s : ByteArray) (p : Option Int) : (rRec s p).1.key.size ≤ 64 ∧ (rRec s p).1.val.size ≤ 512 := by
  obtain ⟨b, q, h⟩ : ∃ b q, rRec s p = (b, q) := ⟨_, _, rfl⟩
  rw [h]
  cases q with
  | none => rw [rd_bad h]; exact ⟨by show (0 : Nat) ≤ 64; omega, by show (0 : Nat) ≤ 512; omega⟩
  | some c =>
    obtain ⟨_, _, h1, _⟩ := rec_got h
    have := chk_parts h1
    exact ⟨this.1, this.2.1⟩
/-- as small as what is read -/
structure SmallR (r : Rp) : Prop where
  lf : r.found.length ≤ 65
  lp : r.parts.length ≤ 65
  fs : ∀ f ∈ r.found, f.r.key.size ≤ 64 ∧ f.r.val.size ≤ 512
  ps : ∀ f ∈ r.parts, f.t.size ≤ 16
theorem readR_small (s : ByteArray) (m : Nat) : SmallR (readR s m).1 := by
  refine ⟨?_, ?_, many_each (P := fun f : Fd => f.r.key.size ≤ 64 ∧ f.r.val.size ≤ 512) (fun p => rec_small s _) _ _, many_each (P := fun f : Pt => f.t.size ≤ 16) (fun p => txt_small _) _ _⟩
  · show (rMany _ _ _).1.length ≤ 65
    rw [many_len]; omega
  · show (rMany _ _ _).1.length ≤ 65
    rw [many_len]; omega

end Go.Proofs.YtijofikpdhapoaaGreat.L4
