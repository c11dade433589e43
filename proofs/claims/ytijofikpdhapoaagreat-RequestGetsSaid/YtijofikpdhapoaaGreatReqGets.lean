/-
  Reading a command, as plain functions: what is put is read, what was read is put.
-/
import Derived.Test.YtijofikpdhapoaaGreatMReqRead
import Derived.Test.YtijofikpdhapoaaGreatReqPut
namespace Go.Proofs.YtijofikpdhapoaaGreat.L4
open Go.RowKit
open L3

/-- a thing that a kind has is read; d: as the document's function does -/
def readK (s : ByteArray) (d : Bool) (op : O × Option Int) (k : Nat) : O × Option Int :=
  match k with
  | 1 => ({ op.1 with topic := (rTxt s op.2).1 }, (rTxt s op.2).2)
  | 2 => ({ op.1 with pn := ((rNum s 1099511627776 op.2).1 : Int) }, (rNum s 1099511627776 op.2).2)
  | 3 => ({ op.1 with n := ((rNum s 1099511627776 op.2).1 : Int) }, (rNum s 1099511627776 op.2).2)
  | 4 => ({ op.1 with off := ((rNum s 1099511627776 op.2).1 : Int) }, (rNum s 1099511627776 op.2).2)
  | 5 => (if (rBat s op.2).2.isSome then { op.1 with bp := ((rBat s op.2).1.p : Int), be := ((rBat s op.2).1.e : Int), bq := ((rBat s op.2).1.q : Int), recs := (rBat s op.2).1.l } else op.1, (rBat s op.2).2)
  | 9 => ({ op.1 with group := (rTxt s op.2).1 }, (rTxt s op.2).2)
  | 10 => ({ op.1 with member := (rTxt s op.2).1 }, (rTxt s op.2).2)
  | 11 => ({ op.1 with gen := ((rNum s 1099511627776 op.2).1 : Int) }, (rNum s 1099511627776 op.2).2)
  | 12 => ({ op.1 with robin := (rNum s (if d then 1099511627776 else 1) op.2).1 == 1 }, (rNum s (if d then 1099511627776 else 1) op.2).2)
  | 13 => ({ op.1 with tops := (rMany (rTxt s) (rNum s (if d then 1099511627776 else 8) op.2).2 (min (rNum s (if d then 1099511627776 else 8) op.2).1 9)).1 }, (rMany (rTxt s) (rNum s (if d then 1099511627776 else 8) op.2).2 (min (rNum s (if d then 1099511627776 else 8) op.2).1 9)).2)
  | _ => op

/-- a cell of another command -/
def setK (x o : O) (k : Nat) : O :=
  match k with
  | 1 => { o with topic := x.topic }
  | 2 => { o with pn := x.pn }
  | 3 => { o with n := x.n }
  | 4 => { o with off := x.off }
  | 5 => { o with bp := x.bp, be := x.be, bq := x.bq, recs := x.recs }
  | 9 => { o with group := x.group }
  | 10 => { o with member := x.member }
  | 11 => { o with gen := x.gen }
  | 12 => { o with robin := x.robin }
  | 13 => { o with tops := x.tops }
  | _ => o

theorem nats_catS (l : List ByteArray) : V.nats (catS l) = l.flatMap fun t => V.nats (txt t) := by
  induction l with
  | nil => rfl
  | cons a l ih => show V.nats (txt a ++ catS l) = _; rw [V.nats_append, ih]; rfl
theorem nats_tops (l : List ByteArray) : V.nats (topsT l) = V.puts l.length ++ l.flatMap fun t => V.nats (txt t) := by
  unfold topsT; rw [V.nats_append, V.nats_put, nats_catS]


/-- what is put is read -/
theorem readK_put {s : ByteArray} {d : Bool} {x o : O} {ks : List Nat} (g : Good x ks) {k : Nat} (hk : k ∈ ks) {a b : Int} (h : Stands s a (V.nats (itemB x k)) b) : readK s d (o, some a) k = (setK x o k, some b) := by
  unfold itemB at h
  have hd : (1099511627776 : Nat) ≤ 1099511627776 := Nat.le_refl _
  split at h
  · have e := txt_put (name_size (g.s1 hk)).2 h
    simp only [readK, setK, e]
  · have q := g.n2 hk
    rw [V.nats_put] at h
    have e := num_put (most := 1099511627776) (by omega) (by omega) h
    simp only [readK, setK, e, Int.toNat_of_nonneg q.1]
  · have q := g.n3 hk
    rw [V.nats_put] at h
    have e := num_put (most := 1099511627776) (by omega) (by omega) h
    simp only [readK, setK, e, Int.toNat_of_nonneg q.1]
  · have q := g.n4 hk
    rw [V.nats_put] at h
    have e := num_put (most := 1099511627776) (by omega) (by omega) h
    simp only [readK, setK, e, Int.toNat_of_nonneg q.1]
  · have q := g.b5 hk
    have e := bat_put q h
    obtain ⟨⟨p0, _⟩, ⟨e0, _⟩, ⟨q0, _⟩, _⟩ := allN_ok q
    simp only [readK, setK, e, Option.isSome_some, if_true, Int.toNat_of_nonneg p0, Int.toNat_of_nonneg e0, Int.toNat_of_nonneg q0]
  · have e := txt_put (name_size (g.s9 hk)).2 h
    simp only [readK, setK, e]
  · have e := txt_put (name_size (g.s10 hk)).2 h
    simp only [readK, setK, e]
  · have q := g.n11 hk
    rw [V.nats_put] at h
    have e := num_put (most := 1099511627776) (by omega) (by omega) h
    simp only [readK, setK, e, Int.toNat_of_nonneg q.1]
  · cases hb : x.robin with
    | true =>
      rw [hb, if_pos rfl, ← put_one, V.nats_put] at h
      have e := num_put (most := if d then 1099511627776 else 1) (by split <;> omega) (by omega) h
      simp only [readK, setK, e, hb]
      rfl
    | false =>
      rw [hb, if_neg (by decide), ← put_zero, V.nats_put] at h
      have e := num_put (most := if d then 1099511627776 else 1) (by split <;> omega) (by omega) h
      simp only [readK, setK, e, hb]
      rfl
  · obtain ⟨⟨l1, l2⟩, l3⟩ := names_size (g.s13 hk)
    rw [nats_tops] at h
    obtain ⟨h1, h2⟩ := h.split
    have e := num_put (most := if d then 1099511627776 else 8) (by split <;> omega) (by omega) h1
    have e2 := many_all x.tops (fun t ht a b q => txt_put (name_size (l3 t ht)).2 q) h2
    have e3 : min x.tops.length 9 = x.tops.length := by omega
    simp only [readK, setK, e, e3, e2]
  · rename_i n1 n2 n3 n4 n5 n9 n10 n11 n12 n13
    have : b = a := by
      obtain ⟨_, _, _, _, e⟩ := h
      rw [e, show (V.nats ⟨#[]⟩).length = 0 from rfl]
      simp
    subst this
    unfold readK setK
    split <;> first | exact absurd rfl n1 | exact absurd rfl n2 | exact absurd rfl n3 | exact absurd rfl n4 | exact absurd rfl n5 | exact absurd rfl n9 | exact absurd rfl n10 | exact absurd rfl n11 | exact absurd rfl n12 | exact absurd rfl n13 | rfl

theorem fold_put {s : ByteArray} {d : Bool} {x : O} {ks : List Nat} (g : Good x ks) : ∀ (js : List Nat) (o : O) (a b : Int), (∀ j ∈ js, j ∈ ks) → Stands s a (js.flatMap fun k => V.nats (itemB x k)) b → js.foldl (readK s d) (o, some a) = (js.foldl (setK x) o, some b)
  | [], o, a, b, _, h => by
    have : b = a := by obtain ⟨_, _, _, _, e⟩ := h; simpa using e
    subst this
    rfl
  | k :: js, o, a, b, hj, h => by
    rw [List.flatMap_cons] at h
    obtain ⟨h1, h2⟩ := h.split
    rw [List.foldl_cons, List.foldl_cons, readK_put g (hj k (by simp)) h1]
    exact fold_put g js _ _ _ (fun j q => hj j (by simp [q])) h2

def O.of (k : Nat) : O := ⟨k, ⟨#[]⟩, 0, 0, 0, 0, 0, 0, [], ⟨#[]⟩, ⟨#[]⟩, 0, false, []⟩

theorem fold_set {x : O} (hk : x.kind ≤ 12) (h : x.all (hasK x.kind)) : (hasK x.kind).foldl (setK x) (O.of x.kind) = x := by
  obtain ⟨kind, topic, pn, n, off, bp, be, bq, recs, group, member, gen, robin, tops⟩ := x
  obtain ⟨a1, a2, a3, a4, a5, a6, a7, a8, a9, a10, a11, a12, a13⟩ := h
  have hk' : kind ≤ 12 := hk
  have : kind = 0 ∨ kind = 1 ∨ kind = 2 ∨ kind = 3 ∨ kind = 4 ∨ kind = 5 ∨ kind = 6 ∨ kind = 7 ∨ kind = 8 ∨ kind = 9 ∨ kind = 10 ∨ kind = 11 ∨ kind = 12 := by omega
  clear hk hk'
  dsimp only at a1 a2 a3 a4 a5 a6 a7 a8 a9 a10 a11 a12 a13
  rcases this with rfl | rfl | rfl | rfl | rfl | rfl | rfl | rfl | rfl | rfl | rfl | rfl | rfl <;>
    simp [hasK, pickS, pickI, pickB, pickL] at a1 a2 a3 a4 a5 a6 a7 a8 a9 a10 a11 a12 a13 <;>
    simp [hasK, O.of, setK, *]

theorem nats_bytes (o : O) : V.nats o.bytes = V.puts o.kind ++ (hasK o.kind).flatMap fun k => V.nats (itemB o k) := by
  unfold O.bytes catB
  rw [← V.nats_put]
  generalize V.put o.kind = S
  generalize hasK o.kind = ks
  induction ks generalizing S with
  | nil => simp
  | cons k ks ih => rw [List.foldl_cons, ih, V.nats_append, List.flatMap_cons, List.append_assoc]

/-- the whole: a command of bytes -/
def readO (s : ByteArray) (d : Bool) : O × Option Int :=
  (hasK (rNum s (if d then 1099511627776 else 12) (some 0)).1).foldl (readK s d) (O.of (rNum s (if d then 1099511627776 else 12) (some 0)).1, (rNum s (if d then 1099511627776 else 12) (some 0)).2)

theorem readO_put {x : O} (hk : x.kind ≤ 12) (hc : x.chk = 0) (d : Bool) : readO x.bytes d = (x, some (x.bytes.size : Int)) := by
  obtain ⟨ha, g⟩ := chk_ok hk hc
  have hw : Stands x.bytes 0 (V.puts x.kind ++ (hasK x.kind).flatMap fun k => V.nats (itemB x k)) x.bytes.size := Stands.whole.2 (nats_bytes x)
  obtain ⟨h1, h2⟩ := hw.split
  have e := num_put (most := if d then 1099511627776 else 12) (by split <;> omega) (by omega) h1
  unfold readO
  rw [e]
  exact (fold_put g _ _ _ _ (fun _ h => h) h2).trans (by rw [fold_set hk ha])

/-- no two commands have the same bytes -/
theorem bytes_inj {x y : O} (hx : x.kind ≤ 12) (hy : y.kind ≤ 12) (cx : x.chk = 0) (cy : y.chk = 0) (h : x.bytes = y.bytes) : x = y := by
  have e := readO_put hx cx false
  rw [h, readO_put hy cy false] at e
  exact (Prod.mk.inj e).1.symm

/-! what was read -/
def keys : List Nat := [1, 2, 3, 4, 5, 9, 10, 11, 12, 13]
theorem readK_none (s : ByteArray) (d : Bool) (o : O) (k : Nat) : (readK s d (o, none) k).2 = none := by
  unfold readK
  split <;> first | rfl | exact many_none rfl _
theorem fold_none (s : ByteArray) (d : Bool) : ∀ (js : List Nat) (o : O), (js.foldl (readK s d) (o, none)).2 = none
  | [], _ => rfl
  | k :: js, o => by
    rw [List.foldl_cons]
    obtain ⟨o1, p1, h⟩ : ∃ o1 p1, readK s d (o, none) k = (o1, p1) := ⟨_, _, rfl⟩
    have := readK_none s d o k
    rw [h] at this
    have e : p1 = none := this
    rw [h, e]
    exact fold_none s d js o1
theorem readK_keep (s : ByteArray) (d : Bool) (op : O × Option Int) {k j : Nat} (h : k ≠ j) : itemB (readK s d op j).1 k = itemB op.1 k := by
  unfold readK
  split <;> unfold itemB <;> split <;> first | rfl | exact absurd rfl h | (split <;> rfl)
theorem fold_keep (s : ByteArray) (d : Bool) {k : Nat} : ∀ (js : List Nat) (op : O × Option Int), k ∉ js → itemB (js.foldl (readK s d) op).1 k = itemB op.1 k
  | [], _, _ => rfl
  | j :: js, op, h => by
    rw [List.foldl_cons, fold_keep s d js _ (fun q => h (by simp [q])), readK_keep s d op (fun q => h (by simp [q]))]

theorem readK_got {s : ByteArray} {o o1 : O} {p : Option Int} {c : Int} {k : Nat} (hk : k ∈ keys) (h : readK s false (o, p) k = (o1, some c)) : ∃ a, p = some a ∧ Stands s a (V.nats (itemB o1 k)) c := by
  have num : ∀ most, ∀ n, rNum s most p = (n, some c) → ∃ a, p = some a ∧ Stands s a (V.nats (V.put (n : Int).toNat)) c := fun most n q => by
    obtain ⟨a, e, _, hs⟩ := num_got q
    exact ⟨a, e, by rw [Int.toNat_natCast, V.nats_put]; exact hs⟩
  have text : ∀ t, rTxt s p = (t, some c) → ∃ a, p = some a ∧ Stands s a (V.nats (txt t)) c := fun t q => by
    obtain ⟨a, e, _, hs⟩ := txt_got q
    exact ⟨a, e, hs⟩
  have split : ∀ {α : Type} (x : α × Option Int), x.2 = some c → x = (x.1, some c) := fun x q => by rw [← q]
  unfold keys at hk
  simp only [List.mem_cons, List.not_mem_nil, or_false] at hk
  rcases hk with rfl | rfl | rfl | rfl | rfl | rfl | rfl | rfl | rfl | rfl <;> obtain ⟨rfl, h2⟩ := Prod.mk.inj h
  · exact text _ (split _ h2)
  · exact num _ _ (split _ h2)
  · exact num _ _ (split _ h2)
  · exact num _ _ (split _ h2)
  · have h3 : (rBat s p).2 = some c := h2
    obtain ⟨a, e, _, hs⟩ := bat_got (split _ h3)
    refine ⟨a, e, ?_⟩
    have h4 : ((rBat s (o, p).2).2.isSome) = true := by
      show (rBat s p).2.isSome = true
      rw [h3]
      rfl
    rw [if_pos h4]
    exact hs
  · exact text _ (split _ h2)
  · exact text _ (split _ h2)
  · exact num _ _ (split _ h2)
  · obtain ⟨n, hn⟩ : ∃ n, rNum s 1 p = (n, some c) := ⟨_, split _ h2⟩
    obtain ⟨a, e, hm, hs⟩ := num_got hn
    refine ⟨a, e, ?_⟩
    show Stands s a (V.nats (if ((rNum s 1 p).1 == 1) = true then ⟨#[1]⟩ else ⟨#[0]⟩)) c
    rw [hn]
    have : n = 0 ∨ n = 1 := by omega
    rcases this with rfl | rfl
    · show Stands s a (V.nats ⟨#[0]⟩) c
      rw [← put_zero, V.nats_put]; exact hs
    · show Stands s a (V.nats ⟨#[1]⟩) c
      rw [← put_one, V.nats_put]; exact hs
  · obtain ⟨n, q, hn⟩ : ∃ n q, rNum s 8 p = (n, q) := ⟨_, _, rfl⟩
    have h3 : (rMany (rTxt s) (rNum s 8 p).2 (min (rNum s 8 p).1 9)).2 = some c := h2
    rw [hn] at h3
    cases q with
    | none =>
      rw [many_none rfl] at h3
      cases h3
    | some m =>
      obtain ⟨a, e, hm, hs⟩ := num_got hn
      obtain ⟨a', e', hl, _, hs'⟩ := many_got (P := fun _ => True) (fun p x b q => by obtain ⟨a, e, _, h⟩ := txt_got q; exact ⟨a, e, trivial, h⟩) (fun a' e' => by injection e' with e'; subst e'; have := hs.bounds; omega) _ (split _ h3)
      injection e' with e'
      subst e'
      refine ⟨a, e, ?_⟩
      show Stands s a (V.nats (topsT (rMany (rTxt s) (rNum s 8 p).2 (min (rNum s 8 p).1 9)).1)) c
      rw [hn, nats_tops]
      dsimp only at hl ⊢
      rw [hl, show min n 9 = n by omega]
      rw [show min n 9 = n by omega] at hs'
      exact hs.comp hs'

theorem fold_got {s : ByteArray} : ∀ (js : List Nat) {o o1 : O} {p : Option Int} {c : Int}, (∀ j ∈ js, j ∈ keys) → js.Nodup → (∀ a, p = some a → 0 ≤ a ∧ a ≤ s.size) → js.foldl (readK s false) (o, p) = (o1, some c) → ∃ a, p = some a ∧ Stands s a (js.flatMap fun k => V.nats (itemB o1 k)) c
  | [], o, o1, p, c, _, _, h0, h => by
    obtain ⟨_, rfl⟩ := Prod.mk.inj h
    exact ⟨c, rfl, by simpa using Stands.nil (h0 c rfl).1 (h0 c rfl).2⟩
  | k :: js, o, o1, p, c, hj, hn, h0, h => by
    rw [List.foldl_cons] at h
    obtain ⟨o2, q, hq⟩ : ∃ o2 q, readK s false (o, p) k = (o2, q) := ⟨_, _, rfl⟩
    rw [hq] at h
    rw [List.nodup_cons] at hn
    cases q with
    | none =>
      have := fold_none s false js o2
      rw [h] at this
      cases this
    | some m =>
      obtain ⟨a, e, hs⟩ := readK_got (hj k (by simp)) hq
      obtain ⟨m', e', hs'⟩ := fold_got js (fun j q => hj j (by simp [q])) hn.2 (fun a' e' => by injection e' with e'; subst e'; have := hs.bounds; omega) h
      injection e' with e'
      subst e'
      have hkeep := fold_keep s false js (o2, some m) hn.1
      rw [h] at hkeep
      refine ⟨a, e, ?_⟩
      rw [List.flatMap_cons, hkeep]
      exact hs.comp hs'

theorem hasK_keys (k : Nat) : (∀ j ∈ hasK k, j ∈ keys) ∧ (hasK k).Nodup := by
  unfold hasK
  split <;> decide
theorem fold_kind (s : ByteArray) (d : Bool) : ∀ (js : List Nat) (op : O × Option Int), (js.foldl (readK s d) op).1.kind = op.1.kind
  | [], _ => rfl
  | j :: js, op => by
    rw [List.foldl_cons, fold_kind s d js]
    unfold readK
    split <;> first | rfl | (dsimp only; split <;> rfl)

/-- what was read to the end is these bytes -/
theorem readO_got {s : ByteArray} {o : O} (h : readO s false = (o, some (s.size : Int))) : o.kind ≤ 12 ∧ o.bytes = s := by
  obtain ⟨n, q, hn⟩ : ∃ n q, rNum s 12 (some 0) = (n, q) := ⟨_, _, rfl⟩
  have h2 : (hasK (rNum s 12 (some 0)).1).foldl (readK s false) (O.of (rNum s 12 (some 0)).1, (rNum s 12 (some 0)).2) = (o, some (s.size : Int)) := h
  rw [hn] at h2
  have hkind := fold_kind s false (hasK n) (O.of n, q)
  rw [h2] at hkind
  have hk : o.kind = n := hkind
  cases q with
  | none =>
    have := fold_none s false (hasK n) (O.of n)
    rw [h2] at this
    cases this
  | some m =>
    obtain ⟨a, e, hm, hs⟩ := num_got hn
    injection e with e
    subst e
    obtain ⟨m', e', hs'⟩ := fold_got (hasK n) (hasK_keys n).1 (hasK_keys n).2 (fun a' e' => by injection e' with e'; subst e'; have := hs.bounds; omega) h2
    injection e' with e'
    subst e'
    refine ⟨by omega, V.nats_inj ?_⟩
    rw [nats_bytes, hk]
    exact (Stands.whole.1 (hs.comp hs')).symm

/-- as small as what is read -/
structure Small (o : O) : Prop where
  t : o.topic.size ≤ 16
  g : o.group.size ≤ 16
  m : o.member.size ≤ 16
  r : o.recs.length ≤ 16
  rs : ∀ r ∈ o.recs, r.key.size ≤ 64 ∧ r.val.size ≤ 512
  l : o.tops.length ≤ 9
  ls : ∀ s ∈ o.tops, s.size ≤ 16
theorem small_of (k : Nat) : Small (O.of k) := ⟨Nat.zero_le 16, Nat.zero_le 16, Nat.zero_le 16, Nat.zero_le 16, by simp [O.of], Nat.zero_le 9, by simp [O.of]⟩
theorem bat_small (s : ByteArray) (p : Option Int) : (rBat s p).1.l.length ≤ 16 ∧ ∀ r ∈ (rBat s p).1.l, r.key.size ≤ 64 ∧ r.val.size ≤ 512 := by
  obtain ⟨b, q, h⟩ : ∃ b q, rBat s p = (b, q) := ⟨_, _, rfl⟩
  rw [h]
  cases q with
  | none => rw [rd_bad h]; exact ⟨by decide, by simp [Bt.zero]⟩
  | some c =>
    obtain ⟨_, _, h1, _⟩ := bat_got h
    obtain ⟨_, _, _, _, l1, hall⟩ := allN_ok h1
    refine ⟨by show b.l.length ≤ 16; omega, fun r hr => ?_⟩
    have := chk_parts (hall r hr)
    exact ⟨this.1, this.2.1⟩
theorem readK_small {s : ByteArray} {d : Bool} {op : O × Option Int} (h : Small op.1) (k : Nat) : Small (readK s d op k).1 := by
  obtain ⟨h1, h2, h3, h4, h5, h6, h7⟩ := h
  unfold readK
  split
  · exact ⟨txt_small _, h2, h3, h4, h5, h6, h7⟩
  · exact ⟨h1, h2, h3, h4, h5, h6, h7⟩
  · exact ⟨h1, h2, h3, h4, h5, h6, h7⟩
  · exact ⟨h1, h2, h3, h4, h5, h6, h7⟩
  · dsimp only
    split
    · exact ⟨h1, h2, h3, (bat_small s _).1, (bat_small s _).2, h6, h7⟩
    · exact ⟨h1, h2, h3, h4, h5, h6, h7⟩
  · exact ⟨h1, txt_small _, h3, h4, h5, h6, h7⟩
  · exact ⟨h1, h2, txt_small _, h4, h5, h6, h7⟩
  · exact ⟨h1, h2, h3, h4, h5, h6, h7⟩
  · exact ⟨h1, h2, h3, h4, h5, h6, h7⟩
  · refine ⟨h1, h2, h3, h4, h5, ?_, many_each (fun p => txt_small p) _ _⟩
    show (rMany _ _ _).1.length ≤ 9
    rw [many_len]
    omega
  · exact ⟨h1, h2, h3, h4, h5, h6, h7⟩
theorem fold_small {s : ByteArray} {d : Bool} : ∀ (js : List Nat) {op : O × Option Int}, Small op.1 → Small (js.foldl (readK s d) op).1
  | [], _, h => h
  | k :: js, op, h => by rw [List.foldl_cons]; exact fold_small js (readK_small h k)
theorem readO_small (s : ByteArray) (d : Bool) : Small (readO s d).1 := fold_small _ (small_of _)

end Go.Proofs.YtijofikpdhapoaaGreat.L4
