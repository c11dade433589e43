/-
  Plain facts that the laws about a log need.
-/
import Derived.Test.YtflcggpeflagiaaPlOps
namespace Go.Proofs.Ytflcggpeflagiaa.L6
open Go.RowKit
open L3 L4 L5

theorem mask_le (m : Nat) (hm : m < 9223372036854775808) (x : Int) : 0 ≤ bits .and .i64 x (m : Int) ∧ bits .and .i64 x (m : Int) ≤ m := by
  have e : (BitVec.ofInt 64 x &&& BitVec.ofInt 64 (m : Int)).toNat ≤ m := by
    rw [BitVec.toNat_and]
    refine Nat.le_trans Nat.and_le_right ?_
    rw [BitVec.ofInt_natCast, BitVec.toNat_ofNat, Nat.mod_eq_of_lt (by omega)]
    exact Nat.le_refl _
  show 0 ≤ IntKind.i64.wrap ((BitVec.ofInt 64 x &&& BitVec.ofInt 64 (m : Int)).toNat : Int) ∧ IntKind.i64.wrap ((BitVec.ofInt 64 x &&& BitVec.ofInt 64 (m : Int)).toNat : Int) ≤ m
  rw [IntKind.wrap_i64]
  omega
theorem app_end (room : Nat) (rs : List R) {l : List Sg} (h : 0 < l.length) : endL (appL room rs l) = endL l + rs.length := by
  obtain ⟨i, s, rfl⟩ := last_split h
  rw [app_snoc, end_snoc]
  split
  · rw [end_snoc]
  · rw [end_snoc]
theorem app_start (room : Nat) (rs : List R) {l : List Sg} (h : 0 < l.length) : startL (appL room rs l) = startL l := by
  obtain ⟨i, s, rfl⟩ := last_split h
  rw [app_snoc]
  split
  · exact start_snoc i s _
  · cases i <;> rfl
theorem app_all (room : Nat) (rs : List R) {l : List Sg} (h : 0 < l.length) : allL (appL room rs l) = allL l ++ numbered (endL l) rs := by
  obtain ⟨i, s, rfl⟩ := last_split h
  rw [app_snoc, end_snoc]
  split
  · rw [all_app]; simp [allL]
  · rw [all_app, all_app]; simp [allL]
theorem chained_at : ∀ {q : Option Int} {l : List Sg} {i : Nat} {s t : Sg}, chained q l → l[i]? = some s → l[i + 1]? = some t → t.b = s.n
  | _, [], i, s, t, _, h, _ => by simp at h
  | q, a :: l, 0, s, t, hc, hs, ht => by
    have ea : a = s := by simpa using hs
    subst ea
    cases l with
    | nil => simp at ht
    | cons c l =>
      have ec : c = t := by simpa using ht
      subst ec
      exact hc.2.1 _ rfl
  | q, a :: l, i + 1, s, t, hc, hs, ht => chained_at (i := i) hc.2 (by simpa using hs) (by simpa using ht)
/-- no record lies at the end, or behind it -/
theorem below_end {room : Nat} {l : List Sg} (g : GoodL room l) : ∀ f ∈ allL l, f.o < endL l := fun f hf => by
  obtain ⟨s, hs, hfs⟩ := List.mem_flatMap.1 hf
  obtain ⟨i, hi, e⟩ := List.mem_iff_getElem.1 hs
  have h1 : l[i]? = some s := by rw [← e]; exact List.getElem?_eq_getElem _
  obtain ⟨t, ht⟩ : ∃ t, l[l.length - 1]? = some t := ⟨_, List.getElem?_eq_getElem (by omega)⟩
  have := good_le g (by omega : i ≤ l.length - 1) h1 ht
  have := rise_mem (g.good s hs).rise f hfs
  rw [end_is ht]
  omega
theorem start_end {room : Nat} {l : List Sg} (g : GoodL room l) : startL l ≤ endL l := by
  obtain ⟨s, hs⟩ : ∃ s, l[0]? = some s := ⟨_, List.getElem?_eq_getElem g.ne⟩
  obtain ⟨t, ht⟩ : ∃ t, l[l.length - 1]? = some t := ⟨_, List.getElem?_eq_getElem (by have := g.ne; omega)⟩
  have h1 := good_le g (by omega : 0 ≤ l.length - 1) hs ht
  have h2 := (g.good s (List.mem_of_getElem? hs)).bn
  rw [start_is hs, end_is ht]
  omega
theorem start_zero {room : Nat} {l : List Sg} (g : GoodL room l) : 0 ≤ startL l := by
  obtain ⟨s, hs⟩ : ∃ s, l[0]? = some s := ⟨_, List.getElem?_eq_getElem g.ne⟩
  rw [start_is hs]
  exact (g.good s (List.mem_of_getElem? hs)).b0
theorem drop_end {l : List Sg} {d : Nat} (h : d < l.length) : endL (l.drop d) = endL l := by
  obtain ⟨i, s, rfl⟩ := last_split (by omega : 0 < l.length)
  rw [List.length_append, List.length_singleton] at h
  rw [List.drop_append_of_le_length (by omega), end_snoc, end_snoc]
theorem drop_start {room : Nat} {l : List Sg} (g : GoodL room l) {d : Nat} (h : d < l.length) : startL l ≤ startL (l.drop d) := by
  obtain ⟨s, hs⟩ : ∃ s, l[0]? = some s := ⟨_, List.getElem?_eq_getElem g.ne⟩
  obtain ⟨t, ht⟩ : ∃ t, l[d]? = some t := ⟨_, List.getElem?_eq_getElem h⟩
  have h0 : (l.drop d)[0]? = some t := by rw [List.getElem?_drop, Nat.add_zero]; exact ht
  rw [start_is hs, start_is h0]
  by_cases hd : d = 0
  · subst hd
    rw [hs] at ht; cases ht; exact Int.le_refl _
  · obtain ⟨k, rfl⟩ : ∃ k, d = k + 1 := ⟨d - 1, by omega⟩
    obtain ⟨u, hu⟩ : ∃ u, l[k]? = some u := ⟨_, List.getElem?_eq_getElem (by omega)⟩
    have h1 := chained_at g.chain hu ht
    have h2 := good_le g (Nat.zero_le k) hs hu
    have h3 := (g.good s (List.mem_of_getElem? hs)).bn
    omega
theorem numbered_ge : ∀ (o : Int) (rs : List R), ∀ f ∈ numbered o rs, o ≤ f.o
  | _, [], f, hf => by simp [numbered] at hf
  | o, r :: t, f, hf => by
    rcases List.mem_cons.1 hf with rfl | hf
    · exact Int.le_refl _
    · have := numbered_ge (o + 1) t f hf; omega
/-- what was appended is read -/
theorem read_appended {room : Nat} {rs : List R} {l : List Sg} (g : GoodL room l) {m : Nat} (hm : rs.length = m) : readL (allL (appL room rs l)) (endL l) m = numbered (endL l) rs := by
  rw [app_all room rs g.ne, read_app, read_none (below_end g), List.nil_append]
  unfold readL
  rw [List.filter_eq_self.2 (fun f hf => by simpa using numbered_ge _ _ f hf), List.take_of_length_le]
  rw [numbered_len]
  simp only [List.length_nil]
  omega
theorem numbered_get {o : Int} {rs : List R} {t : Nat} {r : R} (h : rs[t]? = some r) : (numbered o rs)[t]? = some ⟨o + t, r⟩ := by
  induction rs generalizing o t with
  | nil => simp at h
  | cons a s ih =>
    cases t with
    | zero => have e : a = r := by simpa using h
              subst e; simp [numbered]
    | succ t =>
      have := ih (o := o + 1) (t := t) (by simpa using h)
      show (numbered (o + 1) s)[t]? = _
      rw [this]
      congr 2
      omega
theorem readE_ok {l : List Sg} {a : Int} (h1 : startL l ≤ a) (h2 : a ≤ endL l) : readE l a = 0 := by
  unfold readE
  rw [if_neg (by omega), if_neg (by omega)]
theorem own_cells {w : World} {base : Nat} {T : TypeId} {xb n c r : Nat} {X : List L4.Fd} {f : L4.Fd} (h : w.ownsRow base T 5 (.slice (some ⟨xb, 0, none⟩) n c) n (rowF X)) (hf : X[r]? = some f) :
    w.cell? ⟨xb, r * 5, none⟩ = some (.int .i64 f.o) ∧ w.cell? ⟨xb, r * 5 + 1, none⟩ = some (.bool f.r.hk) ∧ w.cell? ⟨xb, r * 5 + 2, none⟩ = some (.string f.r.key) ∧ w.cell? ⟨xb, r * 5 + 3, none⟩ = some (.bool f.r.tb) ∧ w.cell? ⟨xb, r * 5 + 4, none⟩ = some (.string f.r.val) := by
  obtain ⟨a, b, c, d, e⟩ := rowF_at X r f hf
  have q := fun j v hv => h.cells (g := xb) rfl j v hv
  have q0 := q _ _ a; have q1 := q _ _ b; have q2 := q _ _ c; have q3 := q _ _ d; have q4 := q _ _ e
  rw [addr_add] at q0 q1 q2 q3 q4
  exact ⟨q0, q1, q2, q3, q4⟩
theorem own_recs {w : World} {base : Nat} {T : TypeId} {xb n c r : Nat} {X : List R} {f : R} (h : w.ownsRow base T 4 (.slice (some ⟨xb, 0, none⟩) n c) n (rowOf X)) (hf : X[r]? = some f) :
    w.cell? ⟨xb, r * 4, none⟩ = some (.bool f.hk) ∧ w.cell? ⟨xb, r * 4 + 1, none⟩ = some (.string f.key) ∧ w.cell? ⟨xb, r * 4 + 2, none⟩ = some (.bool f.tb) ∧ w.cell? ⟨xb, r * 4 + 3, none⟩ = some (.string f.val) := by
  obtain ⟨a, b, c, d⟩ := rowOf_at X r f hf
  have q := fun j v hv => h.cells (g := xb) rfl j v hv
  have q0 := q _ _ a; have q1 := q _ _ b; have q2 := q _ _ c; have q3 := q _ _ d
  rw [addr_add] at q0 q1 q2 q3
  exact ⟨q0, q1, q2, q3⟩
theorem recs_own {w : World} {base : Nat} {T : TypeId} {A : Option Addr} {m c : Nat} {M : List R} (hm : M.length = m) (h : w.ownsRow base T 4 (.slice A m c) m (rowOf M)) : Reads w w.heap.size A M := by
  subst hm; exact Reads.own h
theorem reads_own {w : World} {base : Nat} {T : TypeId} {A : Option Addr} {m c : Nat} {M : List L4.Fd} (hm : M.length = m) (h : w.ownsRow base T 5 (.slice A m c) m (rowF M)) : ReadsF w w.heap.size A M := by
  subst hm; exact ReadsF.own h
end Go.Proofs.Ytflcggpeflagiaa.L6
