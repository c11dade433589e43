/-
  Contracts: whether a batch may be.
-/
import Derived.Test.YtflcggpeflagiaaMText
import Derived.LoopTactic
import Derived.LoopNIn
import Derived.Outline
import Derived.Laws.Rows
import Derived.Laws.AppendOwn
import Derived.Test.YtflcggpeflagiaaMSmall
import Derived.BigQuiet
import Derived.Deep.QuietTactic
namespace Go.Proofs.Ytflcggpeflagiaa.L3
open Go.RowKit

/-- a slice that reads as these records, in a block below B -/
def Reads (w : World) (B : Nat) (A : Option Addr) (l : List R) : Prop :=
  0 < l.length → ∃ g, A = some ⟨g, 0, none⟩ ∧ g < B ∧ ∀ i r, l[i]? = some r →
    w.cell? ⟨g, i * 4, none⟩ = some (.bool r.hk) ∧ w.cell? ⟨g, i * 4 + 1, none⟩ = some (.string r.key) ∧ w.cell? ⟨g, i * 4 + 2, none⟩ = some (.bool r.tb) ∧ w.cell? ⟨g, i * 4 + 3, none⟩ = some (.string r.val)

/-- the first error of records -/
def chkL : List R → Int
  | [] => 0
  | r :: t => if r.chk ≠ 0 then r.chk else chkL t
theorem chkL_next {l : List R} {k : Nat} {hk tb : Bool} {key val : ByteArray} {y : Int} (h : l[k]? = some ⟨hk, key, tb, val⟩) (hy : chk hk key tb val = y) :
    (y ≠ 0 → chkL (l.drop k) = y) ∧ (y = 0 → chkL (l.drop k) = chkL (l.drop (k + 1))) := by
  have hlt := (List.getElem?_eq_some_iff.1 h).1
  have hl := (List.getElem?_eq_some_iff.1 h).2
  rw [List.drop_eq_getElem_cons hlt, hl]
  have hr : R.chk ⟨hk, key, tb, val⟩ = y := hy
  constructor
  · intro h0; show (if _ ≠ 0 then _ else _) = _; rw [hr, if_pos h0]
  · intro h0; show (if _ ≠ 0 then _ else _) = _; rw [hr, if_neg (by simpa using h0)]
def allN (p e q : Int) (l : List R) : Int :=
  if (numB p && numB e && numB q) = false then 1 else if l.length = 0 then 30 else if 16 < l.length then 2 else chkL l

end Go.Proofs.Ytflcggpeflagiaa.L3
/-
  Contracts: a record cut short; what is a slice of records.
-/
namespace Go.Proofs.Ytflcggpeflagiaa.L3
open Go.RowKit

def cutS (s : ByteArray) (m : Int) : ByteArray := s.extract 0 (min (s.size : Int) m).toNat
def R.cut (r : R) : R := ⟨r.hk, cutS r.key 80, r.tb, cutS r.val 600⟩
theorem cutS_size (s : ByteArray) (m : Nat) : (cutS s m).size ≤ m := by
  unfold cutS; rw [ByteArray.size_extract]; omega

set_option maxHeartbeats 1000000 in
theorem cut_any (hk : Bool) (k : ByteArray) (tb : Bool) (v : ByteArray) (k' v' : ByteArray) (w : World) (h1 : k.size ≤ maxLen) (h2 : v.size ≤ maxLen) (HK : cutS k 80 = k') (HV : cutS v 600 = v') :
    Calls Try.prog 51 #[.agg #[.bool hk, .string k, .bool tb, .string v]] w fun e w' => e = .returned (.agg #[.bool hk, .string k', .bool tb, .string v']) ∧ Below w.heap.size w w' := by
  unfold maxLen at h1 h2
  unfold cutS at HK HV
  go_enter Try.func51, Try.ntmps51
  go_wp2_with fail
  refine bodyPost_ret (v := .agg #[.bool hk, .string k', .bool tb, .string v']) (by simp [results, Try.results51, go_sem]) rfl ⟨rfl, ?_⟩
  exact two_box _ _

theorem cut_is (hk : Bool) (k : ByteArray) (tb : Bool) (v : ByteArray) (w : World) (h1 : k.size ≤ maxLen) (h2 : v.size ≤ maxLen) :
    Calls Try.prog 51 #[.agg #[.bool hk, .string k, .bool tb, .string v]] w fun e w' => e = .returned (.agg #[.bool hk, .string (cutS k 80), .bool tb, .string (cutS v 600)]) ∧ Below w.heap.size w w' :=
  cut_any hk k tb v _ _ w h1 h2 rfl rfl

/-! ### Slices of records -/
/-- a slice that reads as these records, in a block below B, from a place on -/
def ReadsO (w : World) (B : Nat) (A : Option Addr) (l : List R) : Prop :=
  0 < l.length → ∃ g o, A = some ⟨g, o, none⟩ ∧ g < B ∧ ∀ i r, l[i]? = some r →
    w.cell? ⟨g, o + i * 4, none⟩ = some (.bool r.hk) ∧ w.cell? ⟨g, o + i * 4 + 1, none⟩ = some (.string r.key) ∧ w.cell? ⟨g, o + i * 4 + 2, none⟩ = some (.bool r.tb) ∧ w.cell? ⟨g, o + i * 4 + 3, none⟩ = some (.string r.val)

theorem Reads.o {w : World} {B : Nat} {A : Option Addr} {l : List R} (h : Reads w B A l) : ReadsO w B A l := fun h0 => by
  obtain ⟨g, e, hg, hc⟩ := h h0
  exact ⟨g, 0, e, hg, fun i r hr => by simpa using hc i r hr⟩
theorem Reads.below {w w' : World} {B : Nat} {A : Option Addr} {l : List R} (h : Reads w B A l) (hb : Below B w w') : Reads w' B A l := fun h0 => by
  obtain ⟨g, e, hg, hc⟩ := h h0
  refine ⟨g, e, hg, fun i r hr => ?_⟩
  obtain ⟨c0, c1, c2, c3⟩ := hc i r hr
  exact ⟨(hb.cell (p := ⟨g, i * 4, none⟩) hg).trans c0, (hb.cell (p := ⟨g, i * 4 + 1, none⟩) hg).trans c1, (hb.cell (p := ⟨g, i * 4 + 2, none⟩) hg).trans c2, (hb.cell (p := ⟨g, i * 4 + 3, none⟩) hg).trans c3⟩
theorem Reads.mono {w : World} {B B' : Nat} {A : Option Addr} {l : List R} (h : Reads w B A l) (hB : B ≤ B') : Reads w B' A l := fun h0 => by
  obtain ⟨g, e, hg, hc⟩ := h h0
  exact ⟨g, e, by omega, hc⟩
theorem ReadsO.below {w w' : World} {B : Nat} {A : Option Addr} {l : List R} (h : ReadsO w B A l) (hb : Below B w w') : ReadsO w' B A l := fun h0 => by
  obtain ⟨g, o, e, hg, hc⟩ := h h0
  refine ⟨g, o, e, hg, fun i r hr => ?_⟩
  obtain ⟨c0, c1, c2, c3⟩ := hc i r hr
  exact ⟨(hb.cell (p := ⟨g, o + i * 4, none⟩) hg).trans c0, (hb.cell (p := ⟨g, o + i * 4 + 1, none⟩) hg).trans c1, (hb.cell (p := ⟨g, o + i * 4 + 2, none⟩) hg).trans c2, (hb.cell (p := ⟨g, o + i * 4 + 3, none⟩) hg).trans c3⟩

/-- the cells of records, one behind the other -/
def rowOf : List R → List Value
  | [] => []
  | r :: t => .bool r.hk :: .string r.key :: .bool r.tb :: .string r.val :: rowOf t
theorem rowOf_len : ∀ l, (rowOf l).length = l.length * 4
  | [] => rfl
  | r :: t => by show (rowOf t).length + 1 + 1 + 1 + 1 = (t.length + 1) * 4; rw [rowOf_len t]; omega
theorem rowOf_app : ∀ a b, rowOf (a ++ b) = rowOf a ++ rowOf b
  | [], b => rfl
  | r :: t, b => by show _ :: _ :: _ :: _ :: rowOf (t ++ b) = _; rw [rowOf_app t b]; rfl
theorem rowOf_at : ∀ (l : List R) (i : Nat) (r : R), l[i]? = some r → (rowOf l)[i * 4]? = some (.bool r.hk) ∧ (rowOf l)[i * 4 + 1]? = some (.string r.key) ∧ (rowOf l)[i * 4 + 2]? = some (.bool r.tb) ∧ (rowOf l)[i * 4 + 3]? = some (.string r.val)
  | [], i, r, h => by simp at h
  | q :: t, 0, r, h => by
    have e : q = r := by simpa using h
    subst e
    exact ⟨rfl, rfl, rfl, rfl⟩
  | q :: t, i + 1, r, h => by
    have h' : t[i]? = some r := by simpa using h
    obtain ⟨a, b, c, d⟩ := rowOf_at t i r h'
    have e : (i + 1) * 4 = i * 4 + 1 + 1 + 1 + 1 := by omega
    rw [e]
    exact ⟨a, b, c, d⟩
theorem rowOf_one : ∀ (l : List R), ∀ u ∈ rowOf l, u.oneCell' = true
  | [], u, h => by simp [rowOf] at h
  | r :: t, u, h => by
    simp only [rowOf, List.mem_cons] at h
    rcases h with rfl | rfl | rfl | rfl | h
    · rfl
    · rfl
    · rfl
    · rfl
    · exact rowOf_one t u h

/-- a row of the call's own reads as its records -/
theorem Reads.own {w : World} {base : Nat} {T : TypeId} {A : Option Addr} {cap : Nat} {l : List R} (h : w.ownsRow base T 4 (.slice A l.length cap) l.length (rowOf l)) : Reads w w.heap.size A l := fun h0 => by
  rcases h.2 with ⟨_, e⟩ | ⟨g, cap', cur, e, hb, hh, _⟩
  · omega
  · injection e with e1 e2 e3
    refine ⟨g, e1, ?_, fun i r hr => ?_⟩
    · rcases Nat.lt_or_ge g w.heap.size with hlt | hge
      · exact hlt
      · rw [Array.getElem?_eq_none hge] at hh; cases hh
    · obtain ⟨a, b, c, d⟩ := rowOf_at l i r hr
      have hc := h.cells (g := g) (by rw [e1]; rfl)
      have ad : ∀ j, (⟨g, 0, none⟩ : Addr).add j = ⟨g, j, none⟩ := fun j => by unfold Addr.add; split <;> simp_all
      refine ⟨?_, ?_, ?_, ?_⟩
      · have := hc _ _ a; rwa [ad] at this
      · have := hc _ _ b; rwa [ad] at this
      · have := hc _ _ c; rwa [ad] at this
      · have := hc _ _ d; rwa [ad] at this

/-- a row of the call's own stays as long as what stood then is as it was -/
theorem own_below {w w' : World} {base : Nat} {T : TypeId} {v : Value} {n m : Nat} {xs : List Value} (h : w.ownsRow base T m v n xs) (hb : Below w.heap.size w w') : w'.ownsRow base T m v n xs := by
  refine ⟨h.1, ?_⟩
  rcases h.2 with e | ⟨g, cap, cur, e, h1, hh, h2⟩
  · exact .inl e
  · have hlt : g < w.heap.size := by
      rcases Nat.lt_or_ge g w.heap.size with hlt | hge
      · exact hlt
      · rw [Array.getElem?_eq_none hge] at hh; cases hh
    exact .inr ⟨g, cap, cur, e, h1, (hb.block g hlt).trans hh, h2⟩
end Go.Proofs.Ytflcggpeflagiaa.L3
/-
  Contracts: the document's names, letters, and which text stands ahead.
-/
namespace Go.Proofs.Ytflcggpeflagiaa.L4
open Go.RowKit
open L3

/-! ### A name -/
def nameC (c : Nat) : Bool := (decide (97 ≤ c) && decide (c ≤ 122)) || (decide (48 ≤ c) && decide (c ≤ 57)) || decide (c = 45)
def nameB (s : ByteArray) : Bool := decide (1 ≤ s.size ∧ s.size ≤ 16) && (V.nats s).all nameC

theorem nats_at {s : ByteArray} {k : Nat} (h : k < s.size) : (V.nats s)[k]? = some s[k].toNat := by
  have e := V.drop_at s k h
  have : (V.nats s)[k]? = ((V.nats s).drop k)[0]? := by rw [List.getElem?_drop]; rfl
  rw [this, e]
  rfl
theorem all_next {l : List Nat} {p : Nat → Bool} {k c : Nat} (h : (l.take k).all p = true) (hc : l[k]? = some c) (hp : p c = true) : (l.take (k + 1)).all p = true := by
  rw [List.take_add_one, hc, List.all_append, h]
  simp [hp]
theorem all_not {l : List Nat} {p : Nat → Bool} {k c : Nat} (hc : l[k]? = some c) (hp : p c = false) : l.all p = false := by
  rw [List.all_eq_false]
  exact ⟨c, List.mem_of_getElem? hc, by simp [hp]⟩

theorem name_ways (b : Nat) : ((b : Int) < 97 ∧ (b : Int) < 48 ∧ ((b : Int) == 45) = false ∧ nameC b = false) ∨ ((b : Int) < 97 ∧ (b : Int) < 48 ∧ ((b : Int) == 45) = true ∧ nameC b = true) ∨ ((b : Int) < 97 ∧ (48 : Int) ≤ b ∧ (b : Int) ≤ 57 ∧ nameC b = true) ∨
    ((b : Int) < 97 ∧ (48 : Int) ≤ b ∧ ¬ (b : Int) ≤ 57 ∧ ((b : Int) == 45) = false ∧ nameC b = false) ∨ ((97 : Int) ≤ b ∧ (b : Int) ≤ 122 ∧ nameC b = true) ∨ ((97 : Int) ≤ b ∧ ¬ (b : Int) ≤ 122 ∧ (48 : Int) ≤ b ∧ ¬ (b : Int) ≤ 57 ∧ ((b : Int) == 45) = false ∧ nameC b = false) := by
  simp only [nameC, beq_iff_eq, beq_eq_false_iff_ne, Bool.or_eq_true, Bool.and_eq_true, decide_eq_true_eq, Bool.or_eq_false_iff, Bool.and_eq_false_iff, decide_eq_false_iff_not]
  omega
/-- is a byte among a text's? -/
def amB (s : ByteArray) (c : Nat) : Bool := decide (c ∈ V.nats s)
/-! ### What a kind has -/
def hasS : Nat → ByteArray
  | 0 => ⟨#[116, 110]⟩
  | 1 => ⟨#[110]⟩
  | 2 => ⟨#[112, 98]⟩
  | 3 => ⟨#[112, 111, 110]⟩
  | 4 => ⟨#[112, 111]⟩
  | 5 => ⟨#[112]⟩
  | 6 => ⟨#[103, 109, 110, 114, 108]⟩
  | 7 => ⟨#[103, 109, 101]⟩
  | 8 => ⟨#[103, 109, 101]⟩
  | 9 => ⟨#[103, 109, 101]⟩
  | 10 => ⟨#[103, 109, 101, 112, 111]⟩
  | 11 => ⟨#[103, 112]⟩
  | _ => ⟨#[110]⟩
end Go.Proofs.Ytflcggpeflagiaa.L4
/-
  Contracts: whether two batches are the same.
-/
namespace Go.Proofs.Ytflcggpeflagiaa.L3
open Go.RowKit

theorem R.same_parts {a b : R} : a = b ↔ a.hk = b.hk ∧ a.key = b.key ∧ a.tb = b.tb ∧ a.val = b.val := by
  cases a; cases b; simp

theorem drewN_below {B : Nat} {w w1 : World} (h : Below B w w1) (n : Nat) : Below B w (w1.drewN n) := ⟨h.os, h.tape, h.output, h.size, h.block⟩

end Go.Proofs.Ytflcggpeflagiaa.L3
