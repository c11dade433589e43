/-
  Contracts: a record cut short; what is a slice of records.
-/
import Derived.Test.YtinhinghakkfoaaRecAll
import Derived.Laws.Rows
import Derived.Laws.AppendOwn
namespace Go.Proofs.Ytinhinghakkfoaa.L3
open Go.RowKit

def cutS (s : ByteArray) (m : Int) : ByteArray := s.extract 0 (min (s.size : Int) m).toNat
def R.cut (r : R) : R := ⟨r.hk, cutS r.key 80, r.tb, cutS r.val 600⟩
theorem cutS_size (s : ByteArray) (m : Nat) : (cutS s m).size ≤ m := by
  unfold cutS; rw [ByteArray.size_extract]; omega

set_option maxHeartbeats 1000000 in
theorem cut_any (hk : Bool) (k : ByteArray) (tb : Bool) (v : ByteArray) (k' v' : ByteArray) (w : World) (h1 : k.size ≤ maxLen) (h2 : v.size ≤ maxLen) (HK : cutS k 80 = k') (HV : cutS v 600 = v') :
    Calls Try.prog 9 #[.agg #[.bool hk, .string k, .bool tb, .string v]] w fun e w' => e = .returned (.agg #[.bool hk, .string k', .bool tb, .string v']) ∧ Below w.heap.size w w' := by
  unfold maxLen at h1 h2
  unfold cutS at HK HV
  go_enter Try.func9, Try.ntmps9
  go_wp2_with fail
  refine bodyPost_ret (v := .agg #[.bool hk, .string k', .bool tb, .string v']) (by simp [results, Try.results9, go_sem]) rfl ⟨rfl, ?_⟩
  exact two_box _ _

theorem cut_is (hk : Bool) (k : ByteArray) (tb : Bool) (v : ByteArray) (w : World) (h1 : k.size ≤ maxLen) (h2 : v.size ≤ maxLen) :
    Calls Try.prog 9 #[.agg #[.bool hk, .string k, .bool tb, .string v]] w fun e w' => e = .returned (.agg #[.bool hk, .string (cutS k 80), .bool tb, .string (cutS v 600)]) ∧ Below w.heap.size w w' :=
  cut_any hk k tb v _ _ w h1 h2 rfl rfl

/-! ### Slices of records -/
/-- a slice that reads as these records, in a block below B, from a place on -/
def ReadsO (w : World) (B : Nat) (A : Option Addr) (l : List R) : Prop :=
  0 < l.length → ∃ g o, A = some ⟨g, o, none⟩ ∧ g < B ∧ ∀ i r, l[i]? = some r →
    w.cell? ⟨g, o + i * 4, none⟩ = some (.bool r.hk) ∧ w.cell? ⟨g, o + i * 4 + 1, none⟩ = some (.string r.key) ∧ w.cell? ⟨g, o + i * 4 + 2, none⟩ = some (.bool r.tb) ∧ w.cell? ⟨g, o + i * 4 + 3, none⟩ = some (.string r.val)

theorem Reads.o {w : World} {B : Nat} {A : Option Addr} {l : List R} (h : Reads w B A l) : ReadsO w B A l := fun h0 => by
  obtain ⟨g, e, hg, hc⟩ := h h0
  exact ⟨g, 0, e, hg, fun i r hr => by simpa using hc i r hr⟩
theorem Reads.below {w w' : World} {B : Nat} {A : Option Addr} {l : List R} (h : Reads w B A l) (hb : Below B w w') : Reads w' B A l := fun h0 => by
  obtain ⟨g, e, hg, hc⟩ := h h0
  refine ⟨g, e, hg, fun i r hr => ?_⟩
  obtain ⟨c0, c1, c2, c3⟩ := hc i r hr
  exact ⟨(hb.cell (p := ⟨g, i * 4, none⟩) hg).trans c0, (hb.cell (p := ⟨g, i * 4 + 1, none⟩) hg).trans c1, (hb.cell (p := ⟨g, i * 4 + 2, none⟩) hg).trans c2, (hb.cell (p := ⟨g, i * 4 + 3, none⟩) hg).trans c3⟩
theorem Reads.mono {w : World} {B B' : Nat} {A : Option Addr} {l : List R} (h : Reads w B A l) (hB : B ≤ B') : Reads w B' A l := fun h0 => by
  obtain ⟨g, e, hg, hc⟩ := h h0
  exact ⟨g, e, by omega, hc⟩
theorem ReadsO.below {w w' : World} {B : Nat} {A : Option Addr} {l : List R} (h : ReadsO w B A l) (hb : Below B w w') : ReadsO w' B A l := fun h0 => by
  obtain ⟨g, o, e, hg, hc⟩ := h h0
  refine ⟨g, o, e, hg, fun i r hr => ?_⟩
  obtain ⟨c0, c1, c2, c3⟩ := hc i r hr
  exact ⟨(hb.cell (p := ⟨g, o + i * 4, none⟩) hg).trans c0, (hb.cell (p := ⟨g, o + i * 4 + 1, none⟩) hg).trans c1, (hb.cell (p := ⟨g, o + i * 4 + 2, none⟩) hg).trans c2, (hb.cell (p := ⟨g, o + i * 4 + 3, none⟩) hg).trans c3⟩

/-- the cells of records, one behind the other -/
def rowOf : List R → List Value
  | [] => []
  | r :: t => .bool r.hk :: .string r.key :: .bool r.tb :: .string r.val :: rowOf t
theorem rowOf_len : ∀ l, (rowOf l).length = l.length * 4
  | [] => rfl
  | r :: t => by show (rowOf t).length + 1 + 1 + 1 + 1 = (t.length + 1) * 4; rw [rowOf_len t]; omega
theorem rowOf_app : ∀ a b, rowOf (a ++ b) = rowOf a ++ rowOf b
  | [], b => rfl
  | r :: t, b => by show _ :: _ :: _ :: _ :: rowOf (t ++ b) = _; rw [rowOf_app t b]; rfl
theorem rowOf_at : ∀ (l : List R) (i : Nat) (r : R), l[i]? = some r → (rowOf l)[i * 4]? = some (.bool r.hk) ∧ (rowOf l)[i * 4 + 1]? = some (.string r.key) ∧ (rowOf l)[i * 4 + 2]? = some (.bool r.tb) ∧ (rowOf l)[i * 4 + 3]? = some (.string r.val)
  | [], i, r, h => by simp at h
  | q :: t, 0, r, h => by
    have e : q = r := by simpa using h
    subst e
    exact ⟨rfl, rfl, rfl, rfl⟩
  | q :: t, i + 1, r, h => by
    have h' : t[i]? = some r := by simpa using h
    obtain ⟨a, b, c, d⟩ := rowOf_at t i r h'
    have e : (i + 1) * 4 = i * 4 + 1 + 1 + 1 + 1 := by omega
    rw [e]
    exact ⟨a, b, c, d⟩
theorem rowOf_one : ∀ (l : List R), ∀ u ∈ rowOf l, u.oneCell' = true
  | [], u, h => by simp [rowOf] at h
  | r :: t, u, h => by
    simp only [rowOf, List.mem_cons] at h
    rcases h with rfl | rfl | rfl | rfl | h
    · rfl
    · rfl
    · rfl
    · rfl
    · exact rowOf_one t u h

/-- a row of the call's own reads as its records -/
theorem Reads.own {w : World} {base : Nat} {T : TypeId} {A : Option Addr} {cap : Nat} {l : List R} (h : w.ownsRow base T 4 (.slice A l.length cap) l.length (rowOf l)) : Reads w w.heap.size A l := fun h0 => by
  rcases h.2 with ⟨_, e⟩ | ⟨g, cap', cur, e, hb, hh, _⟩
  · omega
  · injection e with e1 e2 e3
    refine ⟨g, e1, ?_, fun i r hr => ?_⟩
    · rcases Nat.lt_or_ge g w.heap.size with hlt | hge
      · exact hlt
      · rw [Array.getElem?_eq_none hge] at hh; cases hh
    · obtain ⟨a, b, c, d⟩ := rowOf_at l i r hr
      have hc := h.cells (g := g) (by rw [e1]; rfl)
      have ad : ∀ j, (⟨g, 0, none⟩ : Addr).add j = ⟨g, j, none⟩ := fun j => by unfold Addr.add; split <;> simp_all
      refine ⟨?_, ?_, ?_, ?_⟩
      · have := hc _ _ a; rwa [ad] at this
      · have := hc _ _ b; rwa [ad] at this
      · have := hc _ _ c; rwa [ad] at this
      · have := hc _ _ d; rwa [ad] at this

/-- a row of the call's own stays as long as what stood then is as it was -/
theorem own_below {w w' : World} {base : Nat} {T : TypeId} {v : Value} {n m : Nat} {xs : List Value} (h : w.ownsRow base T m v n xs) (hb : Below w.heap.size w w') : w'.ownsRow base T m v n xs := by
  refine ⟨h.1, ?_⟩
  rcases h.2 with e | ⟨g, cap, cur, e, h1, hh, h2⟩
  · exact .inl e
  · have hlt : g < w.heap.size := by
      rcases Nat.lt_or_ge g w.heap.size with hlt | hge
      · exact hlt
      · rw [Array.getElem?_eq_none hge] at hh; cases hh
    exact .inr ⟨g, cap, cur, e, h1, (hb.block g hlt).trans hh, h2⟩
end Go.Proofs.Ytinhinghakkfoaa.L3
