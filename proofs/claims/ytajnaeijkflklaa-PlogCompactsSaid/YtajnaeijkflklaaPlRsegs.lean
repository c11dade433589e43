/-
  Contracts: segments held against each other.
-/
import Derived.Test.YtajnaeijkflklaaPlLaws
namespace Go.Proofs.Ytajnaeijkflklaa.L6
open Go.RowKit
open L3 L4 L5

/-- segments that read so, from some place on -/
def ReadsT (w : World) (B : Nat) (X : Option Addr) (l : List Sa) : Prop :=
  (0 < l.length → ∃ g o, X = some ⟨g, o, none⟩ ∧ g < B ∧ ∀ i r, l[i]? = some r → w.cell? ⟨g, o + i * 3, none⟩ = some (.int .i64 r.b) ∧ w.cell? ⟨g, o + i * 3 + 1, none⟩ = some (.int .i64 r.n) ∧ w.cell? ⟨g, o + i * 3 + 2, none⟩ = some (.slice r.A r.L.length r.c)) ∧ ∀ r ∈ l, ReadsF w B r.A r.L
theorem ReadsS.t {w : World} {B : Nat} {X : Option Addr} {l : List Sa} (h : ReadsS w B X l) : ReadsT w B X l := by
  refine ⟨fun h0 => ?_, h.2⟩
  obtain ⟨g, e, hg, hc⟩ := h.1 h0
  exact ⟨g, 0, e, hg, fun i r hr => by rw [Nat.zero_add]; exact hc i r hr⟩
theorem ReadsS.drop {w : World} {B g : Nat} {l : List Sa} (h : ReadsS w B (some ⟨g, 0, none⟩) l) (d : Nat) : ReadsT w B (some ⟨g, d * 3, none⟩) (l.drop d) := by
  refine ⟨fun h0 => ?_, fun r hr => h.2 r (List.mem_of_mem_drop hr)⟩
  rw [List.length_drop] at h0
  obtain ⟨g', e, hg, hc⟩ := h.1 (by omega)
  have e' : g = g' := by injection e with e; injection e
  subst e'
  refine ⟨g, d * 3, rfl, hg, fun i r hr => ?_⟩
  rw [List.getElem?_drop] at hr
  have := hc (d + i) r hr
  rwa [show (d + i) * 3 = d * 3 + i * 3 by omega] at this
theorem ReadsT.below {w w' : World} {B : Nat} {X : Option Addr} {l : List Sa} (h : ReadsT w B X l) (hb : Below B w w') : ReadsT w' B X l := by
  refine ⟨fun h0 => ?_, fun r hr => readsF_below (h.2 r hr) hb⟩
  obtain ⟨g, o, e, hg, hc⟩ := h.1 h0
  refine ⟨g, o, e, hg, fun i r hr => ?_⟩
  obtain ⟨c0, c1, c2⟩ := hc i r hr
  exact ⟨(hb.cell (p := ⟨g, o + i * 3, none⟩) hg).trans c0, (hb.cell (p := ⟨g, o + i * 3 + 1, none⟩) hg).trans c1, (hb.cell (p := ⟨g, o + i * 3 + 2, none⟩) hg).trans c2⟩
theorem readsF_only {S : List Nat} {w w' : World} {B : Nat} {A : Option Addr} {l : List L4.Fd} (h : ReadsF w B A l) (o : Only S w w') (hA : ∀ k, blk A = some k → k ∉ S) : ReadsF w' B A l := fun h0 => by
  obtain ⟨g, e, hg, hc⟩ := h h0
  have hk := hA g (by rw [e]; rfl)
  refine ⟨g, e, hg, fun i r hr => ?_⟩
  obtain ⟨c0, c1, c2, c3, c4⟩ := hc i r hr
  exact ⟨o.cell c0 hk, o.cell c1 hk, o.cell c2 hk, o.cell c3 hk, o.cell c4 hk⟩
theorem readsS_only {S : List Nat} {w w' : World} {B : Nat} {X : Option Addr} {l : List Sa} (h : ReadsS w B X l) (o : Only S w w') (hX : ∀ k, blk X = some k → k ∉ S) (hA : ∀ r ∈ l, ∀ k, blk r.A = some k → k ∉ S) : ReadsS w' B X l := by
  refine ⟨fun h0 => ?_, fun r hr => readsF_only (h.2 r hr) o (hA r hr)⟩
  obtain ⟨g, e, hg, hc⟩ := h.1 h0
  have hk := hX g (by rw [e]; rfl)
  refine ⟨g, e, hg, fun i r hr => ?_⟩
  obtain ⟨c0, c1, c2⟩ := hc i r hr
  exact ⟨o.cell c0 hk, o.cell c1 hk, o.cell c2 hk⟩
theorem ReadsS.mono {w : World} {B B' : Nat} {X : Option Addr} {l : List Sa} (h : ReadsS w B X l) (hB : B ≤ B') : ReadsS w B' X l := by
  refine ⟨fun h0 => ?_, fun r hr => fun h0 => ?_⟩
  · obtain ⟨g, e, hg, hc⟩ := h.1 h0
    exact ⟨g, e, by omega, hc⟩
  · obtain ⟨g, e, hg, hc⟩ := h.2 r hr h0
    exact ⟨g, e, by omega, hc⟩
theorem keep_six {w w1 w2 : World} {p1 p2 p3 p4 p5 p6 : Addr} {v1 v2 v3 v4 v5 v6 : Value} (h : (w1.cell? p1 = some v1 ∧ w1.cell? p2 = some v2 ∧ w1.cell? p3 = some v3 ∧ w1.cell? p4 = some v4 ∧ w1.cell? p5 = some v5 ∧ w1.cell? p6 = some v6) ∧ Below w.heap.size w w1) (hb : Below w1.heap.size w1 w2) : (w2.cell? p1 = some v1 ∧ w2.cell? p2 = some v2 ∧ w2.cell? p3 = some v3 ∧ w2.cell? p4 = some v4 ∧ w2.cell? p5 = some v5 ∧ w2.cell? p6 = some v6) ∧ Below w.heap.size w w2 :=
  ⟨⟨keep_cell h.1.1 hb, keep_cell h.1.2.1 hb, keep_cell h.1.2.2.1 hb, keep_cell h.1.2.2.2.1 hb, keep_cell h.1.2.2.2.2.1 hb, keep_cell h.1.2.2.2.2.2 hb⟩, acc h.2 hb⟩
end Go.Proofs.Ytajnaeijkflklaa.L6
