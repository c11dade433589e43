/-
  A command with one thing more than its kind has.
-/
import Derived.Test.YtlhkhccpeohefaaReqPut
namespace Go.Proofs.Ytlhkhccpeohefaa.L4
open Go.RowKit
open L3

theorem chk_form {o : O} (hk : o.kind ≤ 12) (h : ¬ o.all (hasK o.kind)) : o.chk = 40 := by
  have := chk_kind o hk false ⟨(fun h => by cases h), fun q => absurd q h⟩
  rw [← this]
  simp
theorem gen_range {o : O} (hk : o.kind ≤ 12) (hc : o.chk = 0) : 0 ≤ o.gen ∧ o.gen ≤ 1099511627776 := by
  obtain ⟨ha, g⟩ := chk_ok hk hc
  by_cases q : 11 ∈ hasK o.kind
  · exact g.n11 q
  · have := ha.2.2.2.2.2.2.2.2.2.2.1
    rw [pickI, if_neg q] at this
    omega
theorem gen_more {o : O} (hk : o.kind ≤ 12) (hc : o.chk = 0) (hn : 11 ∉ hasK o.kind) : ({ o with gen := o.gen + 1 } : O).chk = 40 := by
  refine chk_form (o := { o with gen := o.gen + 1 }) hk fun ha' => ?_
  have h1 := (chk_ok hk hc).1.2.2.2.2.2.2.2.2.2.2.1
  rw [pickI, if_neg hn] at h1
  have h2 : o.gen + 1 = pickI (hasK o.kind) 11 (o.gen + 1) := ha'.2.2.2.2.2.2.2.2.2.2.1
  rw [pickI, if_neg hn] at h2
  omega
theorem has11 : ∀ k ≤ 12, 11 ∈ hasK k ↔ 7 ≤ k ∧ k ≤ 10 := by
  intro k hk
  have : k = 0 ∨ k = 1 ∨ k = 2 ∨ k = 3 ∨ k = 4 ∨ k = 5 ∨ k = 6 ∨ k = 7 ∨ k = 8 ∨ k = 9 ∨ k = 10 ∨ k = 11 ∨ k = 12 := by omega
  rcases this with rfl | rfl | rfl | rfl | rfl | rfl | rfl | rfl | rfl | rfl | rfl | rfl | rfl <;> decide
theorem has12 : ∀ k ≤ 12, 12 ∈ hasK k ↔ k = 6 := by
  intro k hk
  have : k = 0 ∨ k = 1 ∨ k = 2 ∨ k = 3 ∨ k = 4 ∨ k = 5 ∨ k = 6 ∨ k = 7 ∨ k = 8 ∨ k = 9 ∨ k = 10 ∨ k = 11 ∨ k = 12 := by omega
  rcases this with rfl | rfl | rfl | rfl | rfl | rfl | rfl | rfl | rfl | rfl | rfl | rfl | rfl <;> decide
theorem robin_6 {o : O} (hk : o.kind = 6) (hc : o.chk = 0) : ({ o with robin := true } : O).chk = 0 := by
  have hk' : o.kind ≤ 12 := by omega
  have ha := (chk_ok hk' hc).1
  have e1 := chk_kind o hk' true ⟨fun _ => ha, fun _ => rfl⟩
  obtain ⟨a1, a2, a3, a4, a5, a6, a7, a8, a9, a10, a11, a12, a13⟩ := ha
  have ha' : ({ o with robin := true } : O).all (hasK o.kind) := ⟨a1, a2, a3, a4, a5, a6, a7, a8, a9, a10, a11, by rw [pickB, if_pos ((has12 _ hk').2 hk)], a13⟩
  have e2 := chk_kind { o with robin := true } hk' true ⟨fun _ => ha', fun _ => rfl⟩
  rw [← e2, ← hc, ← e1]
  rfl
theorem robin_no {o : O} (hk : o.kind ≤ 12) (hn : o.kind ≠ 6) : ({ o with robin := true } : O).chk = 40 := by
  refine chk_form (o := { o with robin := true }) hk fun ha' => ?_
  have h2 : true = pickB (hasK o.kind) 12 true := ha'.2.2.2.2.2.2.2.2.2.2.2.1
  rw [pickB, if_neg (fun q => hn ((has12 _ hk).1 q))] at h2
  cases h2
end Go.Proofs.Ytlhkhccpeohefaa.L4
