/-
  Two partitions compared.
-/
import Derived.Test.YtcmlopflandlgaaDdLaw
namespace Go.Proofs.Ytcmlopflandlgaa.L8
open Go.RowKit
open Go.Maps
theorem partRow : (31 : TypeId) < Try.prog.types.size := of_decide_eq_true (by kernel_rfl)
theorem partWide : (match Try.prog.underlying 31 with | some (.array _ _) | some (.struct _) => true | _ => false) = true := by kernel_rfl
theorem partKey : Try.prog.keyType 31 = true := by kernel_rfl
set_option maxRecDepth 100000 in
theorem lawPart : Keyed Try.prog 31 := Keyed.of_law (deep_law_laid spotLaid (m := 4) (by omega) partRow (by kernel_rfl) partWide)
set_option maxRecDepth 100000 in
theorem keyOf_part {p : Int} {t : ByteArray} (ht : t.size ≤ maxLen) (hp : (Lit.int .i64 p).wf = true) :
    keyOf Try.prog 31 (.agg #[.string t, .int .i64 p]) = some (.string (keyBytes [.string t.data.toList, .int .i64 p])) := by
  obtain ⟨m, hm⟩ : ∃ m, Try.prog.types.size + 1 = m + 3 := ⟨Try.prog.types.size - 2, by have := spotSize; omega⟩
  unfold keyOf
  rw [Try.underlying31, hm]
  have hf : (Value.agg #[.string t, .int .i64 p]).formed Try.prog 31 = true := by
    simp [Value.formed, Try.underlying31, partCells]
  simp only [partKey, hf, Bool.and_self, if_true]
  simp [Program.keyLits, Try.underlying31, Try.underlying3, Try.underlying9, partCells, intCells, strCells, Value.cells, ht, hp]
set_option maxRecDepth 100000 in
theorem eq_parts (w : World) (t u : ByteArray) (p q : Int) (ht : t.size ≤ maxLen) (hp : (Lit.int .i64 p).wf = true) (hu : u.size ≤ maxLen) (hq : (Lit.int .i64 q).wf = true) :
    (Op.equal 31 (.agg #[.string t, .int .i64 p]) (.agg #[.string u, .int .i64 q])).run Try.prog w = .ok (decide (t = u ∧ p = q)) w := by
  have h1 := keyOf_part ht hp
  have h2 := keyOf_part hu hq
  obtain ⟨r, hr, hi⟩ := run_equal_deep w (m := 4) (by omega) (k := 31) (by kernel_rfl) partWide h1 h2
  rw [hr]
  congr 1
  by_cases he : t = u ∧ p = q
  · rw [decide_eq_true he]
    obtain ⟨rfl, rfl⟩ := he
    exact hi.2 rfl
  · rw [decide_eq_false he]
    cases r
    · rfl
    · have e := lawPart.inj h1 (hi.1 rfl ▸ h2)
      simp at e
      exact absurd e he
end Go.Proofs.Ytcmlopflandlgaa.L8
