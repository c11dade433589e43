/-
  The contracts of texts: put, and got.
-/
import Derived.Test.YthongbobopampaaMSev
import Derived.Laws.DeepStrings4
import Derived.Deep.RegionWith
import Derived.Test.YthongbobopampaaMSmall
namespace Go.Proofs.Ythongbobopampaa
open Go.RowKit

theorem clone_any (s : ByteArray) (w : World) (hlim : s.size ≤ 281474976710656) :
    Calls Try.prog 29 #[.string s] w fun e w' => e = .returned (.string s) ∧ Below w.heap.size w w' := by
  go_enter Try.func29, Try.ntmps29
  go_wp2_with (go_at_call 36; refine (Try.stringslite_Clone _ _ hlim).mono ?_; rintro e w' ⟨rfl, hb⟩)
  go_ret
  exact ⟨rfl, hb⟩

theorem rett {a b : ByteArray} {x y x' y' : Int} (h1 : a = b) (h2 : x = x') (h3 : y = y') :
    Ending.returned (.tuple #[.string a, .int .i64 x, .int .i64 y]) = .returned (.tuple #[.string b, .int .i64 x', .int .i64 y']) := by rw [h1, h2, h3]

/-- what has been kept so far is kept -/
theorem acc {W w w' : World} (h : Below W.heap.size W w) (k : Below w.heap.size w w') : Below W.heap.size W w' := h.trans (k.mono h.size)

end Go.Proofs.Ythongbobopampaa
/-
  The contract of the document's own texts.
-/
namespace Go.Proofs.Ythongbobopampaa
open Go.RowKit

end Go.Proofs.Ythongbobopampaa
/-
  The contract of the document's own number: its bytes.
-/
namespace Go.Proofs.Ythongbobopampaa
open Go.RowKit

theorem conv_one (W : World) (B : Nat) (x : Int) (h : W.cell? ⟨B, 0, none⟩ = some (.int .u8 x)) :
    (convert 77 9 (.slice (some ⟨B, 0, none⟩) 1 1)).run Try.prog W = .ok (.string (strOfNums [x])) W :=
  run_convert_bytes_arg (P := Try.prog) W 77 5 Try.underlying77 Try.underlying5 B 0 1 1 [x] rfl (fun i hi => by obtain rfl : i = 0 := (by omega); simpa using h) 9 Try.underlying9

theorem put_small (n : Int) (h : n < 128) : strOfNums [n] = V.put n.toNat := by
  unfold V.put V.bytesOf
  rw [V.puts_small (by omega)]
  rfl
theorem put_big (n : Int) (h : 128 ≤ n) : strOfNums [n % 128 + 128] ++ V.put (n / 128).toNat = V.put n.toNat := by
  have e1 : (n / 128).toNat = n.toNat / 128 := by omega
  have e2 : (n % 128 + 128).toNat = n.toNat % 128 + 128 := by omega
  unfold V.put V.bytesOf
  rw [V.puts_big (by omega : ¬ n.toNat < 128), e1]
  apply ByteArray.ext
  simp [ByteArray.data_append, strOfNums, e2]

theorem ret_str {a b : ByteArray} (h : a = b) : Ending.returned (.string a) = .returned (.string b) := by rw [h]

end Go.Proofs.Ythongbobopampaa
/-
  Contracts: a record's bytes.
-/
namespace Go.Proofs.Ythongbobopampaa.L3
open Go.RowKit

theorem box_cells {W w1 : World} (hb : Below W.heap.size W w1) : (∀ b o, b < W.heap.size → w1.cell? ⟨b, o, none⟩ = W.cell? ⟨b, o, none⟩) ∧ (∀ b o, b < W.heap.size → w1.frozen? ⟨b, o, none⟩ = W.frozen? ⟨b, o, none⟩) :=
  ⟨fun b o h => hb.cell (p := ⟨b, o, none⟩) h, fun b o h => hb.frozen (p := ⟨b, o, none⟩) h⟩

end Go.Proofs.Ythongbobopampaa.L3
