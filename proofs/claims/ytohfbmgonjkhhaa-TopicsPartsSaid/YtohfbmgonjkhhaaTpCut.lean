/-
  Contract: a text cut to forty bytes; what the topics and texts of a law's arguments are when cut.
-/
import Derived.Test.YtohfbmgonjkhhaaTpOpen
namespace Go.Proofs.Ytohfbmgonjkhhaa.L9
open Go.RowKit
open Go.Maps
open L3 L4

/-- a text of at most forty bytes -/
def cutB (s : ByteArray) : ByteArray := s.extract 0 (min (s.size : Int) 40).toNat
theorem cutB_size (s : ByteArray) : (cutB s).size ≤ 40 := by unfold cutB; rw [ByteArray.size_extract]; omega
set_option maxRecDepth 100000 in
set_option maxHeartbeats 1000000 in
theorem cut_is (w : World) (s c : ByteArray) (hs : s.size ≤ maxLen) (HC : Hid (cutB s = c)) : Calls Try.prog 9 #[.string s] w fun e w' => e = .returned (.string c) ∧ w' = w := by
  unfold maxLen at hs
  have h0 : (0 : Int) ≤ min (s.size : Int) 40 := by omega
  have h1 : min (s.size : Int) 40 ≤ (s.size : Int) := by omega
  have h2 : (min (s.size : Int) 40).toNat ≤ s.size := by omega
  have HC' : Hid (s.extract 0 (min (s.size : Int) 40).toNat = c) := HC
  go_enter Try.func9, Try.ntmps9
  go_wp2_with fail
  go_ret
  exact ⟨by rw [HC'.out]; rfl, rfl⟩
end Go.Proofs.Ytohfbmgonjkhhaa.L9
