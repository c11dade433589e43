/-
  Proved: for any bytes (the first 200 of them) and any two bytes, one of the two behind the bytes makes the sum that the other makes just if they are one, and that sum is told by that of the bytes ahead; and the fixed calls answer as they must. No condition.
-/
import Derived.Test.YtinnellkjoeikaaRows
import Derived.WalkKit
import Derived.ProofKit
import Derived.OpenShut
import Derived.ShutString
import Derived.ChangeOld
import Derived.Below
import Derived.Deep.DeepCutAuto
import Derived.Deep.RegionWith
import Derived.Test.YtinnellkjoeikaaCrcFixed
namespace Go.Proofs.Ytinnellkjoeikaa.crcZeros
open Go.ChangeShapes Go.WideShapes Go.ChangeAt Go.RowKit
open Go.ChangeMaps (open_string shut_string)

theorem own : ownKnob Try.prog.godebug = none := by kernel_rfl

theorem old_cells {W w1 : World} (hb : Below W.heap.size W w1) : ∀ b o, b < W.heap.size → w1.cell? ⟨b, o, none⟩ = W.cell? ⟨b, o, none⟩ := fun b o h => hb.cell (p := ⟨b, o, none⟩) h

theorem acc_alloc {W w : World} (h : Below W.heap.size W w) (o : Obj) : Below W.heap.size W (w.alloc o) := h.alloc h.size o

theorem nats_one (a : Int) (h0 : 0 ≤ a) (h1 : a ≤ 255) : V.nats (strOfNums [a]) = [a.toNat] := by
  show [(UInt8.ofNat a.toNat).toNat] = [a.toNat]
  rw [UInt8.toNat_ofNat', Nat.mod_eq_of_lt (by omega)]

set_option maxRecDepth 100000 in
set_option maxHeartbeats 4000000 in
theorem walk (a0 : ByteArray) (a1 : Int) (a2 : Int) (w0 : a0.size ≤ maxLen) (w1 : (Lit.int .u8 a1).wf = true) (w2 : (Lit.int .u8 a2).wf = true) (w : World) :
    Calls Try.prog 8 #[.string a0, .int .u8 a1, .int .u8 a2] w fun e w' => e = .returned (.bool true) ∧ Below w.heap.size w w' := by
  have hx : 0 ≤ a1 ∧ a1 ≤ 255 := by simpa [Lit.wf, IntKind.min, IntKind.max, IntKind.signed, IntKind.bits] using w1
  have hy : 0 ≤ a2 ∧ a2 ≤ 255 := by simpa [Lit.wf, IntKind.min, IntKind.max, IntKind.signed, IntKind.bits] using w2
  clear w1 w2
  unfold maxLen at w0
  have hB := Below.refl w.heap.size w
  obtain ⟨s, hs⟩ : ∃ s, a0.extract 0 (min (a0.size : Int) 200).toNat = s := ⟨_, rfl⟩
  have s1 : s.size ≤ 200 := by rw [← hs, ByteArray.size_extract]; omega
  have n1 := nats_one a1 hx.1 hx.2
  have n2 := nats_one a2 hy.1 hy.2
  obtain ⟨X, hX⟩ : ∃ c : Int, ((sumOf (s ++ strOfNums [a1]) : Nat) : Int) = c := ⟨_, rfl⟩
  obtain ⟨Y, hY⟩ : ∃ c : Int, ((sumOf (s ++ strOfNums [a2]) : Nat) : Int) = c := ⟨_, rfl⟩
  obtain ⟨Z, hZ⟩ : ∃ c : Int, ((sumOf s : Nat) : Int) = c := ⟨_, rfl⟩
  have lz := sumOf_lt s
  have Z0 : Hid (0 ≤ Z) := by show (0 : Int) ≤ Z; omega
  have Z1 : Hid (Z ≤ 4294967295) := by show Z ≤ (4294967295 : Int); omega
  have hsum : ∀ a : Int, V.nats (strOfNums [a]) = [a.toNat] → sumOf (s ++ strOfNums [a]) = C.sum (V.nats s ++ [a.toNat]) := by
    intro a h
    unfold sumOf
    rw [V.nats_append, h]
  have HM : Hid (((C.more Z.toNat (V.nats (strOfNums [a1])) : Nat) : Int) = X) := by
    show _ = _
    have hzn : Z.toNat = C.sum (V.nats s) := by
      have e : sumOf s = C.sum (V.nats s) := rfl
      omega
    rw [n1, ← hX, hsum a1 n1, hzn, C.more_sum _ _ (V.nats_byte s)]
  have hways : (X = Y ∧ a1 = a2) ∨ (X ≠ Y ∧ a1 ≠ a2) := by
    by_cases h : a1 = a2
    · left; subst h; exact ⟨by rw [← hX, ← hY], rfl⟩
    · right
      refine ⟨?_, h⟩
      rw [← hX, ← hY, hsum a1 n1, hsum a2 n2]
      have := C.sum_other (l := V.nats s) (r := []) (V.nats_byte s) (by simp) (show a1.toNat < 256 by omega) (show a2.toNat < 256 by omega) (by omega)
      omega
  have HX := Lib.hid hX
  have HY := Lib.hid hY
  have HZ := Lib.hid hZ
  have z1 : (strOfNums [a1]).size = 1 := strOfNums_size _
  have z2 : (strOfNums [a2]).size = 1 := strOfNums_size _
  have hno : (9223372036854775807 < s.size + 1) = False := by simp; omega
  have SZ1 : Hid ((s ++ strOfNums [a1]).size ≤ 140737488355328) := by show _ ≤ _; rw [ByteArray.size_append, z1]; omega
  have SZ2 : Hid ((s ++ strOfNums [a2]).size ≤ 140737488355328) := by show _ ≤ _; rw [ByteArray.size_append, z2]; omega
  have SZ3 : Hid (s.size ≤ 140737488355328) := by show _ ≤ _; omega
  have SZ4 : Hid ((strOfNums [a1]).size ≤ 140737488355328) := by show _ ≤ _; rw [z1]; decide
  have kc := conv_one
  clear hX hY hZ lz n1 n2 hsum hx hy
  go_enter Try.func8, Try.ntmps8
  go_wp2_with fail
  clear hs w0
  go_cut [7, 8] (fun x y wc => x = .int .u32 X ∧ y = .int .u32 Y ∧ Below w.heap.size w wc)
  case first =>
    clear hways
    go_region_with (first
        | (go_at_call 10; (first | (with_reducible refine (crcsum_is _ _ _ SZ1.out HX).mono ?_) | (with_reducible refine (crcsum_is _ _ _ SZ2.out HY).mono ?_)); rintro e wn ⟨rfl, hbn⟩; (first | (have hl : w.heap.size + 1 < wn.heap.size := (by have := hbn.size; simp at this; omega); clear hl; have q0 := hbn.cell (p := ⟨w.heap.size, 0, none⟩) (by simp <;> omega); have q1 := hbn.cell (p := ⟨w.heap.size + 1, 0, none⟩) (by simp <;> omega); simp at q0 q1) | skip); first | (replace hB := acc hB hbn) | (replace hB := acc hB.drew hbn) | (replace hB := acc (acc_alloc hB _) hbn) | (replace hB := acc (acc_alloc hB _).drew hbn) | (replace hB := acc (acc_alloc (acc_alloc hB _) _) hbn) | (replace hB := acc (acc_alloc (acc_alloc hB _) _).drew hbn); clear hbn))
    all_goals (go_wp2_with fail; go_meet; exact ⟨rfl, rfl, hB⟩)
  case rest =>
    obtain ⟨rfl, rfl, hB2⟩ := hcut
    clear hB
    have he : ((X == Y) == (a1 == a2)) = true := by
      rcases hways with ⟨h1, h2⟩ | ⟨h1, h2⟩
      · rw [show (X == Y) = true from by simpa using h1, show (a1 == a2) = true from by simpa using h2]; rfl
      · rw [show (X == Y) = false from by simpa using h1, show (a1 == a2) = false from by simpa using h2]; rfl
    clear hways
    go_wp2_with fail
    clear s1 HX HY SZ1 SZ2 hno z2
    refine wp_region_held_drew (S := fun w' => Below w.heap.size w w') (by kernel_rfl) (by exact hB2.drew) (fun hHeld => ?_)
    refine wpAnyH_take (i := 0) (oi := ?o1) (v := ?v1) ?a1 (by kernel_rfl) (by kernel_rfl) (by kernel_rfl) ?q1 (Or.inl ⟨?g1, ?y1⟩) (by assumption) ?r1; (case' a1 => (simp only [List.getElem?_toArray, List.getElem?_cons_zero]; rfl)); (case' q1 => (exact fun _ _ _ h => h)); (case' g1 => rfl); (case' y1 => (intro w hSw; (try dsimp only at hSw); go_simp; try with_reducible rfl)); (case' r1 => (try simp only [Act.put, List.setIfInBounds_toArray, List.set_cons_zero, List.set_cons_succ]))
    refine wpAnyH_take (i := 1) (oi := ?o2) (v := ?v2) ?a2 (by kernel_rfl) (by kernel_rfl) (by kernel_rfl) ?q2 (Or.inl ⟨?g2, ?y2⟩) (by assumption) ?r2; (case' a2 => (simp only [List.getElem?_toArray, List.getElem?_cons_zero, List.getElem?_cons_succ]; rfl)); (case' q2 => (exact fun _ _ _ h => h)); (case' g2 => rfl); (case' y2 => (intro w hSw; (try dsimp only at hSw); go_simp; try with_reducible rfl)); (case' r2 => (try simp only [Act.put, List.setIfInBounds_toArray, List.set_cons_zero, List.set_cons_succ]))
    refine wpAnyH_take (i := 2) (oi := ?o3) (v := ?v3) ?a3 (by kernel_rfl) (by kernel_rfl) (by kernel_rfl) ?q3 (Or.inl ⟨?g3, ?y3⟩) (by assumption) ?r3; (case' a3 => (simp only [List.getElem?_toArray, List.getElem?_cons_zero, List.getElem?_cons_succ]; rfl)); (case' q3 => (exact fun _ _ _ h => h)); (case' g3 => rfl); (case' y3 => (intro w hSw; (try dsimp only at hSw); go_simp; try with_reducible rfl)); (case' r3 => (try simp only [Act.put, List.setIfInBounds_toArray, List.set_cons_zero, List.set_cons_succ]))
    refine wpAnyH_take (i := 3) (oi := ?o4) (v := ?v4) ?a4 (by kernel_rfl) (by kernel_rfl) (by kernel_rfl) ?q4 (Or.inl ⟨?g4, ?y4⟩) (by assumption) ?r4; (case' a4 => (simp only [List.getElem?_toArray, List.getElem?_cons_zero, List.getElem?_cons_succ]; rfl)); (case' q4 => (exact fun _ _ _ h => h)); (case' g4 => rfl); (case' y4 => (intro w hSw; (try dsimp only at hSw); go_simp; try with_reducible rfl)); (case' r4 => (try simp only [Act.put, List.setIfInBounds_toArray, List.set_cons_zero, List.set_cons_succ]))
    refine wpAnyH_take (i := 4) (oi := ?o5) (v := ?v5) ?a5 (by kernel_rfl) (by kernel_rfl) (by kernel_rfl) ?q5 (Or.inl ⟨?g5, ?y5⟩) (by assumption) ?r5; (case' a5 => (simp only [List.getElem?_toArray, List.getElem?_cons_zero, List.getElem?_cons_succ]; rfl)); (case' q5 => (exact fun _ _ _ h => h)); (case' g5 => rfl); (case' y5 => (intro w hSw; (try dsimp only at hSw); go_simp; try with_reducible rfl)); (case' r5 => (try simp only [Act.put, List.setIfInBounds_toArray, List.set_cons_zero, List.set_cons_succ]))
    refine wpAnyH_take (i := 5) (oi := ?o6) (v := ?v6) ?a6 (by kernel_rfl) (by kernel_rfl) (by kernel_rfl) ?q6 (Or.inl ⟨?g6, ?y6⟩) (by assumption) ?r6; (case' a6 => (simp only [List.getElem?_toArray, List.getElem?_cons_zero, List.getElem?_cons_succ]; rfl)); (case' q6 => (exact fun _ _ _ h => h)); (case' g6 => rfl); (case' y6 => (intro w hSw; (try dsimp only at hSw); go_simp; try with_reducible rfl)); (case' r6 => (try simp only [Act.put, List.setIfInBounds_toArray, List.set_cons_zero, List.set_cons_succ]))
    refine wpAnyH_take (i := 6) (oi := ?o7) (v := ?v7) ?a7 (by kernel_rfl) (by kernel_rfl) (by kernel_rfl) ?q7 (Or.inl ⟨?g7, ?y7⟩) (by assumption) ?r7; (case' a7 => (simp only [List.getElem?_toArray, List.getElem?_cons_zero, List.getElem?_cons_succ]; rfl)); (case' q7 => (exact fun _ _ _ h => h)); (case' g7 => rfl); (case' y7 => (intro w hSw; (try dsimp only at hSw); go_simp; try with_reducible rfl)); (case' r7 => (try simp only [Act.put, List.setIfInBounds_toArray, List.set_cons_zero, List.set_cons_succ]))
    refine wpAnyH_take (i := 7) (oi := ?o8) (v := ?v8) ?a8 (by kernel_rfl) (by kernel_rfl) (by kernel_rfl) ?q8 (Or.inl ⟨?g8, ?y8⟩) (by assumption) ?r8; (case' a8 => (simp only [List.getElem?_toArray, List.getElem?_cons_zero, List.getElem?_cons_succ]; rfl)); (case' q8 => (exact fun _ _ _ h => h)); (case' g8 => rfl); (case' y8 => (intro w hSw; (try dsimp only at hSw); go_simp; try with_reducible rfl)); (case' r8 => (try simp only [Act.put, List.setIfInBounds_toArray, List.set_cons_zero, List.set_cons_succ]))
    refine wpAnyH_take (i := 8) (oi := ?o9) (v := ?v9) ?a9 (by kernel_rfl) (by kernel_rfl) (by kernel_rfl) ?q9 (Or.inl ⟨?g9, ?y9⟩) (by assumption) ?r9; (case' a9 => (simp only [List.getElem?_toArray, List.getElem?_cons_zero, List.getElem?_cons_succ]; rfl)); (case' q9 => (exact fun _ _ _ h => h)); (case' g9 => rfl); (case' y9 => (intro w hSw; (try dsimp only at hSw); go_simp; try with_reducible rfl)); (case' r9 => (try simp only [Act.put, List.setIfInBounds_toArray, List.set_cons_zero, List.set_cons_succ]))
    refine wpAnyH_take (i := 9) (oi := ?o10) (v := ?v10) ?a10 (by kernel_rfl) (by kernel_rfl) (by kernel_rfl) ?q10 (Or.inl ⟨?g10, ?y10⟩) (by assumption) ?r10; (case' a10 => (simp only [List.getElem?_toArray, List.getElem?_cons_zero, List.getElem?_cons_succ]; rfl)); (case' q10 => (exact fun _ _ _ h => h)); (case' g10 => rfl); (case' y10 => (intro w hSw; (try dsimp only at hSw); go_simp; try with_reducible rfl)); (case' r10 => (try simp only [Act.put, List.setIfInBounds_toArray, List.set_cons_zero, List.set_cons_succ]))
    refine wpAnyH_take (i := 11) (oi := ?o11) (v := ?v11) ?a11 (by kernel_rfl) (by kernel_rfl) (by kernel_rfl) ?q11 (Or.inl ⟨?g11, ?y11⟩) (by assumption) ?r11; (case' a11 => (simp only [List.getElem?_toArray, List.getElem?_cons_zero, List.getElem?_cons_succ]; rfl)); (case' q11 => (exact fun _ _ _ h => h)); (case' g11 => rfl); (case' y11 => (intro w hSw; (try dsimp only at hSw); go_simp; try with_reducible rfl)); (case' r11 => (try simp only [Act.put, List.setIfInBounds_toArray, List.set_cons_zero, List.set_cons_succ]))
    refine wpAnyH_ready (rs := [10, 12]) (by kernel_rfl) (by simp) ?_
    refine AllReadyH.cons (o := ?o12) ?a12 (fun K hK => ?s12) ?m12; (case' a12 => (simp only [List.getElem?_toArray, List.getElem?_cons_zero, List.getElem?_cons_succ]; rfl))
    case s12 =>
      go_simp
      go_at_call 10
      refine (crcsum_is _ _ _ SZ3.out HZ).mono ?_
      rintro e wn ⟨rfl, hbn⟩
      go_wp2_with fail
      refine hK.out _ _ (acc hHeld hbn) (fun hHeld => ?_)
      clear hK K
      (try simp only [Act.put, List.setIfInBounds_toArray, List.set_cons_zero, List.set_cons_succ])
      refine wpAnyH_ready (rs := [12]) (by kernel_rfl) (by simp) ?_
      refine AllReadyH.cons (o := ?o13) ?a13 (fun K hK => ?s13) ?m13; (case' a13 => (simp only [List.getElem?_toArray, List.getElem?_cons_zero, List.getElem?_cons_succ]; rfl))
      case s13 =>
        go_simp
        refine hK.out _ _ (acc_alloc hHeld _) (fun hHeld => ?_)
        clear hK K
        (try simp only [Act.put, List.setIfInBounds_toArray, List.set_cons_zero, List.set_cons_succ])
        refine wpAnyH_ready (rs := [13]) (by kernel_rfl) (by simp) ?_
        refine AllReadyH.cons (o := ?o14) ?a14 (fun K hK => ?s14) ?m14; (case' a14 => (simp only [List.getElem?_toArray, List.getElem?_cons_zero, List.getElem?_cons_succ]; rfl))
        case s14 =>
          go_simp
          refine hK.out _ _ (hHeld) (fun hHeld => ?_)
          clear hK K
          (try simp only [Act.put, List.setIfInBounds_toArray, List.set_cons_zero, List.set_cons_succ])
          refine wpAnyH_ready (rs := [14]) (by kernel_rfl) (by simp) ?_
          refine AllReadyH.cons (o := ?o15) ?a15 (fun K hK => ?s15) ?m15; (case' a15 => (simp only [List.getElem?_toArray, List.getElem?_cons_zero, List.getElem?_cons_succ]; rfl))
          case s15 =>
            go_simp
            go_at_call 12
            refine (crcmore_is _ _ _ _ Z0.out Z1.out SZ4.out HM).mono ?_
            rintro e wn ⟨rfl, hbn⟩
            go_wp2_with fail
            refine hK.out _ _ (acc hHeld hbn) (fun hHeld => ?_)
            clear hK K
            (try simp only [Act.put, List.setIfInBounds_toArray, List.set_cons_zero, List.set_cons_succ])
            refine wpAnyH_take (i := 15) (oi := ?o16) (v := ?v16) ?a16 (by kernel_rfl) (by kernel_rfl) (by kernel_rfl) ?q16 (Or.inl ⟨?g16, ?y16⟩) (by assumption) ?r16; (case' a16 => (simp only [List.getElem?_toArray, List.getElem?_cons_zero, List.getElem?_cons_succ]; rfl)); (case' q16 => (exact fun _ _ _ h => h)); (case' g16 => rfl); (case' y16 => (intro w hSw; (try dsimp only at hSw); go_simp; try with_reducible rfl)); (case' r16 => (try simp only [Act.put, List.setIfInBounds_toArray, List.set_cons_zero, List.set_cons_succ]))
            refine wpAnyH_take (i := 16) (oi := ?o17) (v := ?v17) ?a17 (by kernel_rfl) (by kernel_rfl) (by kernel_rfl) ?q17 (Or.inl ⟨?g17, ?y17⟩) (by assumption) ?r17; (case' a17 => (simp only [List.getElem?_toArray, List.getElem?_cons_zero, List.getElem?_cons_succ]; rfl)); (case' q17 => (exact fun _ _ _ h => h)); (case' g17 => rfl); (case' y17 => (intro w hSw; (try dsimp only at hSw); go_simp; try with_reducible rfl)); (case' r17 => (try simp only [Act.put, List.setIfInBounds_toArray, List.set_cons_zero, List.set_cons_succ]))
            refine wpAnyH_take (i := 17) (oi := ?o18) (v := ?v18) ?a18 (by kernel_rfl) (by kernel_rfl) (by kernel_rfl) ?q18 (Or.inl ⟨?g18, ?y18⟩) (by assumption) ?r18; (case' a18 => (simp only [List.getElem?_toArray, List.getElem?_cons_zero, List.getElem?_cons_succ]; rfl)); (case' q18 => (exact fun _ _ _ h => h)); (case' g18 => rfl); (case' y18 => (intro w hSw; (try dsimp only at hSw); go_simp; try with_reducible rfl)); (case' r18 => (try simp only [Act.put, List.setIfInBounds_toArray, List.set_cons_zero, List.set_cons_succ]))
            refine wpAnyH_ready (rs := [18]) (by kernel_rfl) (by simp) ?_
            refine AllReadyH.cons (o := ?o19) ?a19 (fun K hK => ?s19) ?m19; (case' a19 => (simp only [List.getElem?_toArray, List.getElem?_cons_zero, List.getElem?_cons_succ]; rfl))
            case s19 =>
              go_simp
              go_at_call 14
              refine (fixed2_any _).mono ?_
              rintro e wn ⟨rfl, hbn⟩
              go_wp2_with fail
              refine hK.out _ _ (acc hHeld hbn) (fun hHeld => ?_)
              clear hK K
              (try simp only [Act.put, List.setIfInBounds_toArray, List.set_cons_zero, List.set_cons_succ])
              refine wpAnyH_take (i := 19) (oi := ?o20) (v := ?v20) ?a20 (by kernel_rfl) (by kernel_rfl) (by kernel_rfl) ?q20 (Or.inl ⟨?g20, ?y20⟩) (by assumption) ?r20; (case' a20 => (simp only [List.getElem?_toArray, List.getElem?_cons_zero, List.getElem?_cons_succ]; rfl)); (case' q20 => (exact fun _ _ _ h => h)); (case' g20 => rfl); (case' y20 => (intro w hSw; (try dsimp only at hSw); go_simp; try with_reducible rfl)); (case' r20 => (try simp only [Act.put, List.setIfInBounds_toArray, List.set_cons_zero, List.set_cons_succ]))
              refine wpAnyH_take (i := 20) (oi := ?o21) (v := ?v21) ?a21 (by kernel_rfl) (by kernel_rfl) (by kernel_rfl) ?q21 (Or.inl ⟨?g21, ?y21⟩) (by assumption) ?r21; (case' a21 => (simp only [List.getElem?_toArray, List.getElem?_cons_zero, List.getElem?_cons_succ]; rfl)); (case' q21 => (exact fun _ _ _ h => h)); (case' g21 => rfl); (case' y21 => (intro w hSw; (try dsimp only at hSw); go_simp; try with_reducible rfl)); (case' r21 => (try simp only [Act.put, List.setIfInBounds_toArray, List.set_cons_zero, List.set_cons_succ]))
              refine wpAnyH_done (by kernel_rfl) ?_ _
              go_wp2_with fail
              go_ret
              exact ⟨rfl, hHeld⟩
            exact AllReadyH.nil
          exact AllReadyH.nil
        exact AllReadyH.nil
      exact AllReadyH.nil
    refine AllReadyH.cons (o := ?o22) ?a22 (fun K hK => ?s22) ?m22; (case' a22 => (simp only [List.getElem?_toArray, List.getElem?_cons_zero, List.getElem?_cons_succ]; rfl))
    case s22 =>
      go_simp
      refine hK.out _ _ (acc_alloc hHeld _) (fun hHeld => ?_)
      clear hK K
      (try simp only [Act.put, List.setIfInBounds_toArray, List.set_cons_zero, List.set_cons_succ])
      refine wpAnyH_ready (rs := [10, 13]) (by kernel_rfl) (by simp) ?_
      refine AllReadyH.cons (o := ?o23) ?a23 (fun K hK => ?s23) ?m23; (case' a23 => (simp only [List.getElem?_toArray, List.getElem?_cons_zero, List.getElem?_cons_succ]; rfl))
      case s23 =>
        go_simp
        go_at_call 10
        refine (crcsum_is _ _ _ SZ3.out HZ).mono ?_
        rintro e wn ⟨rfl, hbn⟩
        have q0 := hbn.cell (p := ⟨wc.heap.size, 0, none⟩) (by simp); simp at q0
        go_wp2_with fail
        refine hK.out _ _ (acc hHeld hbn) (fun hHeld => ?_)
        clear hK K
        (try simp only [Act.put, List.setIfInBounds_toArray, List.set_cons_zero, List.set_cons_succ])
        refine wpAnyH_ready (rs := [13]) (by kernel_rfl) (by simp) ?_
        refine AllReadyH.cons (o := ?o24) ?a24 (fun K hK => ?s24) ?m24; (case' a24 => (simp only [List.getElem?_toArray, List.getElem?_cons_zero, List.getElem?_cons_succ]; rfl))
        case s24 =>
          go_simp
          refine hK.out _ _ (hHeld) (fun hHeld => ?_)
          clear hK K
          (try simp only [Act.put, List.setIfInBounds_toArray, List.set_cons_zero, List.set_cons_succ])
          refine wpAnyH_ready (rs := [14]) (by kernel_rfl) (by simp) ?_
          refine AllReadyH.cons (o := ?o25) ?a25 (fun K hK => ?s25) ?m25; (case' a25 => (simp only [List.getElem?_toArray, List.getElem?_cons_zero, List.getElem?_cons_succ]; rfl))
          case s25 =>
            go_simp
            go_at_call 12
            refine (crcmore_is _ _ _ _ Z0.out Z1.out SZ4.out HM).mono ?_
            rintro e wn ⟨rfl, hbn⟩
            go_wp2_with fail
            refine hK.out _ _ (acc hHeld hbn) (fun hHeld => ?_)
            clear hK K
            (try simp only [Act.put, List.setIfInBounds_toArray, List.set_cons_zero, List.set_cons_succ])
            refine wpAnyH_take (i := 15) (oi := ?o26) (v := ?v26) ?a26 (by kernel_rfl) (by kernel_rfl) (by kernel_rfl) ?q26 (Or.inl ⟨?g26, ?y26⟩) (by assumption) ?r26; (case' a26 => (simp only [List.getElem?_toArray, List.getElem?_cons_zero, List.getElem?_cons_succ]; rfl)); (case' q26 => (exact fun _ _ _ h => h)); (case' g26 => rfl); (case' y26 => (intro w hSw; (try dsimp only at hSw); go_simp; try with_reducible rfl)); (case' r26 => (try simp only [Act.put, List.setIfInBounds_toArray, List.set_cons_zero, List.set_cons_succ]))
            refine wpAnyH_take (i := 16) (oi := ?o27) (v := ?v27) ?a27 (by kernel_rfl) (by kernel_rfl) (by kernel_rfl) ?q27 (Or.inl ⟨?g27, ?y27⟩) (by assumption) ?r27; (case' a27 => (simp only [List.getElem?_toArray, List.getElem?_cons_zero, List.getElem?_cons_succ]; rfl)); (case' q27 => (exact fun _ _ _ h => h)); (case' g27 => rfl); (case' y27 => (intro w hSw; (try dsimp only at hSw); go_simp; try with_reducible rfl)); (case' r27 => (try simp only [Act.put, List.setIfInBounds_toArray, List.set_cons_zero, List.set_cons_succ]))
            refine wpAnyH_take (i := 17) (oi := ?o28) (v := ?v28) ?a28 (by kernel_rfl) (by kernel_rfl) (by kernel_rfl) ?q28 (Or.inl ⟨?g28, ?y28⟩) (by assumption) ?r28; (case' a28 => (simp only [List.getElem?_toArray, List.getElem?_cons_zero, List.getElem?_cons_succ]; rfl)); (case' q28 => (exact fun _ _ _ h => h)); (case' g28 => rfl); (case' y28 => (intro w hSw; (try dsimp only at hSw); go_simp; try with_reducible rfl)); (case' r28 => (try simp only [Act.put, List.setIfInBounds_toArray, List.set_cons_zero, List.set_cons_succ]))
            refine wpAnyH_ready (rs := [18]) (by kernel_rfl) (by simp) ?_
            refine AllReadyH.cons (o := ?o29) ?a29 (fun K hK => ?s29) ?m29; (case' a29 => (simp only [List.getElem?_toArray, List.getElem?_cons_zero, List.getElem?_cons_succ]; rfl))
            case s29 =>
              go_simp
              go_at_call 14
              refine (fixed2_any _).mono ?_
              rintro e wn ⟨rfl, hbn⟩
              go_wp2_with fail
              refine hK.out _ _ (acc hHeld hbn) (fun hHeld => ?_)
              clear hK K
              (try simp only [Act.put, List.setIfInBounds_toArray, List.set_cons_zero, List.set_cons_succ])
              refine wpAnyH_take (i := 19) (oi := ?o30) (v := ?v30) ?a30 (by kernel_rfl) (by kernel_rfl) (by kernel_rfl) ?q30 (Or.inl ⟨?g30, ?y30⟩) (by assumption) ?r30; (case' a30 => (simp only [List.getElem?_toArray, List.getElem?_cons_zero, List.getElem?_cons_succ]; rfl)); (case' q30 => (exact fun _ _ _ h => h)); (case' g30 => rfl); (case' y30 => (intro w hSw; (try dsimp only at hSw); go_simp; try with_reducible rfl)); (case' r30 => (try simp only [Act.put, List.setIfInBounds_toArray, List.set_cons_zero, List.set_cons_succ]))
              refine wpAnyH_take (i := 20) (oi := ?o31) (v := ?v31) ?a31 (by kernel_rfl) (by kernel_rfl) (by kernel_rfl) ?q31 (Or.inl ⟨?g31, ?y31⟩) (by assumption) ?r31; (case' a31 => (simp only [List.getElem?_toArray, List.getElem?_cons_zero, List.getElem?_cons_succ]; rfl)); (case' q31 => (exact fun _ _ _ h => h)); (case' g31 => rfl); (case' y31 => (intro w hSw; (try dsimp only at hSw); go_simp; try with_reducible rfl)); (case' r31 => (try simp only [Act.put, List.setIfInBounds_toArray, List.set_cons_zero, List.set_cons_succ]))
              refine wpAnyH_done (by kernel_rfl) ?_ _
              go_wp2_with fail
              go_ret
              exact ⟨rfl, hHeld⟩
            exact AllReadyH.nil
          exact AllReadyH.nil
        exact AllReadyH.nil
      refine AllReadyH.cons (o := ?o32) ?a32 (fun K hK => ?s32) ?m32; (case' a32 => (simp only [List.getElem?_toArray, List.getElem?_cons_zero, List.getElem?_cons_succ]; rfl))
      case s32 =>
        go_simp
        refine hK.out _ _ (hHeld) (fun hHeld => ?_)
        clear hK K
        (try simp only [Act.put, List.setIfInBounds_toArray, List.set_cons_zero, List.set_cons_succ])
        refine wpAnyH_ready (rs := [10]) (by kernel_rfl) (by simp) ?_
        refine AllReadyH.cons (o := ?o33) ?a33 (fun K hK => ?s33) ?m33; (case' a33 => (simp only [List.getElem?_toArray, List.getElem?_cons_zero, List.getElem?_cons_succ]; rfl))
        case s33 =>
          go_simp
          go_at_call 10
          refine (crcsum_is _ _ _ SZ3.out HZ).mono ?_
          rintro e wn ⟨rfl, hbn⟩
          go_wp2_with fail
          refine hK.out _ _ (acc hHeld hbn) (fun hHeld => ?_)
          clear hK K
          (try simp only [Act.put, List.setIfInBounds_toArray, List.set_cons_zero, List.set_cons_succ])
          refine wpAnyH_ready (rs := [14]) (by kernel_rfl) (by simp) ?_
          refine AllReadyH.cons (o := ?o34) ?a34 (fun K hK => ?s34) ?m34; (case' a34 => (simp only [List.getElem?_toArray, List.getElem?_cons_zero, List.getElem?_cons_succ]; rfl))
          case s34 =>
            go_simp
            go_at_call 12
            refine (crcmore_is _ _ _ _ Z0.out Z1.out SZ4.out HM).mono ?_
            rintro e wn ⟨rfl, hbn⟩
            go_wp2_with fail
            refine hK.out _ _ (acc hHeld hbn) (fun hHeld => ?_)
            clear hK K
            (try simp only [Act.put, List.setIfInBounds_toArray, List.set_cons_zero, List.set_cons_succ])
            refine wpAnyH_take (i := 15) (oi := ?o35) (v := ?v35) ?a35 (by kernel_rfl) (by kernel_rfl) (by kernel_rfl) ?q35 (Or.inl ⟨?g35, ?y35⟩) (by assumption) ?r35; (case' a35 => (simp only [List.getElem?_toArray, List.getElem?_cons_zero, List.getElem?_cons_succ]; rfl)); (case' q35 => (exact fun _ _ _ h => h)); (case' g35 => rfl); (case' y35 => (intro w hSw; (try dsimp only at hSw); go_simp; try with_reducible rfl)); (case' r35 => (try simp only [Act.put, List.setIfInBounds_toArray, List.set_cons_zero, List.set_cons_succ]))
            refine wpAnyH_take (i := 16) (oi := ?o36) (v := ?v36) ?a36 (by kernel_rfl) (by kernel_rfl) (by kernel_rfl) ?q36 (Or.inl ⟨?g36, ?y36⟩) (by assumption) ?r36; (case' a36 => (simp only [List.getElem?_toArray, List.getElem?_cons_zero, List.getElem?_cons_succ]; rfl)); (case' q36 => (exact fun _ _ _ h => h)); (case' g36 => rfl); (case' y36 => (intro w hSw; (try dsimp only at hSw); go_simp; try with_reducible rfl)); (case' r36 => (try simp only [Act.put, List.setIfInBounds_toArray, List.set_cons_zero, List.set_cons_succ]))
            refine wpAnyH_take (i := 17) (oi := ?o37) (v := ?v37) ?a37 (by kernel_rfl) (by kernel_rfl) (by kernel_rfl) ?q37 (Or.inl ⟨?g37, ?y37⟩) (by assumption) ?r37; (case' a37 => (simp only [List.getElem?_toArray, List.getElem?_cons_zero, List.getElem?_cons_succ]; rfl)); (case' q37 => (exact fun _ _ _ h => h)); (case' g37 => rfl); (case' y37 => (intro w hSw; (try dsimp only at hSw); go_simp; try with_reducible rfl)); (case' r37 => (try simp only [Act.put, List.setIfInBounds_toArray, List.set_cons_zero, List.set_cons_succ]))
            refine wpAnyH_ready (rs := [18]) (by kernel_rfl) (by simp) ?_
            refine AllReadyH.cons (o := ?o38) ?a38 (fun K hK => ?s38) ?m38; (case' a38 => (simp only [List.getElem?_toArray, List.getElem?_cons_zero, List.getElem?_cons_succ]; rfl))
            case s38 =>
              go_simp
              go_at_call 14
              refine (fixed2_any _).mono ?_
              rintro e wn ⟨rfl, hbn⟩
              go_wp2_with fail
              refine hK.out _ _ (acc hHeld hbn) (fun hHeld => ?_)
              clear hK K
              (try simp only [Act.put, List.setIfInBounds_toArray, List.set_cons_zero, List.set_cons_succ])
              refine wpAnyH_take (i := 19) (oi := ?o39) (v := ?v39) ?a39 (by kernel_rfl) (by kernel_rfl) (by kernel_rfl) ?q39 (Or.inl ⟨?g39, ?y39⟩) (by assumption) ?r39; (case' a39 => (simp only [List.getElem?_toArray, List.getElem?_cons_zero, List.getElem?_cons_succ]; rfl)); (case' q39 => (exact fun _ _ _ h => h)); (case' g39 => rfl); (case' y39 => (intro w hSw; (try dsimp only at hSw); go_simp; try with_reducible rfl)); (case' r39 => (try simp only [Act.put, List.setIfInBounds_toArray, List.set_cons_zero, List.set_cons_succ]))
              refine wpAnyH_take (i := 20) (oi := ?o40) (v := ?v40) ?a40 (by kernel_rfl) (by kernel_rfl) (by kernel_rfl) ?q40 (Or.inl ⟨?g40, ?y40⟩) (by assumption) ?r40; (case' a40 => (simp only [List.getElem?_toArray, List.getElem?_cons_zero, List.getElem?_cons_succ]; rfl)); (case' q40 => (exact fun _ _ _ h => h)); (case' g40 => rfl); (case' y40 => (intro w hSw; (try dsimp only at hSw); go_simp; try with_reducible rfl)); (case' r40 => (try simp only [Act.put, List.setIfInBounds_toArray, List.set_cons_zero, List.set_cons_succ]))
              refine wpAnyH_done (by kernel_rfl) ?_ _
              go_wp2_with fail
              go_ret
              exact ⟨rfl, hHeld⟩
            exact AllReadyH.nil
          exact AllReadyH.nil
        exact AllReadyH.nil
      exact AllReadyH.nil
    exact AllReadyH.nil

set_option maxRecDepth 100000 in
theorem lifted (os : Os) (started : os.Started) (H : Type) (enc : TypeId × Value → H) :
    ReturnsInHanded {} Try.checked os 8 .any (Rows.crcZerosSpec.pre6 enc Try.prog Try.f8 Rows.crcZerosRow.domain false) (Rows.crcZerosSpec.post enc Try.prog Try.f8 false true false false) := by
  refine returnsInHanded_of_change (C := Try.checked) own started (by kernel_rfl) Try.func8
    (ChangeSpec.witness6 (enc := enc) (C := Try.checked) false ⟨#[], #[.string ByteArray.empty, .int .u8 0, .int .u8 0], []⟩ 8 (by kernel_rfl) (by kernel_rfl) (by kernel_rfl) (by kernel_rfl)) ?_
  intro W base args ds gs before hval0 hW _ _
  have hval : ∀ (j : Nat) t v, Try.f8.params[j]? = some t → args[j]? = some v → Value.okWide Try.prog W .any base t v := hval0
  have hW' := hW
  obtain ⟨p, q, hA0, hV, rfl, hfz, hnd⟩ := hW
  have hA : DataW.TrodAll enc Try.prog W 0 (fun _ => true) true Try.f8.params.toList args.toList ds p := hA0
  rw [Try.params8] at hA hval
  obtain ⟨v0, vs0, d0, ds0, p0, q0, hargs, rfl, rfl, h0, r0⟩ := trodAll_cons hA
  obtain ⟨v1, vs1, d1, ds1, p1, q1, rfl, rfl, rfl, h1, r1⟩ := trodAll_cons r0
  obtain ⟨v2, vs2, d2, ds2, p2, q2, rfl, rfl, rfl, h2, r2⟩ := trodAll_cons r1
  obtain ⟨rfl, rfl, rfl⟩ := trodAll_nil r2
  obtain rfl : args = #[v0, v1, v2] := by cases args; simp_all
  obtain ⟨rfl, rfl⟩ := trodVars_none hV
  obtain ⟨a0, rfl, rfl, rfl, w0⟩ := open_string Try.underlying9 (hval 0 9 v0 rfl rfl) h0
  obtain ⟨a1, rfl, rfl, rfl, w1⟩ := open_int Try.underlying5 (hval 1 5 v1 rfl rfl) h1
  obtain ⟨a2, rfl, rfl, rfl, w2⟩ := open_int Try.underlying5 (hval 2 5 v2 rfl rfl) h2
  clear hA0 hval0
  simp only [List.append_nil] at hW'
  refine (walk a0 a1 a2 w0 w1 w2 W).mono fun e W' ⟨he, bel⟩ => ?_
  subst he
  exact ⟨_, rfl, _, _, _, [], [], [], hW', trodAll_mk1 (shut_bool Try.underlying4 _), (trodAll_cons_mk (shut_string Try.underlying9 w0) (trodAll_cons_mk (shut_int Try.underlying5 w1) (trodAll_cons_mk (shut_int Try.underlying5 w2) trodAll_mk0))), rfl, bel.frame _, fun h => by cases h⟩

theorem over : Rows.crcZerosRow.holds Try.pinned (OpenSpec.ofChange Rows.crcZerosSpec) :=
  OpenClaim.holds_of_wide 8 Try.f8 rfl rfl rfl rfl rfl rfl rfl ⟨rfl, rfl, rfl, rfl, rfl⟩ rfl rfl rfl rfl rfl (by kernel_rfl) Try.func8 (by kernel_rfl)
    (of_decide_eq_true (by kernel_rfl)) (by unfold Func.isWrapper; first | (rw [if_pos (by decide +kernel)]; kernel_rfl) | (rw [if_neg (by decide +kernel)]; exact ⟨rfl, rfl⟩))
    (fun os started H enc _ => lifted os started H enc)

/-- the statement -/
theorem proved : Rows.CrcZerosSaid :=
  over
#print axioms proved
end Go.Proofs.Ytinnellkjoeikaa.crcZeros
