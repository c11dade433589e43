/-
  The calls on a log whose answers the document fixes.
-/
import Derived.Test.YtflcggpeflagiaaPlMine
namespace Go.Proofs.Ytflcggpeflagiaa.L6
open Go.RowKit Go.Shelf
open L3 L4 L5

theorem key_any (k v : ByteArray) (w : World) :
    Calls Try.prog 18 #[.string k, .string v] w fun e w' => e = .returned (.agg #[.bool true, .string k, .bool false, .string v]) ∧ Below w.heap.size w w' := by
  go_enter Try.func18, Try.ntmps18
  go_wp2_with fail
  exact bodyPost_ret (v := .agg #[.bool true, .string k, .bool false, .string v]) (by simp [results, Try.results18, go_sem]) rfl ⟨rfl, one_box _⟩
def rkv (k v : UInt8) : R := ⟨true, ⟨#[k]⟩, false, ⟨#[v]⟩⟩
def twoA : List R := [rkv 97 49, rkv 98 49]
def twoB : List R := [rkv 97 50, rkv 99 49]
def zero3 : List R := List.replicate 3 rZ
def lA : List Sg := [⟨0, 2, [⟨0, rkv 97 49⟩, ⟨1, rkv 98 49⟩]⟩]
def lB : List Sg := [⟨0, 2, [⟨0, rkv 97 49⟩, ⟨1, rkv 98 49⟩]⟩, ⟨2, 4, [⟨2, rkv 97 50⟩, ⟨3, rkv 99 49⟩]⟩]
def lC : List Sg := [⟨0, 2, [⟨1, rkv 98 49⟩]⟩, ⟨2, 4, [⟨2, rkv 97 50⟩, ⟨3, rkv 99 49⟩]⟩]
def fC : List L4.Fd := [⟨1, rkv 98 49⟩, ⟨2, rkv 97 50⟩, ⟨3, rkv 99 49⟩]
def lR : List Sg := [⟨2, 4, [⟨2, rkv 97 50⟩, ⟨3, rkv 99 49⟩]⟩]
theorem make_three (W : World) : (Instr.makeSlice 30 (.int .i64 3) (.int .i64 3)).run Try.prog W = .ok (.slice (some ⟨W.heap.size, 0, none⟩) 3 3) (W.alloc (.cells (rowOf zero3).toArray 41)) := by kernel_rfl
theorem bytes_lR : bytesL (allL lR) = 10 := by
  have h1 : chk true ⟨#[97]⟩ false ⟨#[50]⟩ = 0 := by decide
  have h2 : chk true ⟨#[99]⟩ false ⟨#[49]⟩ = 0 := by decide
  show (putT true ⟨#[97]⟩ false ⟨#[50]⟩).size + ((putT true ⟨#[99]⟩ false ⟨#[49]⟩).size + 0) = 10
  unfold putT
  rw [if_pos h1, if_pos h2]
  show ((⟨#[1]⟩ : ByteArray) ++ txt ⟨#[97]⟩ ++ txt ⟨#[50]⟩).size + (((⟨#[1]⟩ : ByteArray) ++ txt ⟨#[99]⟩ ++ txt ⟨#[49]⟩).size + 0) = _
  rw [txt1, txt1, txt1, txt1]
  rfl
theorem load_lR : loadE6 2 lR = 0 := by
  unfold loadE6
  rw [if_neg (by rintro (q | q | q); simp at q; simp at q; cases q)]
  have e : loadE 2 4 [⟨2, rkv 97 50⟩, ⟨3, rkv 99 49⟩] = 0 := by decide
  show (if loadE 2 4 [⟨2, rkv 97 50⟩, ⟨3, rkv 99 49⟩] ≠ 0 then _ else if _ then _ else _) = (0 : Int)
  rw [if_neg (by rw [e]; simp), if_neg (by rintro (q | ⟨x, q, _⟩); exact absurd q (by decide); cases q)]
  rfl
theorem first_off {w : World} {base b c : Nat} (h : w.ownsRow base 43 5 (.slice (some ⟨b, 0, none⟩) 3 c) 3 (rowF fC)) : w.cell? ⟨b, 0, none⟩ = some (.int .i64 1) := by
  have h0 := h.cells (g := b) rfl 0 (.int .i64 1) rfl
  rwa [addr_add] at h0

set_option maxRecDepth 100000 in
set_option maxHeartbeats 8000000 in
theorem fixed6_any (w : World) :
    Calls Try.prog 20 #[] w fun e w' => e = .returned (.bool true) ∧ Below w.heap.size w w' := by
  have N2 : Hid (newE6 ((2 : Nat) : Int) = 0) := Lib.hid (by decide)
  have AE1 : Hid (appE 2 [sg0] twoA = 0) := Lib.hid (by decide)
  have AE2 : Hid (appE 2 lA twoB = 0) := Lib.hid (by decide)
  have AE3 : Hid (appE 2 lB zero3 = 2) := Lib.hid (by decide)
  have EN0 : endL [sg0] = 0 := rfl
  have EN1 : endL lA = 2 := rfl
  have AL1 : appL 2 twoA [sg0] = lA := rfl
  have AL2 : appL 2 twoB lA = lB := rfl
  have CP1 : Hid ((comp lB).1 = lC) := Lib.hid (by rfl)
  have CP2 : Hid ((comp lB).2.2 = 1) := Lib.hid (by rfl)
  have RE0 : Hid (readE lC 0 = 0) := Lib.hid (by decide)
  have RL0 : Hid (readL (allL lC) 0 9 = fC) := Lib.hid rfl
  have RT : Hid (retainN lC 2 = 1) := Lib.hid (by decide)
  have BY := Lib.hid bytes_lR
  have LE2 := Lib.hid load_lR
  have LE0 : Hid (loadE6 2 [] = 1) := Lib.hid (by unfold loadE6; rw [if_pos (.inr (.inr rfl))])
  have SMA : Hid (∀ r ∈ twoA, r.key.size ≤ maxLen ∧ r.val.size ≤ maxLen) := Lib.hid (by decide)
  have SMB : Hid (∀ r ∈ twoB, r.key.size ≤ maxLen ∧ r.val.size ≤ maxLen) := Lib.hid (by decide)
  have SMZ : Hid (∀ r ∈ zero3, r.key.size ≤ maxLen ∧ r.val.size ≤ maxLen) := Lib.hid (fun r hr => by rw [List.eq_of_mem_replicate hr]; decide)
  have SML : Hid (∀ s ∈ lR, s.L.length ≤ maxLen ∧ ∀ f ∈ s.L, f.r.key.size ≤ maxLen ∧ f.r.val.size ≤ maxLen) := Lib.hid (by decide)
  have hmk := make_three
  go_enter Try.func20, Try.ntmps20
  go_wp2_with (first
    | (go_at_call 45; have _q := M18; refine (m6_bytes M18 (by decide) 10 BY).mono ?_; rintro e w19 ⟨rfl, hb19⟩)
    | (go_at_call 21; have _q := M17; refine (m6_load_no (X := none) (ll := []) 2 1 0 0 0 [] (Lib.hid ⟨fun h0 => absurd h0 (by simp), fun r hr => by cases hr⟩) (Nat.zero_le _) (Lib.hid rfl) rfl (by decide) (Lib.hid (fun s hs => by cases hs)) LE0 (by decide)).mono ?_; rintro e w18 ⟨rfl, hb18⟩; have M18 := Lib.hid (M17.out.below hb18); have O18 := Lib.hid (own_below O17.out hb18); have q0 := first_off O18.out)
    | (go_at_call 21; have _q := M16; refine (m6_load 2 1 c16 w16.heap.size lR HRS (Nat.le_refl _) HLL rfl (by decide) SML LE2).mono ?_; rintro e w17 ⟨g17, S17, rfl, hl17⟩; have M17 := Lib.hid (M16.out.below hl17.old); have O17 := Lib.hid (own_below O16.out hl17.old); clear hl17)
    | (go_at_call 48; have _q := M15; refine (m6_segs M15 (by decide) 1 rfl).mono ?_; rintro e w16 ⟨X16, c16, ll, rfl, _, hll, hrs, _, _, hb16⟩; have M16 := Lib.hid (M15.out.below hb16); have O16 := Lib.hid (own_below O15.out hb16); have HLL := Lib.hid hll; have HRS := Lib.hid hrs; clear hll hrs)
    | (go_at_call 33; have _q := M14; refine (m6_span M14 (by decide) 2 4 (Lib.hid rfl) (Lib.hid rfl)).mono ?_; rintro e w15 ⟨rfl, hb15⟩; have M15 := Lib.hid (M14.out.below hb15); have O15 := Lib.hid (own_below O14.out hb15))
    | (go_at_call 10; have _q := M13; refine (m6_read M13 (by decide) 4 1 [] 0 (by decide) (Lib.hid (by decide)) (Lib.hid rfl) rfl).mono ?_; rintro e w14 ⟨A14, c14, rfl, _, hb14⟩; have M14 := Lib.hid (M13.out.below hb14); have O14 := Lib.hid (own_below O13.out hb14))
    | (go_at_call 10; have _q := M12; refine (m6_read_no M12 (by decide) 5 1 61 (by decide) (Lib.hid (by decide)) (by decide)).mono ?_; rintro e w13 ⟨rfl, hb13⟩; have M13 := Lib.hid (M12.out.below hb13); have O13 := Lib.hid (own_below O12.out hb13))
    | (go_at_call 10; have _q := M11; refine (m6_read_no M11 (by decide) 1 1 60 (by decide) (Lib.hid (by decide)) (by decide)).mono ?_; rintro e w12 ⟨rfl, hb12⟩; have M12 := Lib.hid (M11.out.below hb12); have O12 := Lib.hid (own_below O11.out hb12))
    | (go_at_call 13; have _q := M10; refine (m6_retain M10 (by decide) 2 1 RT).mono ?_; rintro e w11 ⟨rfl, S11, hm11, ho11, _⟩; have M11 : Hid (LogAt w w11 2 g lR S11) := Lib.hid hm11; have O11 := Lib.hid (ho11.own O10.out (fun k e hk => by have h1 := (O10.out.lt k e).1; have h2 := Z9.out k hk; omega)); clear hm11 ho11)
    | (go_at_call 10; have _q := M9; refine (m6_read M9 (by decide) 0 9 fC 3 (by decide) RE0 RL0 rfl).mono ?_; rintro e w10 ⟨A10, c10, rfl, ho10, hb10⟩; obtain ⟨xb, xc, hxv, _, _⟩ := ho10.form (by decide); injection hxv with e1 e2 e3; subst e1; have M10 := Lib.hid (M9.out.below hb10); have O10 := Lib.hid ho10; have Z9 := Lib.hid M9.out.lt; clear ho10)
    | (go_at_call 15; have _q := M8; refine (m6_compact M8 (by decide) lC 1 CP1 CP2).mono ?_; rintro e w9 ⟨rfl, S9, hm9, _, _⟩; have M9 := Lib.hid hm9; clear hm9)
    | (go_at_call 8; have _q := M7; refine (m6_append_no (Lib.hid (M7.out.below (one_box _))) (by decide) (some ⟨w7.heap.size, 0, none⟩) zero3 3 3 (w7.heap.size + 1) 2 (Lib.hid (reads_rows (heap_alloc_new w7 _) (by simp))) (Lib.hid (fun k e hm => by have := M7.out.lt k hm; have e' : w7.heap.size = k := Option.some.inj e; omega)) (by simp) rfl (by decide) SMZ AE3 (by decide)).mono ?_; rintro e w8 ⟨rfl, hb8⟩; have M8 := Lib.hid (M7.out.below ((one_box _).trans (hb8.mono (by simp)))))
    | (go_at_call 8; have _q := M6; refine (m6_append (Lib.hid (M6.out.below (one_box _))) (by decide) (some ⟨w6.heap.size, 0, none⟩) twoB 2 2 (w6.heap.size + 1) (Lib.hid (reads_rows (heap_alloc_new w6 _) rfl)) (Lib.hid (fun k e hm => by have := M6.out.lt k hm; have e' : w6.heap.size = k := Option.some.inj e; omega)) (by simp) rfl (by decide) SMB AE2).mono ?_; rw [EN1]; rintro e w7 ⟨rfl, S7, hm7, _, _⟩; rw [AL2] at hm7; have M7 := Lib.hid hm7; clear hm7)
    | (go_at_call 18; have _q := M5; refine (key_any ⟨#[99]⟩ ⟨#[49]⟩ _).mono ?_; rintro e w6 ⟨rfl, hb6⟩; have M6 := Lib.hid (M5.out.below hb6))
    | (go_at_call 18; have _q := M4; refine (key_any ⟨#[97]⟩ ⟨#[50]⟩ _).mono ?_; rintro e w5 ⟨rfl, hb5⟩; have M5 := Lib.hid (M4.out.below hb5))
    | (go_at_call 8; have _q := M3; refine (m6_append (Lib.hid (M3.out.below (one_box _))) (by decide) (some ⟨w3.heap.size, 0, none⟩) twoA 2 2 (w3.heap.size + 1) (Lib.hid (reads_rows (heap_alloc_new w3 _) rfl)) (Lib.hid (fun k e hm => by have := M3.out.lt k hm; have e' : w3.heap.size = k := Option.some.inj e; omega)) (by simp) rfl (by decide) SMA AE1).mono ?_; rw [EN0]; rintro e w4 ⟨rfl, S4, hm4, _, _⟩; rw [AL1] at hm4; have M4 := Lib.hid hm4; clear hm4)
    | (go_at_call 18; have _q := M2; refine (key_any ⟨#[98]⟩ ⟨#[49]⟩ _).mono ?_; rintro e w3 ⟨rfl, hb3⟩; have M3 := Lib.hid (M2.out.below hb3))
    | (go_at_call 18; have _q := M1; refine (key_any ⟨#[97]⟩ ⟨#[49]⟩ _).mono ?_; rintro e w2 ⟨rfl, hb2⟩; have M2 := Lib.hid (M1.out.below hb2))
    | (go_at_call 5; refine (m6_new 2 w w (Lib.hid (Below.refl _ _)) N2).mono ?_; rintro e w1 ⟨g, S1, rfl, hm1, _, _⟩; have M1 := Lib.hid hm1; clear hm1))
  go_ret
  exact ⟨rfl, acc M18.out.old hb19⟩
end Go.Proofs.Ytflcggpeflagiaa.L6
