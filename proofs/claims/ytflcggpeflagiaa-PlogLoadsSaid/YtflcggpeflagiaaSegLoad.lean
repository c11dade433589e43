/-
  Contracts: a segment of records that are there already; an empty one.
-/
import Derived.Test.YtflcggpeflagiaaSegPut
namespace Go.Proofs.Ytflcggpeflagiaa.L5
open Go.RowKit
open L3 L4

theorem load_ok {base next : Int} {l : List L4.Fd} (h1 : numB base = true) (h2 : numB next = true) (h3 : base ≤ next) (h4 : l.length ≤ 64) (h5 : riseB base next l = true) : loadE base next l = chkL (l.map (·.r)) := by
  unfold loadE; rw [if_pos (by simp [h1, h2, h3, h4, h5])]
theorem load_no {base next : Int} {l : List L4.Fd} (h : numB base = false ∨ numB next = false ∨ next < base ∨ 64 < l.length ∨ riseB base next l = false) : loadE base next l = 1 := by
  unfold loadE
  rw [if_neg]
  simp only [Bool.and_eq_true, decide_eq_true_eq]
  rintro ⟨⟨⟨⟨a, b⟩, c⟩, d⟩, e⟩
  rcases h with h | h | h | h | h
  · rw [h] at a; cases a
  · rw [h] at b; cases b
  · omega
  · omega
  · rw [h] at e; cases e
theorem num_bounds {n : Int} (h : numB n = true) : 0 ≤ n ∧ n ≤ 1099511627776 := by simpa [numB] using h
theorem chkF_next {l : List L4.Fd} {k : Nat} {f : L4.Fd} (h : l[k]? = some f) {y : Int} (hy : f.r.chk = y) :
    (y ≠ 0 → chkL ((l.drop k).map (·.r)) = y) ∧ (y = 0 → chkL ((l.drop k).map (·.r)) = chkL ((l.drop (k + 1)).map (·.r))) := by
  obtain ⟨hlt, hl⟩ := List.getElem?_eq_some_iff.1 h
  rw [List.drop_eq_getElem_cons hlt, hl, List.map_cons]
  constructor
  · intro h0; show (if _ ≠ 0 then _ else _) = _; rw [hy, if_pos h0]
  · intro h0; show (if _ ≠ 0 then _ else _) = _; rw [hy, if_neg (by simpa using h0)]
/-- a segment behind one more record, whose blocks are all new -/
theorem load_step {T : TypeId} {w W w' : World} {g : Nat} {A : Option Addr} {base next : Int} {L : List L4.Fd} (hb : Below w.heap.size w W) (hg : w.heap.size ≤ g) (hA : ∀ k, blk A = some k → w.heap.size ≤ k) (h : Step T W g A base next L w') :
    ∃ A' cap', Seg T w' g A' cap' base next L ∧ Below w.heap.size w w' ∧ ∀ k, blk A' = some k → w.heap.size ≤ k := by
  obtain ⟨A', c', h1, h2, h3⟩ := h
  refine ⟨A', c', h1, hb.trans (h2.below hb.size hg hA), fun k e => ?_⟩
  rcases h3 k e with e' | e'
  · exact hA k e'
  · have := hb.size; omega

set_option maxRecDepth 100000 in
set_option maxHeartbeats 2000000 in
theorem load_arg (base next : Int) (A : Option Addr) (l : List L4.Fd) (cap B : Nat) (w : World) (hR : Hid (ReadsF w B A l)) (hB : B ≤ w.heap.size) (hl : l.length ≤ maxLen) (hbad : Hid (numB base = false ∨ numB next = false ∨ next < base ∨ 64 < l.length ∨ riseB base next l = false)) :
    Calls Try.prog 49 #[.int .i64 base, .int .i64 next, .slice A l.length cap] w fun e w' => e = .returned (.tuple #[.pointer none, .int .i64 1]) ∧ Below w.heap.size w w' := by
  obtain ⟨b1, hb1⟩ : ∃ b, numB base = b := ⟨_, rfl⟩
  obtain ⟨b2, hb2⟩ : ∃ b, numB next = b := ⟨_, rfl⟩
  obtain ⟨b3, hb3⟩ : ∃ b, riseB base next l = b := ⟨_, rfl⟩
  have B1 := Lib.hid hb1
  have B2 := Lib.hid hb2
  have B3 := Lib.hid hb3
  cases b1
  · clear hb1 hb2 hb3
    go_enter Try.func49, Try.ntmps49
    go_wp2_with (go_at_call 64; refine (offset_is _ _ _ B1).mono ?_; rintro e w' ⟨rfl, rfl⟩)
    go_ret2
    exact ⟨rfl, Below.refl _ _⟩
  · obtain ⟨z1, z2⟩ := num_bounds hb1
    cases b2
    · clear hb1 hb2 hb3
      go_enter Try.func49, Try.ntmps49
      go_wp2_with (go_at_call 64; (first | (with_reducible refine (offset_is base _ _ B1).mono ?_) | (with_reducible refine (offset_is next _ _ B2).mono ?_)); rintro e w' ⟨rfl, rfl⟩)
      go_ret2
      exact ⟨rfl, Below.refl _ _⟩
    · obtain ⟨z3, z4⟩ := num_bounds hb2
      have hb := hbad.out
      rw [hb1, hb2] at hb
      have hb' : next < base ∨ 64 < l.length ∨ riseB base next l = false := by simpa using hb
      clear hb hb1 hb2 hbad
      by_cases h3 : next < base
      · clear hb3 hb'
        go_enter Try.func49, Try.ntmps49
        go_wp2_with (go_at_call 64; (first | (with_reducible refine (offset_is base _ _ B1).mono ?_) | (with_reducible refine (offset_is next _ _ B2).mono ?_)); rintro e w' ⟨rfl, rfl⟩)
        go_ret2
        exact ⟨rfl, Below.refl _ _⟩
      · by_cases h4 : 64 < l.length
        · have h4' : (64 : Int) < (l.length : Int) := by omega
          clear hb3 hb'
          go_enter Try.func49, Try.ntmps49
          go_wp2_with (go_at_call 64; (first | (with_reducible refine (offset_is base _ _ B1).mono ?_) | (with_reducible refine (offset_is next _ _ B2).mono ?_)); rintro e w' ⟨rfl, rfl⟩)
          go_ret2
          exact ⟨rfl, Below.refl _ _⟩
        · have h4' : ¬ (64 : Int) < (l.length : Int) := by omega
          have h5 : b3 = false := by rw [hb3] at hb'; rcases hb' with h | h | h; exact absurd h h3; exact absurd h h4; exact h
          subst h5
          clear hb3 hb'
          go_enter Try.func49, Try.ntmps49
          go_wp2_with (first
            | (go_at_call 64; (first | (with_reducible refine (offset_is base _ _ B1).mono ?_) | (with_reducible refine (offset_is next _ _ B2).mono ?_)); rintro e w' ⟨rfl, rfl⟩)
            | (go_at_call 65; refine (rise_is _ _ _ _ _ _ _ _ hR hB hl z1 z4 B3).mono ?_; rintro e w' ⟨rfl, hb⟩))
          go_ret2
          exact ⟨rfl, hb⟩

set_option maxRecDepth 100000 in
set_option maxHeartbeats 4000000 in
theorem load_run (base next : Int) (A : Option Addr) (l : List L4.Fd) (cap B : Nat) (x : Int) (w : World) (hR : Hid (ReadsF w B A l)) (hB : B ≤ w.heap.size) (hl : l.length ≤ 64) (hs : Hid (∀ f ∈ l, f.r.key.size ≤ maxLen ∧ f.r.val.size ≤ maxLen))
    (B1 : Hid (numB base = true)) (B2 : Hid (numB next = true)) (h3 : ¬ next < base) (B3 : Hid (riseB base next l = true)) (HX : Hid (chkL (l.map (·.r)) = x)) :
    Calls Try.prog 49 #[.int .i64 base, .int .i64 next, .slice A l.length cap] w (NewP 93 w x base next l) := by
  obtain ⟨z1, z2⟩ := num_bounds B1.out
  obtain ⟨z3, z4⟩ := num_bounds B2.out
  have h4' : ¬ (64 : Int) < (l.length : Int) := by omega
  have hml : l.length ≤ maxLen := by unfold maxLen; omega
  have HML := Lib.hid hml
  clear hml
  go_enter Try.func49, Try.ntmps49
  go_wp2_with (first
    | (go_at_call 64; (first | (with_reducible refine (offset_is base _ _ B1).mono ?_) | (with_reducible refine (offset_is next _ _ B2).mono ?_)); rintro e w' ⟨rfl, rfl⟩)
    | (go_at_call 65; refine (rise_is _ _ _ _ _ _ _ _ hR hB HML.out z1 z4 B3).mono ?_; rintro e wa ⟨rfl, hba⟩))
  go_loopw [41] (fun i wr => ∃ k : Nat, k ≤ l.length ∧ i = .int .i64 k ∧ Below w.heap.size w wr ∧ Hid (chkL ((l.drop k).map (·.r)) = x)) (fun i _ => l.length - (intOf i).toNat)
  case atStart => exact ⟨0, by omega, rfl, hba, by simpa using HX⟩
  case round =>
    obtain ⟨k, hk, rfl, hbel, hX⟩ := hrel
    by_cases hlt : k < l.length
    · obtain ⟨g, rfl, hg, hcells⟩ := hR.out (by omega)
      obtain ⟨⟨o, ⟨rk, key, tb, val⟩⟩, hr⟩ : ∃ s, l[k]? = some s := ⟨l[k], List.getElem?_eq_getElem hlt⟩
      obtain ⟨q1, q2⟩ := hs.out _ (List.mem_of_getElem? hr)
      have Q1 := Lib.hid q1
      have Q2 := Lib.hid q2
      obtain ⟨c0, c1, c2, c3, c4⟩ := hcells k _ hr
      have d0 := (hbel.cell (p := ⟨g, k * 5, none⟩) (by show g < _; omega)).trans c0
      have d1 := (hbel.cell (p := ⟨g, k * 5 + 1, none⟩) (by show g < _; omega)).trans c1
      have d2 := (hbel.cell (p := ⟨g, k * 5 + 2, none⟩) (by show g < _; omega)).trans c2
      have d3 := (hbel.cell (p := ⟨g, k * 5 + 3, none⟩) (by show g < _; omega)).trans c3
      have d4 := (hbel.cell (p := ⟨g, k * 5 + 4, none⟩) (by show g < _; omega)).trans c4
      have k0 : (0 : Int) ≤ (k : Int) := by omega
      have k1 : (k : Int) < (l.length : Int) := by omega
      obtain ⟨y, hy⟩ : ∃ y, chk rk key tb val = y := ⟨_, rfl⟩
      have hnext := chkF_next (y := y) hr hy
      have HY := Lib.hid hy
      clear c0 c1 c2 c3 c4 hcells hr hy q1 q2
      dsimp only at d0 d1 d2 d3 d4 Q1 Q2
      by_cases hy0 : y = 0
      · subst hy0
        have hX' : Hid (chkL ((l.drop (k + 1)).map (·.r)) = x) := Lib.hid ((hnext.2 rfl).symm.trans hX.out)
        clear hnext
        go_wp2_with (go_at_call 24; refine (check_any _ _ _ _ _ Q1.out Q2.out).mono ?_; rw [HY.out]; rintro e w1 ⟨rfl, hb1⟩)
        go_roundw
        case rel => exact ⟨k + 1, by omega, by go_num, (hbel.alloc hbel.size _).trans (hb1.mono (by simp; exact Nat.le_succ_of_le hbel.size)), hX'⟩
        case measure => simp [intOf]; omega
      · have hy1 : (y != 0) = true := by simpa using hy0
        obtain rfl : x = y := hX.out.symm.trans (hnext.1 hy0)
        have HN0 := Lib.hid hy0
        clear hnext hy0
        go_wp2_with (go_at_call 24; refine (check_any _ _ _ _ _ Q1.out Q2.out).mono ?_; rw [HY.out]; rintro e w1 ⟨rfl, hb1⟩)
        go_ret2
        exact ⟨(hbel.alloc hbel.size _).trans (hb1.mono (by simp; exact Nat.le_succ_of_le hbel.size)), .inl ⟨HN0.out, rfl⟩⟩
    · obtain rfl : k = l.length := by omega
      have hx0 : x = 0 := by have := hX.out; rw [List.drop_length] at this; exact this.symm
      subst hx0
      have hsm : ∀ f ∈ l, f.r.key.size ≤ 64 ∧ f.r.val.size ≤ 512 := fun f hf => by
        have := chk_parts (chkL_all HX.out _ (List.mem_map_of_mem hf)); exact ⟨this.1, this.2.1⟩
      have HSM := Lib.hid hsm
      clear hsm
      go_wp2_with fail
      obtain ⟨W1, hW1⟩ : ∃ W1, W1 = wr := ⟨_, rfl⟩
      rw [← hW1] at hbel ⊢
      clear hW1
      go_loopw [58] (fun i wr => ∃ (k : Nat) (A' : Option Addr) (cap' : Nat), k ≤ l.length ∧ i = .int .i64 k ∧ Hid (Seg 93 wr W1.heap.size A' cap' base next (l.take k)) ∧ Below w.heap.size w wr ∧ Hid (∀ j, blk A' = some j → w.heap.size ≤ j)) (fun i _ => l.length - (intOf i).toNat)
      case atStart =>
        exact ⟨0, none, 0, by omega, rfl, Lib.hid ⟨heap_alloc_new _ _, World.ownsRow_nil _ _ _ _, by simp [blk]⟩, hbel.alloc hbel.size _, Lib.hid (fun j e => by cases e)⟩
      case round =>
        obtain ⟨k, A', cap', hk, rfl, hseg, hbel2, hA'⟩ := hrel
        by_cases hlt : k < l.length
        · obtain ⟨g, rfl, hg, hcells⟩ := hR.out (by omega)
          obtain ⟨⟨o, ⟨rk, key, tb, val⟩⟩, hr⟩ : ∃ s, l[k]? = some s := ⟨l[k], List.getElem?_eq_getElem hlt⟩
          obtain ⟨q1, q2⟩ := HSM.out _ (List.mem_of_getElem? hr)
          have Q1 : key.size ≤ 281474976710656 := Nat.le_trans q1 (by decide)
          have Q2 : val.size ≤ 281474976710656 := Nat.le_trans q2 (by decide)
          obtain ⟨c0, c1, c2, c3, c4⟩ := hcells k _ hr
          have d0 := (hbel2.cell (p := ⟨g, k * 5, none⟩) (by show g < _; omega)).trans c0
          have d1 := (hbel2.cell (p := ⟨g, k * 5 + 1, none⟩) (by show g < _; omega)).trans c1
          have d2 := (hbel2.cell (p := ⟨g, k * 5 + 2, none⟩) (by show g < _; omega)).trans c2
          have d3 := (hbel2.cell (p := ⟨g, k * 5 + 3, none⟩) (by show g < _; omega)).trans c3
          have d4 := (hbel2.cell (p := ⟨g, k * 5 + 4, none⟩) (by show g < _; omega)).trans c4
          have k0 : (0 : Int) ≤ (k : Int) := by omega
          have k1 : (k : Int) < (l.length : Int) := by omega
          have HR := Lib.hid hr
          have hz := hbel.size
          clear c0 c1 c2 c3 c4 hcells hr q1 q2
          dsimp only at d0 d1 d2 d3 d4 Q1 Q2
          go_wp2_with (go_at_call 53; refine (put_is o rk key tb val k (by rw [List.length_take]; omega) (Lib.hid (hseg.out.below (one_box _))) (by omega) Q1 Q2).mono ?_; rintro e w2 ⟨rfl, hst⟩)
          go_roundw
          case rel =>
            obtain ⟨A2, c2, s1, s2, s3⟩ := load_step (hbel2.alloc hbel2.size _) hz hA'.out hst
            refine ⟨k + 1, A2, c2, by omega, by go_num, Lib.hid ?_, s2, Lib.hid s3⟩
            rw [List.take_add_one, HR.out]; exact s1
          case measure => simp [intOf]; omega
        · obtain rfl : k = l.length := by omega
          have hz := hbel.size
          have HS : Hid (Seg 93 wr W1.heap.size A' cap' base next l) := Lib.hid (by have := hseg.out; rwa [List.take_length] at this)
          go_wp2_with fail
          go_ret2
          exact ⟨hbel2, .inr ⟨rfl, W1.heap.size, A', cap', rfl, HS.out, hz, hA'.out⟩⟩

theorem load_is (base next : Int) (A : Option Addr) (l : List L4.Fd) (cap B : Nat) (x : Int) (w : World) (hR : Hid (ReadsF w B A l)) (hB : B ≤ w.heap.size) (hl : l.length ≤ maxLen) (hs : Hid (∀ f ∈ l, f.r.key.size ≤ maxLen ∧ f.r.val.size ≤ maxLen)) (HX : Hid (loadE base next l = x)) :
    Calls Try.prog 49 #[.int .i64 base, .int .i64 next, .slice A l.length cap] w (NewP 93 w x base next l) := by
  by_cases hc : numB base = false ∨ numB next = false ∨ next < base ∨ 64 < l.length ∨ riseB base next l = false
  · have hx := HX.out
    rw [load_no hc] at hx
    subst hx
    refine (load_arg base next A l cap B w hR hB hl (Lib.hid hc)).mono ?_
    rintro e w' ⟨rfl, hb⟩
    exact ⟨hb, .inl ⟨by decide, rfl⟩⟩
  · have h1 : numB base = true := by cases h : numB base; exact absurd (.inl h) hc; rfl
    have h2 : numB next = true := by cases h : numB next; exact absurd (.inr (.inl h)) hc; rfl
    have h3 : ¬ next < base := fun h => hc (.inr (.inr (.inl h)))
    have h4 : ¬ 64 < l.length := fun h => hc (.inr (.inr (.inr (.inl h))))
    have h5 : riseB base next l = true := by cases h : riseB base next l; exact absurd (.inr (.inr (.inr (.inr h)))) hc; rfl
    have hx := HX.out
    rw [load_ok h1 h2 (by omega) (by omega) h5] at hx
    exact load_run base next A l cap B x w hR hB (by omega) hs (Lib.hid h1) (Lib.hid h2) h3 (Lib.hid h5) (Lib.hid hx)

/-- New's error -/
def newE (base : Int) : Int := if numB base = true then 0 else 1
theorem new_is (base x : Int) (w : World) (HX : Hid (newE base = x)) :
    Calls Try.prog 28 #[.int .i64 base] w (NewP 93 w x base base []) := by
  have hx : loadE base base [] = x := by
    rw [← HX.out]; unfold loadE newE
    cases h : numB base <;> simp [riseB, chkL]
  have hload := load_is base base none [] 0 0 x w (Lib.hid (fun h => absurd h (by simp))) (Nat.zero_le _) (Nat.zero_le _) (Lib.hid (fun f hf => by cases hf)) (Lib.hid hx)
  clear HX hx
  go_enter Try.func28, Try.ntmps28
  go_wp2_with (go_at_call 49; refine hload.mono ?_; rintro e w' ⟨hb, ⟨hx, rfl⟩ | ⟨hx, g, A, cap, rfl, hf⟩⟩)
  · go_ret2
    exact ⟨hb, .inl ⟨hx, rfl⟩⟩
  · go_ret2
    exact ⟨hb, .inr ⟨hx, g, A, cap, rfl, hf⟩⟩
end Go.Proofs.Ytflcggpeflagiaa.L5
