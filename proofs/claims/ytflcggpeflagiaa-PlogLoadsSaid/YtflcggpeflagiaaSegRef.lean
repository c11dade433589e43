/-
  Contracts: the document's segment: a new one, one of records that are there already.
-/
import Derived.Test.YtflcggpeflagiaaSegCopy
namespace Go.Proofs.Ytflcggpeflagiaa.L5
open Go.RowKit
open L3 L4

set_option maxRecDepth 100000 in
set_option maxHeartbeats 1000000 in
theorem rload_num (base next : Int) (A : Option Addr) (l : List L4.Fd) (cap : Nat) (w : World) (hl : l.length ≤ maxLen) (hbad : Hid (numB base = false ∨ numB next = false ∨ next < base ∨ 64 < l.length)) :
    Calls Try.prog 50 #[.int .i64 base, .int .i64 next, .slice A l.length cap] w fun e w' => e = .returned (.tuple #[.pointer none, .int .i64 1]) ∧ Below w.heap.size w w' := by
  obtain ⟨b1, hb1⟩ : ∃ b, numB base = b := ⟨_, rfl⟩
  obtain ⟨b2, hb2⟩ : ∃ b, numB next = b := ⟨_, rfl⟩
  have B1 := Lib.hid hb1
  have B2 := Lib.hid hb2
  unfold maxLen at hl
  cases b1
  · clear hb1 hb2
    go_enter Try.func50, Try.ntmps50
    go_wp2_with (go_at_call 66; refine (num_is _ _ _ B1).mono ?_; rintro e w' ⟨rfl, rfl⟩)
    go_ret2
    exact ⟨rfl, Below.refl _ _⟩
  · cases b2
    · clear hb1 hb2
      go_enter Try.func50, Try.ntmps50
      go_wp2_with (go_at_call 66; (first | (with_reducible refine (num_is base _ _ B1).mono ?_) | (with_reducible refine (num_is next _ _ B2).mono ?_)); rintro e w' ⟨rfl, rfl⟩)
      go_ret2
      exact ⟨rfl, Below.refl _ _⟩
    · have hb := hbad.out
      rw [hb1, hb2] at hb
      have hb' : next < base ∨ 64 < l.length := by simpa using hb
      clear hb hb1 hb2 hbad
      by_cases h3 : next < base
      · clear hb'
        go_enter Try.func50, Try.ntmps50
        go_wp2_with (go_at_call 66; (first | (with_reducible refine (num_is base _ _ B1).mono ?_) | (with_reducible refine (num_is next _ _ B2).mono ?_)); rintro e w' ⟨rfl, rfl⟩)
        go_ret2
        exact ⟨rfl, Below.refl _ _⟩
      · have h4' : (64 : Int) < (l.length : Int) := by omega
        clear hb'
        go_enter Try.func50, Try.ntmps50
        go_wp2_with (go_at_call 66; (first | (with_reducible refine (num_is base _ _ B1).mono ?_) | (with_reducible refine (num_is next _ _ B2).mono ?_)); rintro e w' ⟨rfl, rfl⟩)
        go_ret2
        exact ⟨rfl, Below.refl _ _⟩

theorem rise_off {a n : Int} {f : L4.Fd} {t : List L4.Fd} (h : f.o < a ∨ n ≤ f.o) : riseB a n (f :: t) = false := by
  cases hb : riseB a n (f :: t)
  · rfl
  · have := rise_cons.1 hb; omega
theorem rise_on {a n : Int} {f : L4.Fd} {t : List L4.Fd} (h1 : a ≤ f.o) (h2 : f.o < n) : riseB a n (f :: t) = riseB (f.o + 1) n t := by
  show (decide (a ≤ f.o) && decide (f.o < n) && riseB (f.o + 1) n t) = _
  simp [h1, h2]

theorem pre_next {base : Int} {l : List L4.Fd} {k : Nat} {o : Int} {r : R} (h : l[k]? = some ⟨o, r⟩) : (k + 1 = 0 → o + 1 = base) ∧ ∀ j, k + 1 = j + 1 → ∃ f, l[j]? = some f ∧ o + 1 = f.o + 1 :=
  ⟨fun e => by omega, fun j e => by obtain rfl : j = k := by omega
                                    exact ⟨_, h, rfl⟩⟩

set_option maxRecDepth 100000 in
set_option maxHeartbeats 8000000 in
theorem rload_run (base next : Int) (A : Option Addr) (l : List L4.Fd) (cap B : Nat) (b3 : Bool) (x : Int) (w : World) (hR : Hid (ReadsF w B A l)) (hB : B ≤ w.heap.size) (hl : l.length ≤ 64) (hs : Hid (∀ f ∈ l, f.r.key.size ≤ maxLen ∧ f.r.val.size ≤ maxLen))
    (B1 : Hid (numB base = true)) (B2 : Hid (numB next = true)) (h3 : ¬ next < base) (B3 : Hid (riseB base next l = b3)) (HX : Hid ((if b3 = true then chkL (l.map (·.r)) else 1) = x)) (hA : Hid (∃ ga, A = some ⟨ga, 0, none⟩ ∧ ga < w.heap.size ∧ At w ga 0 (rowF l))) :
    Calls Try.prog 50 #[.int .i64 base, .int .i64 next, .slice A l.length cap] w (NewP 109 w x base next l) := by
  obtain ⟨z1, z2⟩ := num_bounds B1.out
  obtain ⟨z3, z4⟩ := num_bounds B2.out
  have h4' : ¬ (64 : Int) < (l.length : Int) := by omega
  go_enter Try.func50, Try.ntmps50
  go_wp2_with (go_at_call 66; (first | (with_reducible refine (num_is base _ _ B1).mono ?_) | (with_reducible refine (num_is next _ _ B2).mono ?_)); rintro e w' ⟨rfl, rfl⟩)
  go_loopw [8] (fun i wr => ∃ (k : Nat) (a : Int), k ≤ l.length ∧ i = .int .i64 k ∧ base ≤ a ∧ Hid (riseB a next (l.drop k) = b3) ∧ Hid ((k = 0 → a = base) ∧ ∀ j, k = j + 1 → ∃ f, l[j]? = some f ∧ a = f.o + 1) ∧ Below w.heap.size w wr) (fun i _ => l.length - (intOf i).toNat)
  case atStart => exact ⟨0, base, by omega, rfl, Int.le_refl _, by simpa using B3, Lib.hid ⟨fun _ => rfl, fun j e => by omega⟩, Below.refl _ _⟩
  case round =>
    obtain ⟨k, a, hk, rfl, hba, hb, hpre, hbel⟩ := hrel
    by_cases hlt : k < l.length
    · obtain ⟨g, rfl, hg, hcells⟩ := hR.out (by omega)
      obtain ⟨⟨o, r⟩, hf⟩ : ∃ s, l[k]? = some s := ⟨_, List.getElem?_eq_getElem hlt⟩
      have d0 := (hbel.cell (p := ⟨g, k * 5, none⟩) (by show g < _; omega)).trans (hcells k _ hf).1
      have hdr : l.drop k = ⟨o, r⟩ :: l.drop (k + 1) := by
        obtain ⟨h1, h2⟩ := List.getElem?_eq_some_iff.1 hf
        rw [List.drop_eq_getElem_cons h1, h2]
      have HF := Lib.hid hf
      have HDR := Lib.hid hdr
      dsimp only at d0
      have k0 : (0 : Int) ≤ (k : Int) := by omega
      have k1 : (k : Int) < (l.length : Int) := by omega
      have HBA : (o < a ∨ next ≤ o) → Hid (b3 = false) := fun h => Lib.hid (by rw [← hb.out, HDR.out]; exact rise_off h)
      clear hf hdr
      by_cases hz : k = 0
      · have hpa : a = base := hpre.out.1 hz
        have kz : decide ((0 : Int) < (k : Int)) = false := decide_eq_false (by omega)
        have kz2 : decide (0 < k) = false := decide_eq_false (by omega)
        clear hcells hz hlt
        by_cases c1 : o < base
        · have t1 : decide (o < base) = true := decide_eq_true c1
          have HBF := HBA (.inl (by omega))
          clear hpa HBA
          have hx := HX.out
          rw [HBF.out, if_neg (by simp)] at hx
          subst hx
          go_wp2_with fail
          go_quiet (fail)
          go_wp2_with fail
          go_ret2
          exact ⟨drewN_below hbel _, .inl ⟨by decide, rfl⟩⟩
        · by_cases c2 : next ≤ o
          · have t1 : decide (o < base) = false := decide_eq_false c1
            have t2 : decide (next ≤ o) = true := decide_eq_true c2
            have HBF := HBA (.inr c2)
            clear hpa HBA
            have hx := HX.out
            rw [HBF.out, if_neg (by simp)] at hx
            subst hx
            go_wp2_with fail
            go_quiet (fail)
            go_wp2_with fail
            go_ret2
            exact ⟨drewN_below hbel _, .inl ⟨by decide, rfl⟩⟩
          · have t1 : decide (o < base) = false := decide_eq_false c1
            have t2 : decide (next ≤ o) = false := decide_eq_false c2
            clear HBA
            have c2' : o < next := by omega
            have HNX : Hid (riseB (o + 1) next (l.drop (k + 1)) = b3) := Lib.hid (by rw [← hb.out, HDR.out]; exact (rise_on (f := ⟨o, r⟩) (by show a ≤ o; omega) c2').symm)
            clear hpa
            go_wp2_with fail
            go_quiet (fail)
            go_wp2_with fail
            go_roundw
            case rel => exact ⟨k + 1, o + 1, by omega, by go_num, by omega, HNX, Lib.hid (pre_next HF.out), drewN_below hbel _⟩
            case measure => simp [intOf]; omega
      · obtain ⟨j, hj⟩ : ∃ j, k = j + 1 := ⟨k - 1, by omega⟩
        obtain ⟨⟨po, pr⟩, hpf, hpa⟩ := hpre.out.2 j hj
        dsimp only at hpa
        have p0 := (hbel.cell (p := ⟨g, j * 5, none⟩) (by show g < _; omega)).trans (hcells j _ hpf).1
        dsimp only at p0
        have j0 : (0 : Int) ≤ (j : Int) := by omega
        have j1 : (j : Int) < (l.length : Int) := by omega
        have k3 : decide ((0 : Int) < (k : Int)) = true := decide_eq_true (by omega)
        have k4 : decide (0 < k) = true := decide_eq_true (by omega)
        have e1 : wrap64 ((k : Int) - 1) = (j : Int) := by simp only [wrap64]; omega
        have e2 : ((k : Int) - 1) = (j : Int) := by omega
        have e3 : (1 : Int) ≤ (k : Int) := by omega
        have e4 : 1 ≤ k := by omega
        clear hcells hpf hz hj hlt
        by_cases c1 : o < base
        · have t1 : decide (o < base) = true := decide_eq_true c1
          have HBF := HBA (.inl (by omega))
          clear hpa HBA
          have hx := HX.out
          rw [HBF.out, if_neg (by simp)] at hx
          subst hx
          go_wp2_with fail
          go_quiet (fail)
          go_wp2_with fail
          go_ret2
          exact ⟨drewN_below hbel _, .inl ⟨by decide, rfl⟩⟩
        · by_cases c2 : next ≤ o
          · have t1 : decide (o < base) = false := decide_eq_false c1
            have t2 : decide (next ≤ o) = true := decide_eq_true c2
            have HBF := HBA (.inr c2)
            clear hpa HBA
            have hx := HX.out
            rw [HBF.out, if_neg (by simp)] at hx
            subst hx
            go_wp2_with fail
            go_quiet (fail)
            go_wp2_with fail
            go_ret2
            exact ⟨drewN_below hbel _, .inl ⟨by decide, rfl⟩⟩
          · by_cases c3 : o ≤ po
            · have t1 : decide (o < base) = false := decide_eq_false c1
              have t2 : decide (next ≤ o) = false := decide_eq_false c2
              have t3 : decide (o ≤ po) = true := decide_eq_true c3
              have HBF := HBA (.inl (by omega))
              clear hpa HBA
              have hx := HX.out
              rw [HBF.out, if_neg (by simp)] at hx
              subst hx
              go_wp2_with fail
              go_quiet (fail)
              go_wp2_with fail
              go_ret2
              exact ⟨drewN_below hbel _, .inl ⟨by decide, rfl⟩⟩
            · have t1 : decide (o < base) = false := decide_eq_false c1
              have t2 : decide (next ≤ o) = false := decide_eq_false c2
              have t3 : decide (o ≤ po) = false := decide_eq_false c3
              clear HBA
              have c2' : o < next := by omega
              have HNX : Hid (riseB (o + 1) next (l.drop (k + 1)) = b3) := Lib.hid (by rw [← hb.out, HDR.out]; exact (rise_on (f := ⟨o, r⟩) (by show a ≤ o; omega) c2').symm)
              clear hpa
              go_wp2_with fail
              go_quiet (fail)
              go_wp2_with fail
              go_roundw
              case rel => exact ⟨k + 1, o + 1, by omega, by go_num, by omega, HNX, Lib.hid (pre_next HF.out), drewN_below hbel _⟩
              case measure => simp [intOf]; omega
    · obtain rfl : k = l.length := by omega
      have hbt : b3 = true := by rw [← hb.out, List.drop_length]; rfl
      have hx := HX.out
      rw [hbt, if_pos rfl] at hx
      have HXX := Lib.hid hx
      clear hx hb hpre hba
      go_wp2_with fail
      go_loopw [9] (fun i wr => ∃ k : Nat, k ≤ l.length ∧ i = .int .i64 k ∧ Below w.heap.size w wr ∧ Hid (chkL ((l.drop k).map (·.r)) = x)) (fun i _ => l.length - (intOf i).toNat)
      case atStart => exact ⟨0, by omega, rfl, hbel, by simpa using HXX⟩
      case round =>
        obtain ⟨k, hk, rfl, hbel, hX⟩ := hrel
        by_cases hlt : k < l.length
        · obtain ⟨g, rfl, hg, hcells⟩ := hR.out (by omega)
          obtain ⟨⟨o, ⟨rk, key, tb, val⟩⟩, hr⟩ : ∃ s, l[k]? = some s := ⟨l[k], List.getElem?_eq_getElem hlt⟩
          obtain ⟨q1, q2⟩ := hs.out _ (List.mem_of_getElem? hr)
          have Q1 := Lib.hid q1
          have Q2 := Lib.hid q2
          obtain ⟨c0, c1, c2, c3, c4⟩ := hcells k _ hr
          have d1 := (hbel.cell (p := ⟨g, k * 5 + 1, none⟩) (by show g < _; omega)).trans c1
          have d2 := (hbel.cell (p := ⟨g, k * 5 + 2, none⟩) (by show g < _; omega)).trans c2
          have d3 := (hbel.cell (p := ⟨g, k * 5 + 3, none⟩) (by show g < _; omega)).trans c3
          have d4 := (hbel.cell (p := ⟨g, k * 5 + 4, none⟩) (by show g < _; omega)).trans c4
          have k0 : (0 : Int) ≤ (k : Int) := by omega
          have k1 : (k : Int) < (l.length : Int) := by omega
          obtain ⟨y, hy⟩ : ∃ y, chk rk key tb val = y := ⟨_, rfl⟩
          have hnext := chkF_next (y := y) hr hy
          have HY := Lib.hid hy
          clear c0 c1 c2 c3 c4 hcells hr hy q1 q2
          dsimp only at d1 d2 d3 d4 Q1 Q2
          by_cases hy0 : y = 0
          · subst hy0
            have hX' : Hid (chkL ((l.drop (k + 1)).map (·.r)) = x) := Lib.hid ((hnext.2 rfl).symm.trans hX.out)
            clear hnext
            go_wp2_with (go_at_call 30; refine (refcheck_any _ _ _ _ _ Q1.out Q2.out).mono ?_; rw [HY.out]; rintro e w1 ⟨rfl, hb1⟩)
            go_roundw
            case rel => exact ⟨k + 1, by omega, by go_num, hbel.trans (hb1.mono hbel.size), hX'⟩
            case measure => simp [intOf]; omega
          · have hy1 : (y != 0) = true := by simpa using hy0
            obtain rfl : x = y := hX.out.symm.trans (hnext.1 hy0)
            have HN0 := Lib.hid hy0
            clear hnext hy0
            go_wp2_with (go_at_call 30; refine (refcheck_any _ _ _ _ _ Q1.out Q2.out).mono ?_; rw [HY.out]; rintro e w1 ⟨rfl, hb1⟩)
            go_ret2
            exact ⟨hbel.trans (hb1.mono hbel.size), .inl ⟨HN0.out, rfl⟩⟩
        · obtain rfl : k = l.length := by omega
          have hx0 : x = 0 := by have := hX.out; rw [List.drop_length] at this; exact this.symm
          subst hx0
          obtain ⟨ga, rfl, hga, hat⟩ := hA.out
          obtain ⟨i0, hi0, hz0, hz1, hz2⟩ := info_parts fdInfo
          have HL : Hid ((rowF l).length = l.length * 5) := Lib.hid (rowF_len l)
          have H1 := Lib.hid (rowF_one l)
          have HAT := Lib.hid (hat.below hbel hga)
          have hz := hbel.size
          clear hat
          go_wp2_with (at_builtin; refine wpList_append_own _ rfl (.tmp 86) (.tmp 87) 36 (by rfl) wr.heap.size 43 i0 _ 5 56 Try.underlying36 hi0 hz0 hz1 hz2 rfl (by omega) _ 0 [] (by rfl) (World.ownsRow_made wr #[] 0 (Nat.le_refl _) (by unfold maxLen; omega) rfl) ⟨ga, 0, none⟩ l.length cap (rowF l) (by rfl) HL.out (HAT.out.below (one_box _) (by omega)) H1.out (by unfold maxLen; omega) (by omega) (by simp) ?_; intro v1 w1 hown hgrow hnil; have hown' : w1.ownsRow wr.heap.size 43 5 v1 l.length (rowF l) := (by simpa using hown); clear hown hnil; obtain ⟨A1, c1, rfl⟩ := own_form hown')
          go_ret2
          have hb1 : Below wr.heap.size wr w1 := (one_box _).grown hgrow (by simp) (fun j e => by simp [Value.ownBlock] at e; omega)
          have hl1 := hown'.lt
          rw [ownBlock_blk] at hl1
          refine ⟨hbel.trans ((hb1.alloc hb1.size _).mono hz), .inr ⟨rfl, w1.heap.size, A1, c1, rfl, ⟨heap_alloc_new _ _, (own_low hown' (Nat.zero_le _)).alloc _, fun e => ?_⟩, Nat.le_trans hz hb1.size, fun j e => Nat.le_trans hz (hl1 j e).1⟩⟩
          have := (hl1 _ e).2
          omega

theorem rload_is (base next : Int) (A : Option Addr) (l : List L4.Fd) (cap B : Nat) (x : Int) (w : World) (hR : Hid (ReadsF w B A l)) (hB : B ≤ w.heap.size) (hl : l.length ≤ maxLen) (hs : Hid (∀ f ∈ l, f.r.key.size ≤ maxLen ∧ f.r.val.size ≤ maxLen)) (HX : Hid (loadE base next l = x)) (hA : Hid (∃ ga, A = some ⟨ga, 0, none⟩ ∧ ga < w.heap.size ∧ At w ga 0 (rowF l))) :
    Calls Try.prog 50 #[.int .i64 base, .int .i64 next, .slice A l.length cap] w (NewP 109 w x base next l) := by
  by_cases hc : numB base = false ∨ numB next = false ∨ next < base ∨ 64 < l.length
  · have hx := HX.out
    rw [load_no (by rcases hc with h | h | h | h <;> simp [h])] at hx
    subst hx
    refine (rload_num base next A l cap w hl (Lib.hid hc)).mono ?_
    rintro e w' ⟨rfl, hb⟩
    exact ⟨hb, .inl ⟨by decide, rfl⟩⟩
  · have h1 : numB base = true := by cases h : numB base; exact absurd (.inl h) hc; rfl
    have h2 : numB next = true := by cases h : numB next; exact absurd (.inr (.inl h)) hc; rfl
    have h3 : ¬ next < base := fun h => hc (.inr (.inr (.inl h)))
    have h4 : ¬ 64 < l.length := fun h => hc (.inr (.inr (.inr h)))
    refine rload_run base next A l cap B _ x w hR hB (by omega) hs (Lib.hid h1) (Lib.hid h2) h3 (Lib.hid rfl) (Lib.hid ?_) hA
    rw [← HX.out]
    cases h5 : riseB base next l
    · rw [if_neg (by simp), load_no (.inr (.inr (.inr (.inr h5))))]
    · rw [if_pos rfl, load_ok h1 h2 (by omega) (by omega) h5]
end Go.Proofs.Ytflcggpeflagiaa.L5
