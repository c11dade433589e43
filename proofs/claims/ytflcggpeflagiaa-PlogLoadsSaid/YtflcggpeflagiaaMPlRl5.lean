/-
  Contracts: the document's segment of records that are there already, perhaps none.
-/
import Derived.Test.YtflcggpeflagiaaMPlRef
import Derived.Test.YtflcggpeflagiaaPlRapp
import Derived.Test.YtflcggpeflagiaaMPlSame
import Derived.Test.YtflcggpeflagiaaPlOps
namespace Go.Proofs.Ytflcggpeflagiaa.L6
open Go.RowKit
open L3 L4 L5

set_option maxRecDepth 100000 in
set_option maxHeartbeats 8000000 in
theorem rload5_run (base next : Int) (A : Option Addr) (l : List L4.Fd) (cap B : Nat) (b3 : Bool) (x : Int) (w : World) (hR : Hid (ReadsF w B A l)) (hB : B ≤ w.heap.size) (hl : l.length ≤ 64) (hs : Hid (∀ f ∈ l, f.r.key.size ≤ maxLen ∧ f.r.val.size ≤ maxLen))
    (B1 : Hid (numB base = true)) (B2 : Hid (numB next = true)) (h3 : ¬ next < base) (B3 : Hid (riseB base next l = b3)) (HX : Hid ((if b3 = true then chkL (l.map (·.r)) else 1) = x)) (hA : Hid (w.ownsRow 0 43 5 (.slice A l.length cap) l.length (rowF l))) :
    Calls Try.prog 50 #[.int .i64 base, .int .i64 next, .slice A l.length cap] w (NewP 109 w x base next l) := by
  obtain ⟨z1, z2⟩ := num_bounds B1.out
  obtain ⟨z3, z4⟩ := num_bounds B2.out
  have h4' : ¬ (64 : Int) < (l.length : Int) := by omega
  go_enter Try.func50, Try.ntmps50
  go_wp2_with (go_at_call 66; (first | (with_reducible refine (num_is base _ _ B1).mono ?_) | (with_reducible refine (num_is next _ _ B2).mono ?_)); rintro e w' ⟨rfl, rfl⟩)
  go_loopw [8] (fun i wr => ∃ (k : Nat) (a : Int), k ≤ l.length ∧ i = .int .i64 k ∧ base ≤ a ∧ Hid (riseB a next (l.drop k) = b3) ∧ Hid ((k = 0 → a = base) ∧ ∀ j, k = j + 1 → ∃ f, l[j]? = some f ∧ a = f.o + 1) ∧ Below w.heap.size w wr) (fun i _ => l.length - (intOf i).toNat)
  case atStart => exact ⟨0, base, by omega, rfl, Int.le_refl _, by simpa using B3, Lib.hid ⟨fun _ => rfl, fun j e => by omega⟩, Below.refl _ _⟩
  case round =>
    obtain ⟨k, a, hk, rfl, hba, hb, hpre, hbel⟩ := hrel
    by_cases hlt : k < l.length
    · obtain ⟨g, rfl, hg, hcells⟩ := hR.out (by omega)
      obtain ⟨⟨o, r⟩, hf⟩ : ∃ s, l[k]? = some s := ⟨_, List.getElem?_eq_getElem hlt⟩
      have d0 := (hbel.cell (p := ⟨g, k * 5, none⟩) (by show g < _; omega)).trans (hcells k _ hf).1
      have hdr : l.drop k = ⟨o, r⟩ :: l.drop (k + 1) := by
        obtain ⟨h1, h2⟩ := List.getElem?_eq_some_iff.1 hf
        rw [List.drop_eq_getElem_cons h1, h2]
      have HF := Lib.hid hf
      have HDR := Lib.hid hdr
      dsimp only at d0
      have k0 : (0 : Int) ≤ (k : Int) := by omega
      have k1 : (k : Int) < (l.length : Int) := by omega
      have HBA : (o < a ∨ next ≤ o) → Hid (b3 = false) := fun h => Lib.hid (by rw [← hb.out, HDR.out]; exact rise_off h)
      clear hf hdr
      by_cases hz : k = 0
      · have hpa : a = base := hpre.out.1 hz
        have kz : decide ((0 : Int) < (k : Int)) = false := decide_eq_false (by omega)
        have kz2 : decide (0 < k) = false := decide_eq_false (by omega)
        clear hcells hz hlt
        by_cases c1 : o < base
        · have t1 : decide (o < base) = true := decide_eq_true c1
          have HBF := HBA (.inl (by omega))
          clear hpa HBA
          have hx := HX.out
          rw [HBF.out, if_neg (by simp)] at hx
          subst hx
          go_wp2_with fail
          go_quiet (fail)
          go_wp2_with fail
          go_ret2
          exact ⟨drewN_below hbel _, .inl ⟨by decide, rfl⟩⟩
        · by_cases c2 : next ≤ o
          · have t1 : decide (o < base) = false := decide_eq_false c1
            have t2 : decide (next ≤ o) = true := decide_eq_true c2
            have HBF := HBA (.inr c2)
            clear hpa HBA
            have hx := HX.out
            rw [HBF.out, if_neg (by simp)] at hx
            subst hx
            go_wp2_with fail
            go_quiet (fail)
            go_wp2_with fail
            go_ret2
            exact ⟨drewN_below hbel _, .inl ⟨by decide, rfl⟩⟩
          · have t1 : decide (o < base) = false := decide_eq_false c1
            have t2 : decide (next ≤ o) = false := decide_eq_false c2
            clear HBA
            have c2' : o < next := by omega
            have HNX : Hid (riseB (o + 1) next (l.drop (k + 1)) = b3) := Lib.hid (by rw [← hb.out, HDR.out]; exact (rise_on (f := ⟨o, r⟩) (by show a ≤ o; omega) c2').symm)
            clear hpa
            go_wp2_with fail
            go_quiet (fail)
            go_wp2_with fail
            go_roundw
            case rel => exact ⟨k + 1, o + 1, by omega, by go_num, by omega, HNX, Lib.hid (pre_next HF.out), drewN_below hbel _⟩
            case measure => simp [intOf]; omega
      · obtain ⟨j, hj⟩ : ∃ j, k = j + 1 := ⟨k - 1, by omega⟩
        obtain ⟨⟨po, pr⟩, hpf, hpa⟩ := hpre.out.2 j hj
        dsimp only at hpa
        have p0 := (hbel.cell (p := ⟨g, j * 5, none⟩) (by show g < _; omega)).trans (hcells j _ hpf).1
        dsimp only at p0
        have j0 : (0 : Int) ≤ (j : Int) := by omega
        have j1 : (j : Int) < (l.length : Int) := by omega
        have k3 : decide ((0 : Int) < (k : Int)) = true := decide_eq_true (by omega)
        have k4 : decide (0 < k) = true := decide_eq_true (by omega)
        have e1 : wrap64 ((k : Int) - 1) = (j : Int) := by simp only [wrap64]; omega
        have e2 : ((k : Int) - 1) = (j : Int) := by omega
        have e3 : (1 : Int) ≤ (k : Int) := by omega
        have e4 : 1 ≤ k := by omega
        clear hcells hpf hz hj hlt
        by_cases c1 : o < base
        · have t1 : decide (o < base) = true := decide_eq_true c1
          have HBF := HBA (.inl (by omega))
          clear hpa HBA
          have hx := HX.out
          rw [HBF.out, if_neg (by simp)] at hx
          subst hx
          go_wp2_with fail
          go_quiet (fail)
          go_wp2_with fail
          go_ret2
          exact ⟨drewN_below hbel _, .inl ⟨by decide, rfl⟩⟩
        · by_cases c2 : next ≤ o
          · have t1 : decide (o < base) = false := decide_eq_false c1
            have t2 : decide (next ≤ o) = true := decide_eq_true c2
            have HBF := HBA (.inr c2)
            clear hpa HBA
            have hx := HX.out
            rw [HBF.out, if_neg (by simp)] at hx
            subst hx
            go_wp2_with fail
            go_quiet (fail)
            go_wp2_with fail
            go_ret2
            exact ⟨drewN_below hbel _, .inl ⟨by decide, rfl⟩⟩
          · by_cases c3 : o ≤ po
            · have t1 : decide (o < base) = false := decide_eq_false c1
              have t2 : decide (next ≤ o) = false := decide_eq_false c2
              have t3 : decide (o ≤ po) = true := decide_eq_true c3
              have HBF := HBA (.inl (by omega))
              clear hpa HBA
              have hx := HX.out
              rw [HBF.out, if_neg (by simp)] at hx
              subst hx
              go_wp2_with fail
              go_quiet (fail)
              go_wp2_with fail
              go_ret2
              exact ⟨drewN_below hbel _, .inl ⟨by decide, rfl⟩⟩
            · have t1 : decide (o < base) = false := decide_eq_false c1
              have t2 : decide (next ≤ o) = false := decide_eq_false c2
              have t3 : decide (o ≤ po) = false := decide_eq_false c3
              clear HBA
              have c2' : o < next := by omega
              have HNX : Hid (riseB (o + 1) next (l.drop (k + 1)) = b3) := Lib.hid (by rw [← hb.out, HDR.out]; exact (rise_on (f := ⟨o, r⟩) (by show a ≤ o; omega) c2').symm)
              clear hpa
              go_wp2_with fail
              go_quiet (fail)
              go_wp2_with fail
              go_roundw
              case rel => exact ⟨k + 1, o + 1, by omega, by go_num, by omega, HNX, Lib.hid (pre_next HF.out), drewN_below hbel _⟩
              case measure => simp [intOf]; omega
    · obtain rfl : k = l.length := by omega
      have hbt : b3 = true := by rw [← hb.out, List.drop_length]; rfl
      have hx := HX.out
      rw [hbt, if_pos rfl] at hx
      have HXX := Lib.hid hx
      clear hx hb hpre hba
      go_wp2_with fail
      go_loopw [9] (fun i wr => ∃ k : Nat, k ≤ l.length ∧ i = .int .i64 k ∧ Below w.heap.size w wr ∧ Hid (chkL ((l.drop k).map (·.r)) = x)) (fun i _ => l.length - (intOf i).toNat)
      case atStart => exact ⟨0, by omega, rfl, hbel, by simpa using HXX⟩
      case round =>
        obtain ⟨k, hk, rfl, hbel, hX⟩ := hrel
        by_cases hlt : k < l.length
        · obtain ⟨g, rfl, hg, hcells⟩ := hR.out (by omega)
          obtain ⟨⟨o, ⟨rk, key, tb, val⟩⟩, hr⟩ : ∃ s, l[k]? = some s := ⟨l[k], List.getElem?_eq_getElem hlt⟩
          obtain ⟨q1, q2⟩ := hs.out _ (List.mem_of_getElem? hr)
          have Q1 := Lib.hid q1
          have Q2 := Lib.hid q2
          obtain ⟨c0, c1, c2, c3, c4⟩ := hcells k _ hr
          have d1 := (hbel.cell (p := ⟨g, k * 5 + 1, none⟩) (by show g < _; omega)).trans c1
          have d2 := (hbel.cell (p := ⟨g, k * 5 + 2, none⟩) (by show g < _; omega)).trans c2
          have d3 := (hbel.cell (p := ⟨g, k * 5 + 3, none⟩) (by show g < _; omega)).trans c3
          have d4 := (hbel.cell (p := ⟨g, k * 5 + 4, none⟩) (by show g < _; omega)).trans c4
          have k0 : (0 : Int) ≤ (k : Int) := by omega
          have k1 : (k : Int) < (l.length : Int) := by omega
          obtain ⟨y, hy⟩ : ∃ y, chk rk key tb val = y := ⟨_, rfl⟩
          have hnext := chkF_next (y := y) hr hy
          have HY := Lib.hid hy
          clear c0 c1 c2 c3 c4 hcells hr hy q1 q2
          dsimp only at d1 d2 d3 d4 Q1 Q2
          by_cases hy0 : y = 0
          · subst hy0
            have hX' : Hid (chkL ((l.drop (k + 1)).map (·.r)) = x) := Lib.hid ((hnext.2 rfl).symm.trans hX.out)
            clear hnext
            go_wp2_with (go_at_call 30; refine (refcheck_any _ _ _ _ _ Q1.out Q2.out).mono ?_; rw [HY.out]; rintro e w1 ⟨rfl, hb1⟩)
            go_roundw
            case rel => exact ⟨k + 1, by omega, by go_num, hbel.trans (hb1.mono hbel.size), hX'⟩
            case measure => simp [intOf]; omega
          · have hy1 : (y != 0) = true := by simpa using hy0
            obtain rfl : x = y := hX.out.symm.trans (hnext.1 hy0)
            have HN0 := Lib.hid hy0
            clear hnext hy0
            go_wp2_with (go_at_call 30; refine (refcheck_any _ _ _ _ _ Q1.out Q2.out).mono ?_; rw [HY.out]; rintro e w1 ⟨rfl, hb1⟩)
            go_ret2
            exact ⟨hbel.trans (hb1.mono hbel.size), .inl ⟨HN0.out, rfl⟩⟩
        · obtain rfl : k = l.length := by omega
          have hx0 : x = 0 := by have := hX.out; rw [List.drop_length] at this; exact this.symm
          subst hx0
          obtain ⟨i0, hi0, hz0, hz1, hz2⟩ := info_parts fdInfo
          have HAT := Lib.hid (own_below hA.out hbel)
          have hz := hbel.size
          go_wp2_with (at_builtin; refine wpList_append_src rfl (.tmp 86) (.tmp 87) 36 (by rfl) wr.heap.size 43 i0 _ 5 56 Try.underlying36 hi0 hz0 hz1 hz2 rfl (by omega) _ 0 [] (by rfl) (World.ownsRow_made wr #[] 0 (Nat.le_refl _) (by unfold maxLen; omega) rfl) 0 A l.length cap (rowF l) (by rfl) (HAT.out.alloc _) (rowF_one l) (by unfold maxLen; omega) (by omega) (by simp) ?_; intro v1 w1 hown hgrow; have hown' : w1.ownsRow wr.heap.size 43 5 v1 l.length (rowF l) := (by simpa using hown); clear hown; obtain ⟨A1, c1, rfl⟩ := own_form hown')
          go_ret2
          have hb1 : Below wr.heap.size wr w1 := (one_box _).grown hgrow (by simp) (fun j e => by simp [Value.ownBlock] at e; omega)
          have hl1 := hown'.lt
          rw [ownBlock_blk] at hl1
          refine ⟨hbel.trans ((hb1.alloc hb1.size _).mono hz), .inr ⟨rfl, w1.heap.size, A1, c1, rfl, ⟨heap_alloc_new _ _, (own_low hown' (Nat.zero_le _)).alloc _, fun e => ?_⟩, Nat.le_trans hz hb1.size, fun j e => Nat.le_trans hz (hl1 j e).1⟩⟩
          have := (hl1 _ e).2
          omega

theorem rload5_is (base next : Int) (A : Option Addr) (l : List L4.Fd) (cap B : Nat) (x : Int) (w : World) (hR : Hid (ReadsF w B A l)) (hB : B ≤ w.heap.size) (hl : l.length ≤ maxLen) (hs : Hid (∀ f ∈ l, f.r.key.size ≤ maxLen ∧ f.r.val.size ≤ maxLen)) (HX : Hid (loadE base next l = x)) (hA : Hid (w.ownsRow 0 43 5 (.slice A l.length cap) l.length (rowF l))) :
    Calls Try.prog 50 #[.int .i64 base, .int .i64 next, .slice A l.length cap] w (NewP 109 w x base next l) := by
  by_cases hc : numB base = false ∨ numB next = false ∨ next < base ∨ 64 < l.length
  · have hx := HX.out
    rw [load_no (by rcases hc with h | h | h | h <;> simp [h])] at hx
    subst hx
    refine (rload_num base next A l cap w hl (Lib.hid hc)).mono ?_
    rintro e w' ⟨rfl, hb⟩
    exact ⟨hb, .inl ⟨by decide, rfl⟩⟩
  · have h1 : numB base = true := by cases h : numB base; exact absurd (.inl h) hc; rfl
    have h2 : numB next = true := by cases h : numB next; exact absurd (.inr (.inl h)) hc; rfl
    have h3 : ¬ next < base := fun h => hc (.inr (.inr (.inl h)))
    have h4 : ¬ 64 < l.length := fun h => hc (.inr (.inr (.inr h)))
    refine rload5_run base next A l cap B _ x w hR hB (by omega) hs (Lib.hid h1) (Lib.hid h2) h3 (Lib.hid rfl) (Lib.hid ?_) hA
    rw [← HX.out]
    cases h5 : riseB base next l
    · rw [if_neg (by simp), load_no (.inr (.inr (.inr (.inr h5))))]
    · rw [if_pos rfl, load_ok h1 h2 (by omega) (by omega) h5]
end Go.Proofs.Ytflcggpeflagiaa.L6
/-
  The document's log of segments that are there already.
-/
namespace Go.Proofs.Ytflcggpeflagiaa.L6
open Go.RowKit
open L3 L4 L5

theorem rload5_no {w : World} (b n : Int) (A : Option Addr) (c m B : Nat) (y : Int) {L : List L4.Fd} (hR : Hid (ReadsF w B A L)) (hB : B ≤ w.heap.size) (hm : L.length = m) (hl : m ≤ maxLen) (hs : Hid (∀ f ∈ L, f.r.key.size ≤ maxLen ∧ f.r.val.size ≤ maxLen)) (HX : Hid (loadE b n L = y)) (hy : y ≠ 0) (hO : Hid (w.ownsRow 0 43 5 (.slice A m c) m (rowF L))) :
    Calls Try.prog 50 #[.int .i64 b, .int .i64 n, .slice A m c] w fun e w' => e = .returned (.tuple #[.pointer none, .int .i64 y]) ∧ Below w.heap.size w w' := by
  subst hm
  refine (rload5_is b n A L c B y w hR hB hl hs HX hO).mono ?_
  rintro e W' ⟨h, ⟨_, rfl⟩ | ⟨h0, _⟩⟩
  · exact ⟨rfl, h⟩
  · exact absurd h0 hy
theorem rload5_yes {w : World} (b n : Int) (A : Option Addr) (c m B : Nat) {L : List L4.Fd} (hR : Hid (ReadsF w B A L)) (hB : B ≤ w.heap.size) (hm : L.length = m) (hl : m ≤ maxLen) (hs : Hid (∀ f ∈ L, f.r.key.size ≤ maxLen ∧ f.r.val.size ≤ maxLen)) (HX : Hid (loadE b n L = 0)) (hO : Hid (w.ownsRow 0 43 5 (.slice A m c) m (rowF L))) :
    Calls Try.prog 50 #[.int .i64 b, .int .i64 n, .slice A m c] w fun e w' => ∃ g, e = .returned (.tuple #[.pointer (some ⟨g, 0, none⟩), .int .i64 0]) ∧ Below w.heap.size w w' := by
  subst hm
  refine (rload5_is b n A L c B 0 w hR hB hl hs HX hO).mono ?_
  rintro e W' ⟨h, ⟨hx, _⟩ | ⟨_, g, A, cap, rfl, _⟩⟩
  · exact absurd rfl hx
  · exact ⟨g, rfl, h⟩
/-- a document's log on its way -/
structure LoadD (w wr : World) (rm kb : Nat) (l : List Sa) (x : Int) (k : Nat) (Q : Option Addr) (cap : Nat) (ss : List Sa) : Prop where
  len : ss.length = k
  same : ss.map Sa.s = (l.take k).map Sa.s
  log : RLog wr rm kb Q cap ss
  since : ∀ b ∈ rblocks kb Q ss, w.heap.size ≤ b
  old : Below w.heap.size w wr
  err : loadG rm (prevN l k) ((l.drop k).map Sa.s) = x
theorem LoadD.below {w wr w' : World} {rm kb k cap : Nat} {l : List Sa} {x : Int} {Q : Option Addr} {ss : List Sa} (r : LoadD w wr rm kb l x k Q cap ss) (b : Below wr.heap.size wr w') : LoadD w w' rm kb l x k Q cap ss :=
  ⟨r.len, r.same, r.log.below b, r.since, acc r.old b, r.err⟩
/-- ahead of a further one: it fits -/
structure LoadN (w wr : World) (rm kb : Nat) (l : List Sa) (x : Int) (k : Nat) (Q : Option Addr) (cap : Nat) (ss : List Sa) (s : Sa) : Prop where
  it : LoadD w wr rm kb l x k Q cap ss
  at_ : l[k]? = some s
  next : loadG rm (prevN l (k + 1)) ((l.drop (k + 1)).map Sa.s) = x
theorem LoadN.added {w wr wn w6 : World} {rm kb k cap m c4 gg cc : Nat} {l : List Sa} {x : Int} {Q A4 : Option Addr} {ss : List Sa} {s : Sa} {o : Obj} (r : LoadN w wr rm kb l x k Q cap ss s) (hb : Below wr.heap.size wr wn) (ho4 : wn.ownsRow wr.drew.heap.size 43 5 (.slice A4 m c4) m (rowF s.L)) (ho : w6.ownsRow 0 53 3 (.slice (some ⟨gg, 0, none⟩) (k + 1) cc) (k + 1) (rowS ss ++ [.int .i64 s.b, .int .i64 s.n, .slice A4 m c4])) (hg : (wn.alloc o).grownBy w6 (Value.slice Q k cap).ownBlock) (hat : (Value.slice Q k cap).ownBlock = some gg ∨ gg = wn.heap.size + 1) (hm : s.L.length = m) :
    LoadD w (w6.setCell ⟨kb, 1, none⟩ (.slice (some ⟨gg, 0, none⟩) (k + 1) cc)) rm kb l x (k + 1) (some ⟨gg, 0, none⟩) cc (ss ++ [⟨s.b, s.n, A4, c4, s.L⟩]) ∧ w6.cell? ⟨kb, 1, none⟩ = some (.slice Q k cap) ∧ w6.frozen? ⟨kb, 1, none⟩ = false ∧ Below w.heap.size wr w6 := by
  subst hm
  rw [ownBlock_blk] at hg hat
  have hlog := r.it.log
  have hk := hlog.kLt
  have hz := hb.size
  have h4 := own_blkLt ho4
  have ho3 : Only (blk Q).toList wr w6 := (Only.ofBelow (hb.trans ((one_box (w := wn) o).mono hz))).trans (only_grown hg) (fun j hj => .inl hj)
  have hnk : kb ∉ (blk Q).toList := fun e => hlog.ne (mem_blk.1 e)
  have hat' : ∀ j, blk (some (⟨gg, 0, none⟩ : Addr)) = some j → blk Q = some j ∨ wr.heap.size ≤ j := fun j e => by
    have e' : gg = j := by injection e
    rcases hat with q | q
    · exact .inl (by rw [q, e'])
    · right; omega
  have hA4 : ∀ j, blk A4 = some j → (blk Q).toList = [] ∨ True := fun _ _ => .inr trivial
  have x1 := hlog.c1
  rw [r.it.len] at x1
  have hres := hlog.put (m := k + 1) (ss' := ss ++ [⟨s.b, s.n, A4, c4, s.L⟩]) ho3 (by simp [r.it.len]) (by rw [rowS_app]; exact ho) hat' (fun u hu => by
    rcases List.mem_append.1 hu with q | q
    · exact .inl q
    · rw [List.mem_singleton.1 q]
      refine .inr ⟨own_at (own_low ho4 (Nat.zero_le _)) (fun j e => ?_), fun j e => ⟨(h4 j e).1, fun e2 => ?_⟩⟩
      · rw [ownBlock_blk] at e
        have q1 := (h4 j e).1
        have q2 := (h4 j e).2
        have q1' : wr.heap.size ≤ j := q1
        refine (hg.block j (by rw [World.size_alloc]; omega) (fun q => ?_)).trans (Below.heap_alloc _ _ _ q2)
        have := (hlog.lt j (mem_rblocks.2 (.inr (.inl q.symm))))
        omega
      · have q1' : wr.heap.size ≤ j := (h4 j e).1
        have q2 := (h4 j e).2
        have e' : gg = j := by injection e2
        rcases hat with q | q
        · have := (hlog.lt j (mem_rblocks.2 (.inr (.inl (by rw [q, e'])))))
          omega
        · omega)
  have hlk : l.take (k + 1) = l.take k ++ [s] := by rw [List.take_add_one, r.at_]; rfl
  refine ⟨⟨by rw [List.length_append, r.it.len]; rfl, ?_, hres.1, fun b hbm => ?_, r.it.old.trans (hres.2.1.below r.it.old.size (fun b hb => r.it.since b hb)), r.next⟩, ho3.cell (p := ⟨kb, 1, none⟩) x1 hnk, frozen_of_row _ _ _ _ _ ((ho3.block kb hk hnk).trans hlog.row), ho3.below r.it.old.size (fun j hj => r.it.since j (mem_rblocks.2 (.inr (.inl (mem_blk.1 hj)))))⟩
  · rw [List.map_append, r.it.same, hlk, List.map_append]; rfl
  · rcases hres.2.2 b hbm with q | q
    · exact r.it.since b q
    · exact Nat.le_trans r.it.old.size q
def NewD (w : World) (room : Nat) (x : Int) (l : List Sg) (e : Ending) (w' : World) : Prop :=
  (x ≠ 0 ∧ e = .returned (.tuple #[.pointer none, .int .i64 x]) ∧ Below w.heap.size w w') ∨ (x = 0 ∧ ∃ k D, e = .returned (.tuple #[.pointer (some ⟨k, 0, none⟩), .int .i64 0]) ∧ DocAt w w' room k l D)

set_option maxRecDepth 100000 in
set_option maxHeartbeats 2000000 in
theorem rload6_arg (room : Int) (X : Option Addr) (n xc : Nat) (w : World) (hbad : Hid (room < 1 ∨ 64 < room ∨ n = 0)) :
    Calls Try.prog 22 #[.int .i64 room, .slice X n xc] w fun e w' => e = .returned (.tuple #[.pointer none, .int .i64 1]) ∧ Below w.heap.size w w' := by
  go_enter Try.func22, Try.ntmps22
  by_cases h1 : room < 1
  · go_wp2_with fail
    go_ret2
    exact ⟨rfl, Below.refl _ _⟩
  · by_cases h2 : 64 < room
    · go_wp2_with fail
      go_ret2
      exact ⟨rfl, Below.refl _ _⟩
    · obtain rfl : n = 0 := by have := hbad.out; omega
      go_wp2_with fail
      go_ret2
      exact ⟨rfl, Below.refl _ _⟩

set_option maxRecDepth 100000 in
set_option maxHeartbeats 8000000 in
theorem rload6_run (rm : Nat) (X : Option Addr) (l : List Sa) (n xc B : Nat) (x : Int) (w : World) (hR : Hid (ReadsS w B X l)) (hO : Hid (∀ s ∈ l, w.ownsRow 0 43 5 (.slice s.A s.L.length s.c) s.L.length (rowF s.L))) (hB : B ≤ w.heap.size) (hn : l.length = n) (h1 : 1 ≤ rm) (h64 : rm ≤ 64) (h0 : 0 < n) (hl : n ≤ 900) (hs : Hid (∀ s ∈ l, s.L.length ≤ maxLen ∧ ∀ f ∈ s.L, f.r.key.size ≤ maxLen ∧ f.r.val.size ≤ maxLen)) (HX : Hid (loadG rm none (l.map Sa.s) = x)) :
    Calls Try.prog 22 #[.int .i64 rm, .slice X n xc] w (NewD w rm x (l.map Sa.s)) := by
  obtain ⟨i0, hi0, hz0, hz1, hz2⟩ := info_parts segInfo
  have HN := Lib.hid hn
  have hn0 : ((n : Int) == 0) = false := by simp; omega
  have r1 : ¬ (rm : Int) < 1 := by omega
  have r2 : ¬ (64 : Int) < (rm : Int) := by omega
  clear hn
  go_enter Try.func22, Try.ntmps22
  go_wp2_with fail
  obtain ⟨kb, hkb⟩ : ∃ kb, w.heap.size = kb := ⟨_, rfl⟩
  have LD0 : Hid (LoadD w (w.alloc (.cells #[.int .i64 rm, .slice none 0 0] 58)) rm kb l x 0 none 0 []) := Lib.hid ⟨rfl, rfl, ⟨by rw [← hkb]; exact heap_alloc_new _ _, World.ownsRow_nil _ _ _ _, by simp [blk], fun r hr => (by cases hr)⟩, fun b hb => (by simp [rblocks, blk] at hb; omega), one_box _, HX.out⟩
  rw [hkb]
  clear hkb
  go_loopw [7] (fun i wr => ∃ (k : Nat) (Q : Option Addr) (cap : Nat) (ss : List Sa), k ≤ n ∧ i = .int .i64 k ∧ Hid (LoadD w wr rm kb l x k Q cap ss)) (fun i _ => n - (intOf i).toNat)
  case atStart => exact ⟨0, none, 0, [], by omega, rfl, LD0⟩
  case round =>
    clear LD0
    obtain ⟨k, Q, cap, ss, hk, rfl, hr⟩ := hrel
    have hold := hr.out.old
    by_cases hlt : k < n
    · obtain ⟨xg, rfl, hxg, hcells⟩ := hR.out.1 (by rw [HN.out]; omega)
      obtain ⟨⟨sb, sn, sA, sc, sL⟩, hsg⟩ : ∃ s, l[k]? = some s := ⟨_, List.getElem?_eq_getElem (by rw [HN.out]; exact hlt)⟩
      obtain ⟨c0, c1, c2⟩ := hcells k _ hsg
      have hxw : xg < w.heap.size := Nat.lt_of_lt_of_le hxg hB
      have d0 := (hold.cell (p := ⟨xg, k * 3, none⟩) hxw).trans c0
      have d1 := (hold.cell (p := ⟨xg, k * 3 + 1, none⟩) hxw).trans c1
      have d2 := (hold.cell (p := ⟨xg, k * 3 + 2, none⟩) hxw).trans c2
      have hRF := hR.out.2 _ (List.mem_of_getElem? hsg)
      have hOO := hO.out _ (List.mem_of_getElem? hsg)
      obtain ⟨hlm, hsm⟩ := hs.out _ (List.mem_of_getElem? hsg)
      dsimp only at d0 d1 d2 hRF hlm hsm hOO
      obtain ⟨m, hm⟩ : ∃ m, sL.length = m := ⟨_, rfl⟩
      rw [hm] at d2 hlm hOO
      have HM := Lib.hid hm
      have HSM := Lib.hid hsm
      have hBz : B ≤ wr.heap.size := Nat.le_trans hB hold.size
      have HRF := Lib.hid (readsF_below hRF (hold.mono hB))
      have HO5 := Lib.hid (own_below hOO hold)
      have HSG := Lib.hid hsg
      have k0 : (0 : Int) ≤ (k : Int) := by omega
      have k1 : (k : Int) < (n : Int) := by omega
      obtain ⟨y, hy⟩ : ∃ y, loadE sb sn sL = y := ⟨_, rfl⟩
      have hnx := loadG_next (rm := rm) hsg
      rw [hr.out.err] at hnx
      dsimp only at hnx
      rw [hy] at hnx
      have HY := Lib.hid hy
      have HNX := Lib.hid hnx
      have HLM := Lib.hid hlm
      have HCL := Lib.hid hcells
      have hxr : xg < wr.heap.size := Nat.lt_of_lt_of_le hxw hold.size
      have HD := Lib.hid (And.intro d0 (And.intro d1 d2))
      have hT : ∀ w', Below wr.heap.size wr w' → (w'.cell? ⟨xg, k * 3, none⟩ = some (.int .i64 sb) ∧ w'.cell? ⟨xg, k * 3 + 1, none⟩ = some (.int .i64 sn) ∧ w'.cell? ⟨xg, k * 3 + 2, none⟩ = some (.slice sA m sc)) ∧ Below wr.heap.size wr w' := fun w' q => ⟨⟨(q.cell (p := ⟨xg, k * 3, none⟩) hxr).trans HD.out.1, (q.cell (p := ⟨xg, k * 3 + 1, none⟩) hxr).trans HD.out.2.1, (q.cell (p := ⟨xg, k * 3 + 2, none⟩) hxr).trans HD.out.2.2⟩, q⟩
      have HT := Lib.hid hT
      clear c0 c1 c2 hcells hm hsm hRF hsg hy hnx hlm hOO hT d0 d1 d2
      by_cases hy0 : y = 0
      · subst hy0
        go_wp2_with fail
        refine wp_region_held_drew (S := fun w' => (w'.cell? ⟨xg, k * 3, none⟩ = some (.int .i64 sb) ∧ w'.cell? ⟨xg, k * 3 + 1, none⟩ = some (.int .i64 sn) ∧ w'.cell? ⟨xg, k * 3 + 2, none⟩ = some (.slice sA m sc)) ∧ Below wr.heap.size wr w') (by kernel_rfl) (HT.out _ (Below.refl _ _).drew) (fun hHeld => ?_)
        refine wpAnyH_take (i := 0) (oi := ?o22) (v := ?v22) ?a22 (by kernel_rfl) (by kernel_rfl) (by kernel_rfl) ?q22 (Or.inl ⟨?g22, ?y22⟩) (by assumption) ?r22; (case' a22 => (simp only [List.getElem?_toArray, List.getElem?_cons_zero]; rfl)); (case' q22 => (exact fun _ _ _ h => h)); (case' g22 => rfl); (case' y22 => (intro w hSw; (try dsimp only at hSw); go_simp; try with_reducible rfl)); (case' r22 => (try simp only [Act.put, List.setIfInBounds_toArray, List.set_cons_zero, List.set_cons_succ]))
        refine wpAnyH_take (i := 1) (oi := ?o23) (v := ?v23) ?a23 (by kernel_rfl) (by kernel_rfl) (by kernel_rfl) ?q23 (Or.inl ⟨?g23, ?y23⟩) (by assumption) ?r23; (case' a23 => (simp only [List.getElem?_toArray, List.getElem?_cons_zero, List.getElem?_cons_succ]; rfl)); (case' q23 => (exact fun _ _ _ h => h)); (case' g23 => rfl); (case' y23 => (intro w hSw; (try dsimp only at hSw); go_simp; try with_reducible rfl)); (case' r23 => (try simp only [Act.put, List.setIfInBounds_toArray, List.set_cons_zero, List.set_cons_succ]))
        refine wpAnyH_take (i := 2) (oi := ?o24) (v := ?v24) ?a24 (by kernel_rfl) (by kernel_rfl) (by kernel_rfl) ?q24 (Or.inl ⟨?g24, ?y24⟩) (by assumption) ?r24; (case' a24 => (simp only [List.getElem?_toArray, List.getElem?_cons_zero, List.getElem?_cons_succ]; rfl)); (case' q24 => (exact fun _ _ _ h => h)); (case' g24 => rfl); (case' y24 => (intro w hSw; (try dsimp only at hSw); go_simp; try with_reducible rfl)); (case' r24 => (try simp only [Act.put, List.setIfInBounds_toArray, List.set_cons_zero, List.set_cons_succ]))
        refine wpAnyH_take (i := 3) (oi := ?o25) (v := ?v25) ?a25 (by kernel_rfl) (by kernel_rfl) (by kernel_rfl) ?q25 (Or.inl ⟨?g25, ?y25⟩) (by assumption) ?r25; (case' a25 => (simp only [List.getElem?_toArray, List.getElem?_cons_zero, List.getElem?_cons_succ]; rfl)); (case' q25 => (exact fun _ _ _ h => h)); (case' g25 => rfl); (case' y25 => (intro w hSw; (try dsimp only at hSw); go_simp; try with_reducible rfl)); (case' r25 => (try simp only [Act.put, List.setIfInBounds_toArray, List.set_cons_zero, List.set_cons_succ]))
        refine wpAnyH_take (i := 4) (oi := ?o26) (v := ?v26) ?a26 (by kernel_rfl) (by kernel_rfl) (by kernel_rfl) ?q26 (Or.inl ⟨?g26, ?y26⟩) (by assumption) ?r26; (case' a26 => (simp only [List.getElem?_toArray, List.getElem?_cons_zero, List.getElem?_cons_succ]; rfl)); (case' q26 => (exact fun _ _ _ h => h)); (case' g26 => rfl); (case' y26 => (intro w hSw; (try dsimp only at hSw); go_simp; try with_reducible rfl)); (case' r26 => (try simp only [Act.put, List.setIfInBounds_toArray, List.set_cons_zero, List.set_cons_succ]))
        refine wpAnyH_take (i := 5) (oi := ?o27) (v := ?v27) ?a27 (by kernel_rfl) (by kernel_rfl) (by kernel_rfl) ?q27 (Or.inl ⟨?g27, ?y27⟩) (by assumption) ?r27; (case' a27 => (simp only [List.getElem?_toArray, List.getElem?_cons_zero, List.getElem?_cons_succ]; rfl)); (case' q27 => (exact fun _ _ _ h => h)); (case' g27 => rfl); (case' y27 => (intro w hSw; (try dsimp only at hSw); go_simp; try with_reducible rfl)); (case' r27 => (try simp only [Act.put, List.setIfInBounds_toArray, List.set_cons_zero, List.set_cons_succ]))
        refine wpAnyH_take (i := 6) (oi := ?o28) (v := ?v28) ?a28 (by kernel_rfl) (by kernel_rfl) (by kernel_rfl) ?q28 (Or.inl ⟨?g28, ?y28⟩) (by assumption) ?r28; (case' a28 => (simp only [List.getElem?_toArray, List.getElem?_cons_zero, List.getElem?_cons_succ]; rfl)); (case' q28 => (exact fun _ _ _ h => h)); (case' g28 => rfl); (case' y28 => (intro w hSw; (try dsimp only at hSw); go_simp; try with_reducible rfl)); (case' r28 => (try simp only [Act.put, List.setIfInBounds_toArray, List.set_cons_zero, List.set_cons_succ]))
        refine wpAnyH_take (i := 7) (oi := ?o29) (v := ?v29) ?a29 (by kernel_rfl) (by kernel_rfl) (by kernel_rfl) ?q29 (Or.inl ⟨?g29, ?y29⟩) (by assumption) ?r29; (case' a29 => (simp only [List.getElem?_toArray, List.getElem?_cons_zero, List.getElem?_cons_succ]; rfl)); (case' q29 => (exact fun _ _ _ h => h)); (case' g29 => rfl); (case' y29 => (intro w hSw; (try dsimp only at hSw); go_simp; try with_reducible rfl)); (case' r29 => (try simp only [Act.put, List.setIfInBounds_toArray, List.set_cons_zero, List.set_cons_succ]))
        refine wpAnyH_take (i := 8) (oi := ?o30) (v := ?v30) ?a30 (by kernel_rfl) (by kernel_rfl) (by kernel_rfl) ?q30 (Or.inl ⟨?g30, ?y30⟩) (by assumption) ?r30; (case' a30 => (simp only [List.getElem?_toArray, List.getElem?_cons_zero, List.getElem?_cons_succ]; rfl)); (case' q30 => (exact fun _ _ _ h => h)); (case' g30 => rfl); (case' y30 => (intro w hSw; (try dsimp only at hSw); go_simp; try with_reducible rfl)); (case' r30 => (try simp only [Act.put, List.setIfInBounds_toArray, List.set_cons_zero, List.set_cons_succ]))
        refine wpAnyH_take (i := 9) (oi := ?o31) (v := ?v31) ?a31 (by kernel_rfl) (by kernel_rfl) (by kernel_rfl) ?q31 (Or.inl ⟨?g31, ?y31⟩) (by assumption) ?r31; (case' a31 => (simp only [List.getElem?_toArray, List.getElem?_cons_zero, List.getElem?_cons_succ]; rfl)); (case' q31 => (exact fun _ _ _ h => h)); (case' g31 => rfl); (case' y31 => (intro w hSw; (try dsimp only at hSw); go_simp; try with_reducible rfl)); (case' r31 => (try simp only [Act.put, List.setIfInBounds_toArray, List.set_cons_zero, List.set_cons_succ]))
        refine wpAnyH_take (i := 10) (oi := ?o32) (v := ?v32) ?a32 (by kernel_rfl) (by kernel_rfl) (by kernel_rfl) ?q32 (Or.inl ⟨?g32, ?y32⟩) (by assumption) ?r32; (case' a32 => (simp only [List.getElem?_toArray, List.getElem?_cons_zero, List.getElem?_cons_succ]; rfl)); (case' q32 => (exact fun _ _ _ h => h)); (case' g32 => rfl); (case' y32 => (intro w hSw; (try dsimp only at hSw); go_simp; try with_reducible rfl)); (case' r32 => (try simp only [Act.put, List.setIfInBounds_toArray, List.set_cons_zero, List.set_cons_succ]))
        refine wpAnyH_take (i := 11) (oi := ?o33) (v := ?v33) ?a33 (by kernel_rfl) (by kernel_rfl) (by kernel_rfl) ?q33 (Or.inl ⟨?g33, ?y33⟩) (by assumption) ?r33; (case' a33 => (simp only [List.getElem?_toArray, List.getElem?_cons_zero, List.getElem?_cons_succ]; rfl)); (case' q33 => (exact fun _ _ _ h => h)); (case' g33 => rfl); (case' y33 => (intro w hSw; (try dsimp only at hSw); go_simp; try with_reducible rfl)); (case' r33 => (try simp only [Act.put, List.setIfInBounds_toArray, List.set_cons_zero, List.set_cons_succ]))
        refine wpAnyH_take (i := 12) (oi := ?o34) (v := ?v34) ?a34 (by kernel_rfl) (by kernel_rfl) (by kernel_rfl) ?q34 (Or.inl ⟨?g34, ?y34⟩) (by assumption) ?r34; (case' a34 => (simp only [List.getElem?_toArray, List.getElem?_cons_zero, List.getElem?_cons_succ]; rfl)); (case' q34 => (exact fun _ _ _ h => h)); (case' g34 => rfl); (case' y34 => (intro w hSw; (try dsimp only at hSw); go_simp; try with_reducible rfl)); (case' r34 => (try simp only [Act.put, List.setIfInBounds_toArray, List.set_cons_zero, List.set_cons_succ]))
        refine wpAnyH_take (i := 13) (oi := ?o35) (v := ?v35) ?a35 (by kernel_rfl) (by kernel_rfl) (by kernel_rfl) ?q35 (Or.inl ⟨?g35, ?y35⟩) (by assumption) ?r35; (case' a35 => (simp only [List.getElem?_toArray, List.getElem?_cons_zero, List.getElem?_cons_succ]; rfl)); (case' q35 => (exact fun _ _ _ h => h)); (case' g35 => rfl); (case' y35 => (intro w hSw; (try dsimp only at hSw); go_simp; try with_reducible rfl)); (case' r35 => (try simp only [Act.put, List.setIfInBounds_toArray, List.set_cons_zero, List.set_cons_succ]))
        refine wpAnyH_take (i := 14) (oi := ?o36) (v := ?v36) ?a36 (by kernel_rfl) (by kernel_rfl) (by kernel_rfl) ?q36 (Or.inl ⟨?g36, ?y36⟩) (by assumption) ?r36; (case' a36 => (simp only [List.getElem?_toArray, List.getElem?_cons_zero, List.getElem?_cons_succ]; rfl)); (case' q36 => (exact fun _ _ _ h => h)); (case' g36 => rfl); (case' y36 => (intro w hSw; (try dsimp only at hSw); go_simp; try with_reducible rfl)); (case' r36 => (try simp only [Act.put, List.setIfInBounds_toArray, List.set_cons_zero, List.set_cons_succ]))
        refine wpAnyH_ready (rs := [15]) (by kernel_rfl) (by simp) ?_
        refine AllReadyH.cons (o := ?o37) ?a37 (fun K hK => ?s37) ?m37; (case' a37 => (simp only [List.getElem?_toArray, List.getElem?_cons_zero, List.getElem?_cons_succ]; rfl))
        case s37 =>
          go_simp
          go_at_call 50
          refine (rload5_yes sb sn sA sc m B (Lib.hid (readsF_below HRF.out (hHeld.2.mono hBz))) (Nat.le_trans hBz hHeld.2.size) HM.out HLM.out HSM HY (Lib.hid (own_below HO5.out hHeld.2))).mono ?_
          rintro e wn ⟨g5, rfl, hbn⟩
          go_wp2_with fail
          refine hK.out _ _ (HT.out _ (acc hHeld.2 hbn)) (fun hHeld => ?_)
          clear hK K
          (try simp only [Act.put, List.setIfInBounds_toArray, List.set_cons_zero, List.set_cons_succ])
          refine wpAnyH_take (i := 16) (oi := ?o38) (v := ?v38) ?a38 (by kernel_rfl) (by kernel_rfl) (by kernel_rfl) ?q38 (Or.inl ⟨?g38, ?y38⟩) (by assumption) ?r38; (case' a38 => (simp only [List.getElem?_toArray, List.getElem?_cons_zero, List.getElem?_cons_succ]; rfl)); (case' q38 => (exact fun _ _ _ h => h)); (case' g38 => rfl); (case' y38 => (intro w hSw; (try dsimp only at hSw); go_simp; try with_reducible rfl)); (case' r38 => (try simp only [Act.put, List.setIfInBounds_toArray, List.set_cons_zero, List.set_cons_succ]))
          refine wpAnyH_take (i := 17) (oi := ?o39) (v := ?v39) ?a39 (by kernel_rfl) (by kernel_rfl) (by kernel_rfl) ?q39 (Or.inl ⟨?g39, ?y39⟩) (by assumption) ?r39; (case' a39 => (simp only [List.getElem?_toArray, List.getElem?_cons_zero, List.getElem?_cons_succ]; rfl)); (case' q39 => (exact fun _ _ _ h => h)); (case' g39 => rfl); (case' y39 => (intro w hSw; (try dsimp only at hSw); go_simp; try with_reducible rfl)); (case' r39 => (try simp only [Act.put, List.setIfInBounds_toArray, List.set_cons_zero, List.set_cons_succ]))
          refine wpAnyH_take (i := 18) (oi := ?o40) (v := ?v40) ?a40 (by kernel_rfl) (by kernel_rfl) (by kernel_rfl) ?q40 (Or.inl ⟨?g40, ?y40⟩) (by assumption) ?r40; (case' a40 => (simp only [List.getElem?_toArray, List.getElem?_cons_zero, List.getElem?_cons_succ]; rfl)); (case' q40 => (exact fun _ _ _ h => h)); (case' g40 => rfl); (case' y40 => (intro w hSw; (try dsimp only at hSw); go_simp; try with_reducible rfl)); (case' r40 => (try simp only [Act.put, List.setIfInBounds_toArray, List.set_cons_zero, List.set_cons_succ]))
          refine wpAnyH_take (i := 19) (oi := ?o41) (v := ?v41) ?a41 (by kernel_rfl) (by kernel_rfl) (by kernel_rfl) ?q41 (Or.inl ⟨?g41, ?y41⟩) (by assumption) ?r41; (case' a41 => (simp only [List.getElem?_toArray, List.getElem?_cons_zero, List.getElem?_cons_succ]; rfl)); (case' q41 => (exact fun _ _ _ h => h)); (case' g41 => rfl); (case' y41 => (intro w hSw; (try dsimp only at hSw); go_simp; try with_reducible rfl)); (case' r41 => (try simp only [Act.put, List.setIfInBounds_toArray, List.set_cons_zero, List.set_cons_succ]))
          refine wpAnyH_take (i := 20) (oi := ?o42) (v := ?v42) ?a42 (by kernel_rfl) (by kernel_rfl) (by kernel_rfl) ?q42 (Or.inl ⟨?g42, ?y42⟩) (by assumption) ?r42; (case' a42 => (simp only [List.getElem?_toArray, List.getElem?_cons_zero, List.getElem?_cons_succ]; rfl)); (case' q42 => (exact fun _ _ _ h => h)); (case' g42 => rfl); (case' y42 => (intro w hSw; (try dsimp only at hSw); go_simp; try with_reducible rfl)); (case' r42 => (try simp only [Act.put, List.setIfInBounds_toArray, List.set_cons_zero, List.set_cons_succ]))
          refine wpAnyH_done (by kernel_rfl) ?_ _
          have HNX2 : Hid (x = if rm < sL.length ∨ (∃ x, prevN l k = some x ∧ sb ≠ x) then 1 else loadG rm (prevN l (k + 1)) ((l.drop (k + 1)).map Sa.s)) := Lib.hid (by have := HNX.out; rwa [if_neg (by simp)] at this)
          obtain ⟨⟨d0, d1, d2⟩, hbn2⟩ := hHeld
          have hbw : Below w.heap.size w wn := acc hold hbn2
          clear HNX HT HD
          by_cases hlr : rm < m
          · have hx : x = 1 := by have := HNX2.out; rwa [if_pos (.inl (by rw [HM.out]; exact hlr))] at this
            subst hx
            have t1 : decide ((rm : Int) < (m : Int)) = true := decide_eq_true (by omega)
            have t2 : decide (rm < m) = true := decide_eq_true hlr
            clear HNX2
            go_wp2_with fail
            go_quiet (fail)
            go_wp2_with fail
            go_ret2
            exact .inl ⟨by decide, rfl, drewN_below hbw _⟩
          · have t1 : decide ((rm : Int) < (m : Int)) = false := decide_eq_false (by omega)
            have t2 : decide (rm < m) = false := decide_eq_false hlr
            by_cases hk0 : k = 0
            · have u1 : decide ((0 : Int) < (k : Int)) = false := decide_eq_false (by omega)
              have u2 : decide (0 < k) = false := decide_eq_false (by omega)
              have hx : loadG rm (prevN l (k + 1)) ((l.drop (k + 1)).map Sa.s) = x := by
                have := HNX2.out
                rw [if_neg (by rw [HM.out, hk0]; rintro (q | ⟨z, q, _⟩); exact hlr q; cases q)] at this
                exact this.symm
              have HE := Lib.hid hx
              clear HNX2 hx hk0
              go_wp2_with fail
              go_quiet (fail)
              obtain ⟨W3, hW3⟩ : ∃ W3, wn.drewN nq = W3 := ⟨_, rfl⟩
              have LDI : Hid (LoadN w W3 rm kb l x k Q cap ss ⟨sb, sn, sA, sc, sL⟩) := Lib.hid ⟨hr.out.below (by rw [← hW3]; exact drewN_below hbn2 _), HSG.out, HE.out⟩
              have HB3 : Hid (Below wr.heap.size wr W3) := Lib.hid (by rw [← hW3]; exact drewN_below hbn2 _)
              rw [hW3]
              clear hW3 hbn2 hbw d0 d1 d2
              have HOW := Lib.hid LDI.out.it.log.own
              rw [LDI.out.it.len] at HOW
              have HO3 := Lib.hid (own_below HO5.out HB3.out)
              have hk3 := LDI.out.it.log.kLt
              have hkw : w.heap.size ≤ kb := LDI.out.it.since kb (mem_rblocks.2 (.inl rfl))
              have HX1 := Lib.hid LDI.out.it.log.c1
              rw [LDI.out.it.len] at HX1
              have x1 := HX1.out
              have hz3 : w.heap.size ≤ W3.heap.size := LDI.out.it.old.size
              have e0 := (LDI.out.it.old.cell (p := ⟨xg, k * 3, none⟩) hxw).trans (HCL.out k _ HSG.out).1
              have e1 := (LDI.out.it.old.cell (p := ⟨xg, k * 3 + 1, none⟩) hxw).trans (HCL.out k _ HSG.out).2.1
              have e2 := (LDI.out.it.old.cell (p := ⟨xg, k * 3 + 2, none⟩) hxw).trans (HCL.out k _ HSG.out).2.2
              dsimp only at e0 e1 e2
              rw [HM.out] at e2
              have hT3 : ∀ w', Below w.heap.size W3 w' → (w'.cell? ⟨xg, k * 3, none⟩ = some (.int .i64 sb) ∧ w'.cell? ⟨xg, k * 3 + 1, none⟩ = some (.int .i64 sn) ∧ w'.cell? ⟨xg, k * 3 + 2, none⟩ = some (.slice sA m sc)) ∧ Below w.heap.size W3 w' := fun w' q => ⟨⟨(q.cell (p := ⟨xg, k * 3, none⟩) hxw).trans e0, (q.cell (p := ⟨xg, k * 3 + 1, none⟩) hxw).trans e1, (q.cell (p := ⟨xg, k * 3 + 2, none⟩) hxw).trans e2⟩, q⟩
              have HT3 := Lib.hid hT3
              have hm1000 : m ≤ 1000 := by have := t2; have := of_decide_eq_false t2; omega
              clear e0 e1 e2 hT3 t1 t2 u1 u2
              go_wp2_with fail
              refine wp_region_held_drew (S := fun w' => (w'.cell? ⟨xg, k * 3, none⟩ = some (.int .i64 sb) ∧ w'.cell? ⟨xg, k * 3 + 1, none⟩ = some (.int .i64 sn) ∧ w'.cell? ⟨xg, k * 3 + 2, none⟩ = some (.slice sA m sc)) ∧ Below w.heap.size W3 w') (by kernel_rfl) (HT3.out _ (Below.refl _ _).drew) (fun hHeld => ?_)
              refine wpAnyH_take (i := 0) (oi := ?o43) (v := ?v43) ?a43 (by kernel_rfl) (by kernel_rfl) (by kernel_rfl) ?q43 (Or.inl ⟨?g43, ?y43⟩) (by assumption) ?r43; (case' a43 => (simp only [List.getElem?_toArray, List.getElem?_cons_zero]; rfl)); (case' q43 => (exact fun _ _ _ h => h)); (case' g43 => rfl); (case' y43 => (intro w hSw; (try dsimp only at hSw); go_simp; try with_reducible rfl)); (case' r43 => (try simp only [Act.put, List.setIfInBounds_toArray, List.set_cons_zero, List.set_cons_succ]))
              refine wpAnyH_take (i := 1) (oi := ?o44) (v := ?v44) ?a44 (by kernel_rfl) (by kernel_rfl) (by kernel_rfl) ?q44 (Or.inl ⟨?g44, ?y44⟩) (by assumption) ?r44; (case' a44 => (simp only [List.getElem?_toArray, List.getElem?_cons_zero, List.getElem?_cons_succ]; rfl)); (case' q44 => (exact fun _ _ _ h => h)); (case' g44 => rfl); (case' y44 => (intro w hSw; (try dsimp only at hSw); go_simp; try with_reducible rfl)); (case' r44 => (try simp only [Act.put, List.setIfInBounds_toArray, List.set_cons_zero, List.set_cons_succ]))
              refine wpAnyH_take (i := 2) (oi := ?o45) (v := ?v45) ?a45 (by kernel_rfl) (by kernel_rfl) (by kernel_rfl) ?q45 (Or.inl ⟨?g45, ?y45⟩) (by assumption) ?r45; (case' a45 => (simp only [List.getElem?_toArray, List.getElem?_cons_zero, List.getElem?_cons_succ]; rfl)); (case' q45 => (exact fun _ _ _ h => h)); (case' g45 => rfl); (case' y45 => (intro w hSw; (try dsimp only at hSw); go_simp; try with_reducible rfl)); (case' r45 => (try simp only [Act.put, List.setIfInBounds_toArray, List.set_cons_zero, List.set_cons_succ]))
              refine wpAnyH_take (i := 3) (oi := ?o46) (v := ?v46) ?a46 (by kernel_rfl) (by kernel_rfl) (by kernel_rfl) ?q46 (Or.inl ⟨?g46, ?y46⟩) (by assumption) ?r46; (case' a46 => (simp only [List.getElem?_toArray, List.getElem?_cons_zero, List.getElem?_cons_succ]; rfl)); (case' q46 => (exact fun _ _ _ h => h)); (case' g46 => rfl); (case' y46 => (intro w hSw; (try dsimp only at hSw); go_simp; try with_reducible rfl)); (case' r46 => (try simp only [Act.put, List.setIfInBounds_toArray, List.set_cons_zero, List.set_cons_succ]))
              refine wpAnyH_take (i := 5) (oi := ?o47) (v := ?v47) ?a47 (by kernel_rfl) (by kernel_rfl) (by kernel_rfl) ?q47 (Or.inl ⟨?g47, ?y47⟩) (by assumption) ?r47; (case' a47 => (simp only [List.getElem?_toArray, List.getElem?_cons_zero, List.getElem?_cons_succ]; rfl)); (case' q47 => (exact fun _ _ _ h => h)); (case' g47 => rfl); (case' y47 => (intro w hSw; (try dsimp only at hSw); go_simp; try with_reducible rfl)); (case' r47 => (try simp only [Act.put, List.setIfInBounds_toArray, List.set_cons_zero, List.set_cons_succ]))
              refine wpAnyH_take (i := 6) (oi := ?o48) (v := ?v48) ?a48 (by kernel_rfl) (by kernel_rfl) (by kernel_rfl) ?q48 (Or.inl ⟨?g48, ?y48⟩) (by assumption) ?r48; (case' a48 => (simp only [List.getElem?_toArray, List.getElem?_cons_zero, List.getElem?_cons_succ]; rfl)); (case' q48 => (exact fun _ _ _ h => h)); (case' g48 => rfl); (case' y48 => (intro w hSw; (try dsimp only at hSw); go_simp; try with_reducible rfl)); (case' r48 => (try simp only [Act.put, List.setIfInBounds_toArray, List.set_cons_zero, List.set_cons_succ]))
              refine wpAnyH_take (i := 7) (oi := ?o49) (v := ?v49) ?a49 (by kernel_rfl) (by kernel_rfl) (by kernel_rfl) ?q49 (Or.inl ⟨?g49, ?y49⟩) (by assumption) ?r49; (case' a49 => (simp only [List.getElem?_toArray, List.getElem?_cons_zero, List.getElem?_cons_succ]; rfl)); (case' q49 => (exact fun _ _ _ h => h)); (case' g49 => rfl); (case' y49 => (intro w hSw; (try dsimp only at hSw); go_simp; try with_reducible rfl)); (case' r49 => (try simp only [Act.put, List.setIfInBounds_toArray, List.set_cons_zero, List.set_cons_succ]))
              refine wpAnyH_take (i := 8) (oi := ?o50) (v := ?v50) ?a50 (by kernel_rfl) (by kernel_rfl) (by kernel_rfl) ?q50 (Or.inl ⟨?g50, ?y50⟩) (by assumption) ?r50; (case' a50 => (simp only [List.getElem?_toArray, List.getElem?_cons_zero, List.getElem?_cons_succ]; rfl)); (case' q50 => (exact fun _ _ _ h => h)); (case' g50 => rfl); (case' y50 => (intro w hSw; (try dsimp only at hSw); go_simp; try with_reducible rfl)); (case' r50 => (try simp only [Act.put, List.setIfInBounds_toArray, List.set_cons_zero, List.set_cons_succ]))
              refine wpAnyH_ready (rs := [4, 9]) (by kernel_rfl) (by simp) ?_
              refine AllReadyH.cons (o := ?o51) ?a51 (fun K hK => ?s51) ?m51; (case' a51 => (simp only [List.getElem?_toArray, List.getElem?_cons_zero, List.getElem?_cons_succ]; rfl))
              case s51 =>
                go_simp
                refine hK.out _ _ (hHeld) (fun hHeld => ?_)
                clear hK K
                (try simp only [Act.put, List.setIfInBounds_toArray, List.set_cons_zero, List.set_cons_succ])
                refine wpAnyH_ready (rs := [9]) (by kernel_rfl) (by simp) ?_
                refine AllReadyH.cons (o := ?o52) ?a52 (fun K hK => ?s52) ?m52; (case' a52 => (simp only [List.getElem?_toArray, List.getElem?_cons_zero, List.getElem?_cons_succ]; rfl))
                case s52 =>
                  go_simp
                  go_at_call 32
                  refine (rseg6_is sb sn sA m sc sL (Lib.hid (own_below HO3.out (Below.refl _ _).drew)) (by omega)).mono ?_
                  rintro e wn ⟨A4, c4, rfl, ho4, hbn⟩
                  have HB4 := Lib.hid ((Below.refl W3.heap.size W3).drew.trans hbn); have HO4 := Lib.hid ho4; have xk := (HB4.out.cell (p := ⟨kb, 1, none⟩) hk3).trans HX1.out; have hkn := Nat.lt_of_lt_of_le hk3 HB4.out.size; clear ho4 hbn
                  go_wp2_with fail
                  refine hK.out _ _ (HT3.out _ (HB4.out.mono hz3)) (fun hHeld => ?_)
                  clear hK K
                  (try simp only [Act.put, List.setIfInBounds_toArray, List.set_cons_zero, List.set_cons_succ])
                  refine wpAnyH_ready (rs := [10]) (by kernel_rfl) (by simp) ?_
                  refine AllReadyH.cons (o := ?o53) ?a53 (fun K hK => ?s53) ?m53; (case' a53 => (simp only [List.getElem?_toArray, List.getElem?_cons_zero, List.getElem?_cons_succ]; rfl))
                  case s53 =>
                    go_simp
                    refine hK.out _ _ (HT3.out _ (hHeld.2.alloc (Nat.le_trans hz3 HB4.out.size) _)) (fun hHeld => ?_)
                    clear hK K
                    (try simp only [Act.put, List.setIfInBounds_toArray, List.set_cons_zero, List.set_cons_succ])
                    refine wpAnyH_ready (rs := [11]) (by kernel_rfl) (by simp) ?_
                    refine AllReadyH.cons (o := ?o54) ?a54 (fun K hK => ?s54) ?m54; (case' a54 => (simp only [List.getElem?_toArray, List.getElem?_cons_zero, List.getElem?_cons_succ]; rfl))
                    case s54 =>
                      refine step_append_lies _ (by rfl) _ _ _ (by rfl) 0 53 i0 _ 3 40 Try.underlying51 hi0 hz0 hz1 hz2 rfl (by omega) (.slice Q k cap) k (rowS ss) (by rfl) ((own_below HOW.out HB4.out).alloc _) ⟨wn.heap.size, 0, none⟩ 1 1 [.int .i64 sb, .int .i64 sn, .slice A4 m c4] (by rfl) (by rfl) (World.news_of_block (cs := #[.int .i64 sb, .int .i64 sn, .slice A4 m c4]) (t := 53) (fr := (0, 0)) (heap_alloc_new wn _)) (by simp [Value.oneCell']) (by omega) (by unfold maxLen; omega) (by omega) (Nat.zero_le _) (wn.heap.size + 1) (by simp) ?_
                      intro gg cc w6 hown6 hgrow hat hltg
                      obtain ⟨q1, q2, q3, q4⟩ := LDI.out.added HB4.out HO4.out hown6 hgrow hat HM.out
                      have HLD := Lib.hid q1
                      clear hown6 hgrow hat hltg q1 xk hkn
                      refine hK.out _ _ (HT3.out _ q4) (fun hHeld => ?_)
                      clear hK K
                      (try simp only [Act.put, List.setIfInBounds_toArray, List.set_cons_zero, List.set_cons_succ])
                      refine wpAnyH_take (i := 12) (oi := ?o55) (v := ?v55) ?a55 (by kernel_rfl) (by kernel_rfl) (by kernel_rfl) ?q55 (Or.inl ⟨?g55, ?y55⟩) (by assumption) ?r55; (case' a55 => (simp only [List.getElem?_toArray, List.getElem?_cons_zero, List.getElem?_cons_succ]; rfl)); (case' q55 => (exact fun _ _ _ h => h)); (case' g55 => rfl); (case' y55 => (intro w hSw; (try dsimp only at hSw); go_simp; try with_reducible rfl)); (case' r55 => (try simp only [Act.put, List.setIfInBounds_toArray, List.set_cons_zero, List.set_cons_succ]))
                      refine wpAnyH_take (i := 13) (oi := ?o56) (v := ?v56) ?a56 (by kernel_rfl) (by kernel_rfl) (by kernel_rfl) ?q56 (Or.inl ⟨?g56, ?y56⟩) (by assumption) ?r56; (case' a56 => (simp only [List.getElem?_toArray, List.getElem?_cons_zero, List.getElem?_cons_succ]; rfl)); (case' q56 => (exact fun _ _ _ h => h)); (case' g56 => rfl); (case' y56 => (intro w hSw; (try dsimp only at hSw); go_simp; try with_reducible rfl)); (case' r56 => (try simp only [Act.put, List.setIfInBounds_toArray, List.set_cons_zero, List.set_cons_succ]))
                      refine wpAnyH_ready (rs := [14]) (by kernel_rfl) (by simp) ?_
                      refine AllReadyH.cons (o := ?o57) ?a57 (fun K hK => ?s57) ?m57; (case' a57 => (simp only [List.getElem?_toArray, List.getElem?_cons_zero, List.getElem?_cons_succ]; rfl))
                      case s57 =>
                        go_simp
                        refine hK.out _ _ (HT3.out _ (hHeld.2.setCell (p := ⟨kb, 1, none⟩) hkw _)) (fun hHeld => ?_)
                        clear hK K
                        (try simp only [Act.put, List.setIfInBounds_toArray, List.set_cons_zero, List.set_cons_succ])
                        refine wpAnyH_done (by kernel_rfl) ?_ _
                        clear hHeld q2 q3 q4
                        go_wp2_with fail
                        go_roundw
                        case rel => exact ⟨k + 1, _, _, _, by omega, by go_num, HLD⟩
                        case measure => simp [intOf]; omega
                      exact AllReadyH.nil
                    exact AllReadyH.nil
                  exact AllReadyH.nil
                exact AllReadyH.nil
              refine AllReadyH.cons (o := ?o58) ?a58 (fun K hK => ?s58) ?m58; (case' a58 => (simp only [List.getElem?_toArray, List.getElem?_cons_zero, List.getElem?_cons_succ]; rfl))
              case s58 =>
                go_simp
                go_at_call 32
                refine (rseg6_is sb sn sA m sc sL (Lib.hid (own_below HO3.out (Below.refl _ _).drew)) (by omega)).mono ?_
                rintro e wn ⟨A4, c4, rfl, ho4, hbn⟩
                have HB4 := Lib.hid ((Below.refl W3.heap.size W3).drew.trans hbn); have HO4 := Lib.hid ho4; have xk := (HB4.out.cell (p := ⟨kb, 1, none⟩) hk3).trans HX1.out; have hkn := Nat.lt_of_lt_of_le hk3 HB4.out.size; clear ho4 hbn
                go_wp2_with fail
                refine hK.out _ _ (HT3.out _ (HB4.out.mono hz3)) (fun hHeld => ?_)
                clear hK K
                (try simp only [Act.put, List.setIfInBounds_toArray, List.set_cons_zero, List.set_cons_succ])
                refine wpAnyH_ready (rs := [4, 10]) (by kernel_rfl) (by simp) ?_
                refine AllReadyH.cons (o := ?o59) ?a59 (fun K hK => ?s59) ?m59; (case' a59 => (simp only [List.getElem?_toArray, List.getElem?_cons_zero, List.getElem?_cons_succ]; rfl))
                case s59 =>
                  go_simp
                  refine hK.out _ _ (hHeld) (fun hHeld => ?_)
                  clear hK K
                  (try simp only [Act.put, List.setIfInBounds_toArray, List.set_cons_zero, List.set_cons_succ])
                  refine wpAnyH_ready (rs := [10]) (by kernel_rfl) (by simp) ?_
                  refine AllReadyH.cons (o := ?o60) ?a60 (fun K hK => ?s60) ?m60; (case' a60 => (simp only [List.getElem?_toArray, List.getElem?_cons_zero, List.getElem?_cons_succ]; rfl))
                  case s60 =>
                    go_simp
                    refine hK.out _ _ (HT3.out _ (hHeld.2.alloc (Nat.le_trans hz3 HB4.out.size) _)) (fun hHeld => ?_)
                    clear hK K
                    (try simp only [Act.put, List.setIfInBounds_toArray, List.set_cons_zero, List.set_cons_succ])
                    refine wpAnyH_ready (rs := [11]) (by kernel_rfl) (by simp) ?_
                    refine AllReadyH.cons (o := ?o61) ?a61 (fun K hK => ?s61) ?m61; (case' a61 => (simp only [List.getElem?_toArray, List.getElem?_cons_zero, List.getElem?_cons_succ]; rfl))
                    case s61 =>
                      refine step_append_lies _ (by rfl) _ _ _ (by rfl) 0 53 i0 _ 3 40 Try.underlying51 hi0 hz0 hz1 hz2 rfl (by omega) (.slice Q k cap) k (rowS ss) (by rfl) ((own_below HOW.out HB4.out).alloc _) ⟨wn.heap.size, 0, none⟩ 1 1 [.int .i64 sb, .int .i64 sn, .slice A4 m c4] (by rfl) (by rfl) (World.news_of_block (cs := #[.int .i64 sb, .int .i64 sn, .slice A4 m c4]) (t := 53) (fr := (0, 0)) (heap_alloc_new wn _)) (by simp [Value.oneCell']) (by omega) (by unfold maxLen; omega) (by omega) (Nat.zero_le _) (wn.heap.size + 1) (by simp) ?_
                      intro gg cc w6 hown6 hgrow hat hltg
                      obtain ⟨q1, q2, q3, q4⟩ := LDI.out.added HB4.out HO4.out hown6 hgrow hat HM.out
                      have HLD := Lib.hid q1
                      clear hown6 hgrow hat hltg q1 xk hkn
                      refine hK.out _ _ (HT3.out _ q4) (fun hHeld => ?_)
                      clear hK K
                      (try simp only [Act.put, List.setIfInBounds_toArray, List.set_cons_zero, List.set_cons_succ])
                      refine wpAnyH_take (i := 12) (oi := ?o62) (v := ?v62) ?a62 (by kernel_rfl) (by kernel_rfl) (by kernel_rfl) ?q62 (Or.inl ⟨?g62, ?y62⟩) (by assumption) ?r62; (case' a62 => (simp only [List.getElem?_toArray, List.getElem?_cons_zero, List.getElem?_cons_succ]; rfl)); (case' q62 => (exact fun _ _ _ h => h)); (case' g62 => rfl); (case' y62 => (intro w hSw; (try dsimp only at hSw); go_simp; try with_reducible rfl)); (case' r62 => (try simp only [Act.put, List.setIfInBounds_toArray, List.set_cons_zero, List.set_cons_succ]))
                      refine wpAnyH_take (i := 13) (oi := ?o63) (v := ?v63) ?a63 (by kernel_rfl) (by kernel_rfl) (by kernel_rfl) ?q63 (Or.inl ⟨?g63, ?y63⟩) (by assumption) ?r63; (case' a63 => (simp only [List.getElem?_toArray, List.getElem?_cons_zero, List.getElem?_cons_succ]; rfl)); (case' q63 => (exact fun _ _ _ h => h)); (case' g63 => rfl); (case' y63 => (intro w hSw; (try dsimp only at hSw); go_simp; try with_reducible rfl)); (case' r63 => (try simp only [Act.put, List.setIfInBounds_toArray, List.set_cons_zero, List.set_cons_succ]))
                      refine wpAnyH_ready (rs := [14]) (by kernel_rfl) (by simp) ?_
                      refine AllReadyH.cons (o := ?o64) ?a64 (fun K hK => ?s64) ?m64; (case' a64 => (simp only [List.getElem?_toArray, List.getElem?_cons_zero, List.getElem?_cons_succ]; rfl))
                      case s64 =>
                        go_simp
                        refine hK.out _ _ (HT3.out _ (hHeld.2.setCell (p := ⟨kb, 1, none⟩) hkw _)) (fun hHeld => ?_)
                        clear hK K
                        (try simp only [Act.put, List.setIfInBounds_toArray, List.set_cons_zero, List.set_cons_succ])
                        refine wpAnyH_done (by kernel_rfl) ?_ _
                        clear hHeld q2 q3 q4
                        go_wp2_with fail
                        go_roundw
                        case rel => exact ⟨k + 1, _, _, _, by omega, by go_num, HLD⟩
                        case measure => simp [intOf]; omega
                      exact AllReadyH.nil
                    exact AllReadyH.nil
                  exact AllReadyH.nil
                refine AllReadyH.cons (o := ?o65) ?a65 (fun K hK => ?s65) ?m65; (case' a65 => (simp only [List.getElem?_toArray, List.getElem?_cons_zero, List.getElem?_cons_succ]; rfl))
                case s65 =>
                  go_simp
                  refine hK.out _ _ (HT3.out _ (hHeld.2.alloc (Nat.le_trans hz3 HB4.out.size) _)) (fun hHeld => ?_)
                  clear hK K
                  (try simp only [Act.put, List.setIfInBounds_toArray, List.set_cons_zero, List.set_cons_succ])
                  refine wpAnyH_ready (rs := [4]) (by kernel_rfl) (by simp) ?_
                  refine AllReadyH.cons (o := ?o66) ?a66 (fun K hK => ?s66) ?m66; (case' a66 => (simp only [List.getElem?_toArray, List.getElem?_cons_zero, List.getElem?_cons_succ]; rfl))
                  case s66 =>
                    go_simp
                    refine hK.out _ _ (hHeld) (fun hHeld => ?_)
                    clear hK K
                    (try simp only [Act.put, List.setIfInBounds_toArray, List.set_cons_zero, List.set_cons_succ])
                    refine wpAnyH_ready (rs := [11]) (by kernel_rfl) (by simp) ?_
                    refine AllReadyH.cons (o := ?o67) ?a67 (fun K hK => ?s67) ?m67; (case' a67 => (simp only [List.getElem?_toArray, List.getElem?_cons_zero, List.getElem?_cons_succ]; rfl))
                    case s67 =>
                      refine step_append_lies _ (by rfl) _ _ _ (by rfl) 0 53 i0 _ 3 40 Try.underlying51 hi0 hz0 hz1 hz2 rfl (by omega) (.slice Q k cap) k (rowS ss) (by rfl) ((own_below HOW.out HB4.out).alloc _) ⟨wn.heap.size, 0, none⟩ 1 1 [.int .i64 sb, .int .i64 sn, .slice A4 m c4] (by rfl) (by rfl) (World.news_of_block (cs := #[.int .i64 sb, .int .i64 sn, .slice A4 m c4]) (t := 53) (fr := (0, 0)) (heap_alloc_new wn _)) (by simp [Value.oneCell']) (by omega) (by unfold maxLen; omega) (by omega) (Nat.zero_le _) (wn.heap.size + 1) (by simp) ?_
                      intro gg cc w6 hown6 hgrow hat hltg
                      obtain ⟨q1, q2, q3, q4⟩ := LDI.out.added HB4.out HO4.out hown6 hgrow hat HM.out
                      have HLD := Lib.hid q1
                      clear hown6 hgrow hat hltg q1 xk hkn
                      refine hK.out _ _ (HT3.out _ q4) (fun hHeld => ?_)
                      clear hK K
                      (try simp only [Act.put, List.setIfInBounds_toArray, List.set_cons_zero, List.set_cons_succ])
                      refine wpAnyH_take (i := 12) (oi := ?o68) (v := ?v68) ?a68 (by kernel_rfl) (by kernel_rfl) (by kernel_rfl) ?q68 (Or.inl ⟨?g68, ?y68⟩) (by assumption) ?r68; (case' a68 => (simp only [List.getElem?_toArray, List.getElem?_cons_zero, List.getElem?_cons_succ]; rfl)); (case' q68 => (exact fun _ _ _ h => h)); (case' g68 => rfl); (case' y68 => (intro w hSw; (try dsimp only at hSw); go_simp; try with_reducible rfl)); (case' r68 => (try simp only [Act.put, List.setIfInBounds_toArray, List.set_cons_zero, List.set_cons_succ]))
                      refine wpAnyH_take (i := 13) (oi := ?o69) (v := ?v69) ?a69 (by kernel_rfl) (by kernel_rfl) (by kernel_rfl) ?q69 (Or.inl ⟨?g69, ?y69⟩) (by assumption) ?r69; (case' a69 => (simp only [List.getElem?_toArray, List.getElem?_cons_zero, List.getElem?_cons_succ]; rfl)); (case' q69 => (exact fun _ _ _ h => h)); (case' g69 => rfl); (case' y69 => (intro w hSw; (try dsimp only at hSw); go_simp; try with_reducible rfl)); (case' r69 => (try simp only [Act.put, List.setIfInBounds_toArray, List.set_cons_zero, List.set_cons_succ]))
                      refine wpAnyH_ready (rs := [14]) (by kernel_rfl) (by simp) ?_
                      refine AllReadyH.cons (o := ?o70) ?a70 (fun K hK => ?s70) ?m70; (case' a70 => (simp only [List.getElem?_toArray, List.getElem?_cons_zero, List.getElem?_cons_succ]; rfl))
                      case s70 =>
                        go_simp
                        refine hK.out _ _ (HT3.out _ (hHeld.2.setCell (p := ⟨kb, 1, none⟩) hkw _)) (fun hHeld => ?_)
                        clear hK K
                        (try simp only [Act.put, List.setIfInBounds_toArray, List.set_cons_zero, List.set_cons_succ])
                        refine wpAnyH_done (by kernel_rfl) ?_ _
                        clear hHeld q2 q3 q4
                        go_wp2_with fail
                        go_roundw
                        case rel => exact ⟨k + 1, _, _, _, by omega, by go_num, HLD⟩
                        case measure => simp [intOf]; omega
                      exact AllReadyH.nil
                    exact AllReadyH.nil
                  exact AllReadyH.nil
                exact AllReadyH.nil
              exact AllReadyH.nil
            · obtain ⟨q, hq⟩ : ∃ q, k = q + 1 := ⟨k - 1, by omega⟩
              obtain ⟨⟨pb, pn, pA, pc, pL⟩, hp⟩ : ∃ s, l[q]? = some s := ⟨_, List.getElem?_eq_getElem (by rw [HN.out]; omega)⟩
              have d4 := (hbw.cell (p := ⟨xg, q * 3 + 1, none⟩) hxw).trans (HCL.out q _ hp).2.1
              dsimp only at d4
              have u1 : decide ((0 : Int) < (k : Int)) = true := decide_eq_true (by omega)
              have u2 : decide (0 < k) = true := decide_eq_true (by omega)
              have u3 : wrap64 ((k : Int) - 1) = (q : Int) := by simp only [wrap64]; omega
              have u4 : (k : Int) - 1 = (q : Int) := by omega
              have u5 : (0 : Int) ≤ (q : Int) := by omega
              have u6 : (q : Int) < (n : Int) := by omega
              have u7 : (1 : Int) ≤ (k : Int) := by omega
              have u8 : 1 ≤ k := by omega
              have hprev : prevN l k = some pn := by rw [hq]; show (l[q]?).map _ = _; rw [hp]; rfl
              by_cases hpn : sb = pn
              · have v1 : (sb == pn) = true := by simpa using hpn
                have v2 : (sb != pn) = false := by simpa using hpn
                have hx : loadG rm (prevN l (k + 1)) ((l.drop (k + 1)).map Sa.s) = x := by
                  have := HNX2.out
                  rw [if_neg (by rw [HM.out, hprev]; rintro (q | ⟨z, q, q'⟩); exact hlr q; cases q; exact q' hpn)] at this
                  exact this.symm
                have HE := Lib.hid hx
                clear HNX2 hx hprev hp hq hpn
                go_wp2_with fail
                go_quiet (fail)
                obtain ⟨W3, hW3⟩ : ∃ W3, wn.drewN nq = W3 := ⟨_, rfl⟩
                have LDI : Hid (LoadN w W3 rm kb l x k Q cap ss ⟨sb, sn, sA, sc, sL⟩) := Lib.hid ⟨hr.out.below (by rw [← hW3]; exact drewN_below hbn2 _), HSG.out, HE.out⟩
                have HB3 : Hid (Below wr.heap.size wr W3) := Lib.hid (by rw [← hW3]; exact drewN_below hbn2 _)
                rw [hW3]
                clear hW3 hbn2 hbw d0 d1 d2
                have HOW := Lib.hid LDI.out.it.log.own
                rw [LDI.out.it.len] at HOW
                have HO3 := Lib.hid (own_below HO5.out HB3.out)
                have hk3 := LDI.out.it.log.kLt
                have hkw : w.heap.size ≤ kb := LDI.out.it.since kb (mem_rblocks.2 (.inl rfl))
                have HX1 := Lib.hid LDI.out.it.log.c1
                rw [LDI.out.it.len] at HX1
                have x1 := HX1.out
                have hz3 : w.heap.size ≤ W3.heap.size := LDI.out.it.old.size
                have e0 := (LDI.out.it.old.cell (p := ⟨xg, k * 3, none⟩) hxw).trans (HCL.out k _ HSG.out).1
                have e1 := (LDI.out.it.old.cell (p := ⟨xg, k * 3 + 1, none⟩) hxw).trans (HCL.out k _ HSG.out).2.1
                have e2 := (LDI.out.it.old.cell (p := ⟨xg, k * 3 + 2, none⟩) hxw).trans (HCL.out k _ HSG.out).2.2
                dsimp only at e0 e1 e2
                rw [HM.out] at e2
                have hT3 : ∀ w', Below w.heap.size W3 w' → (w'.cell? ⟨xg, k * 3, none⟩ = some (.int .i64 sb) ∧ w'.cell? ⟨xg, k * 3 + 1, none⟩ = some (.int .i64 sn) ∧ w'.cell? ⟨xg, k * 3 + 2, none⟩ = some (.slice sA m sc)) ∧ Below w.heap.size W3 w' := fun w' q => ⟨⟨(q.cell (p := ⟨xg, k * 3, none⟩) hxw).trans e0, (q.cell (p := ⟨xg, k * 3 + 1, none⟩) hxw).trans e1, (q.cell (p := ⟨xg, k * 3 + 2, none⟩) hxw).trans e2⟩, q⟩
                have HT3 := Lib.hid hT3
                have hm1000 : m ≤ 1000 := by have := t2; have := of_decide_eq_false t2; omega
                clear e0 e1 e2 hT3 t1 t2 u1 u2
                go_wp2_with fail
                refine wp_region_held_drew (S := fun w' => (w'.cell? ⟨xg, k * 3, none⟩ = some (.int .i64 sb) ∧ w'.cell? ⟨xg, k * 3 + 1, none⟩ = some (.int .i64 sn) ∧ w'.cell? ⟨xg, k * 3 + 2, none⟩ = some (.slice sA m sc)) ∧ Below w.heap.size W3 w') (by kernel_rfl) (HT3.out _ (Below.refl _ _).drew) (fun hHeld => ?_)
                refine wpAnyH_take (i := 0) (oi := ?o71) (v := ?v71) ?a71 (by kernel_rfl) (by kernel_rfl) (by kernel_rfl) ?q71 (Or.inl ⟨?g71, ?y71⟩) (by assumption) ?r71; (case' a71 => (simp only [List.getElem?_toArray, List.getElem?_cons_zero]; rfl)); (case' q71 => (exact fun _ _ _ h => h)); (case' g71 => rfl); (case' y71 => (intro w hSw; (try dsimp only at hSw); go_simp; try with_reducible rfl)); (case' r71 => (try simp only [Act.put, List.setIfInBounds_toArray, List.set_cons_zero, List.set_cons_succ]))
                refine wpAnyH_take (i := 1) (oi := ?o72) (v := ?v72) ?a72 (by kernel_rfl) (by kernel_rfl) (by kernel_rfl) ?q72 (Or.inl ⟨?g72, ?y72⟩) (by assumption) ?r72; (case' a72 => (simp only [List.getElem?_toArray, List.getElem?_cons_zero, List.getElem?_cons_succ]; rfl)); (case' q72 => (exact fun _ _ _ h => h)); (case' g72 => rfl); (case' y72 => (intro w hSw; (try dsimp only at hSw); go_simp; try with_reducible rfl)); (case' r72 => (try simp only [Act.put, List.setIfInBounds_toArray, List.set_cons_zero, List.set_cons_succ]))
                refine wpAnyH_take (i := 2) (oi := ?o73) (v := ?v73) ?a73 (by kernel_rfl) (by kernel_rfl) (by kernel_rfl) ?q73 (Or.inl ⟨?g73, ?y73⟩) (by assumption) ?r73; (case' a73 => (simp only [List.getElem?_toArray, List.getElem?_cons_zero, List.getElem?_cons_succ]; rfl)); (case' q73 => (exact fun _ _ _ h => h)); (case' g73 => rfl); (case' y73 => (intro w hSw; (try dsimp only at hSw); go_simp; try with_reducible rfl)); (case' r73 => (try simp only [Act.put, List.setIfInBounds_toArray, List.set_cons_zero, List.set_cons_succ]))
                refine wpAnyH_take (i := 3) (oi := ?o74) (v := ?v74) ?a74 (by kernel_rfl) (by kernel_rfl) (by kernel_rfl) ?q74 (Or.inl ⟨?g74, ?y74⟩) (by assumption) ?r74; (case' a74 => (simp only [List.getElem?_toArray, List.getElem?_cons_zero, List.getElem?_cons_succ]; rfl)); (case' q74 => (exact fun _ _ _ h => h)); (case' g74 => rfl); (case' y74 => (intro w hSw; (try dsimp only at hSw); go_simp; try with_reducible rfl)); (case' r74 => (try simp only [Act.put, List.setIfInBounds_toArray, List.set_cons_zero, List.set_cons_succ]))
                refine wpAnyH_take (i := 5) (oi := ?o75) (v := ?v75) ?a75 (by kernel_rfl) (by kernel_rfl) (by kernel_rfl) ?q75 (Or.inl ⟨?g75, ?y75⟩) (by assumption) ?r75; (case' a75 => (simp only [List.getElem?_toArray, List.getElem?_cons_zero, List.getElem?_cons_succ]; rfl)); (case' q75 => (exact fun _ _ _ h => h)); (case' g75 => rfl); (case' y75 => (intro w hSw; (try dsimp only at hSw); go_simp; try with_reducible rfl)); (case' r75 => (try simp only [Act.put, List.setIfInBounds_toArray, List.set_cons_zero, List.set_cons_succ]))
                refine wpAnyH_take (i := 6) (oi := ?o76) (v := ?v76) ?a76 (by kernel_rfl) (by kernel_rfl) (by kernel_rfl) ?q76 (Or.inl ⟨?g76, ?y76⟩) (by assumption) ?r76; (case' a76 => (simp only [List.getElem?_toArray, List.getElem?_cons_zero, List.getElem?_cons_succ]; rfl)); (case' q76 => (exact fun _ _ _ h => h)); (case' g76 => rfl); (case' y76 => (intro w hSw; (try dsimp only at hSw); go_simp; try with_reducible rfl)); (case' r76 => (try simp only [Act.put, List.setIfInBounds_toArray, List.set_cons_zero, List.set_cons_succ]))
                refine wpAnyH_take (i := 7) (oi := ?o77) (v := ?v77) ?a77 (by kernel_rfl) (by kernel_rfl) (by kernel_rfl) ?q77 (Or.inl ⟨?g77, ?y77⟩) (by assumption) ?r77; (case' a77 => (simp only [List.getElem?_toArray, List.getElem?_cons_zero, List.getElem?_cons_succ]; rfl)); (case' q77 => (exact fun _ _ _ h => h)); (case' g77 => rfl); (case' y77 => (intro w hSw; (try dsimp only at hSw); go_simp; try with_reducible rfl)); (case' r77 => (try simp only [Act.put, List.setIfInBounds_toArray, List.set_cons_zero, List.set_cons_succ]))
                refine wpAnyH_take (i := 8) (oi := ?o78) (v := ?v78) ?a78 (by kernel_rfl) (by kernel_rfl) (by kernel_rfl) ?q78 (Or.inl ⟨?g78, ?y78⟩) (by assumption) ?r78; (case' a78 => (simp only [List.getElem?_toArray, List.getElem?_cons_zero, List.getElem?_cons_succ]; rfl)); (case' q78 => (exact fun _ _ _ h => h)); (case' g78 => rfl); (case' y78 => (intro w hSw; (try dsimp only at hSw); go_simp; try with_reducible rfl)); (case' r78 => (try simp only [Act.put, List.setIfInBounds_toArray, List.set_cons_zero, List.set_cons_succ]))
                refine wpAnyH_ready (rs := [4, 9]) (by kernel_rfl) (by simp) ?_
                refine AllReadyH.cons (o := ?o79) ?a79 (fun K hK => ?s79) ?m79; (case' a79 => (simp only [List.getElem?_toArray, List.getElem?_cons_zero, List.getElem?_cons_succ]; rfl))
                case s79 =>
                  go_simp
                  refine hK.out _ _ (hHeld) (fun hHeld => ?_)
                  clear hK K
                  (try simp only [Act.put, List.setIfInBounds_toArray, List.set_cons_zero, List.set_cons_succ])
                  refine wpAnyH_ready (rs := [9]) (by kernel_rfl) (by simp) ?_
                  refine AllReadyH.cons (o := ?o80) ?a80 (fun K hK => ?s80) ?m80; (case' a80 => (simp only [List.getElem?_toArray, List.getElem?_cons_zero, List.getElem?_cons_succ]; rfl))
                  case s80 =>
                    go_simp
                    go_at_call 32
                    refine (rseg6_is sb sn sA m sc sL (Lib.hid (own_below HO3.out (Below.refl _ _).drew)) (by omega)).mono ?_
                    rintro e wn ⟨A4, c4, rfl, ho4, hbn⟩
                    have HB4 := Lib.hid ((Below.refl W3.heap.size W3).drew.trans hbn); have HO4 := Lib.hid ho4; have xk := (HB4.out.cell (p := ⟨kb, 1, none⟩) hk3).trans HX1.out; have hkn := Nat.lt_of_lt_of_le hk3 HB4.out.size; clear ho4 hbn
                    go_wp2_with fail
                    refine hK.out _ _ (HT3.out _ (HB4.out.mono hz3)) (fun hHeld => ?_)
                    clear hK K
                    (try simp only [Act.put, List.setIfInBounds_toArray, List.set_cons_zero, List.set_cons_succ])
                    refine wpAnyH_ready (rs := [10]) (by kernel_rfl) (by simp) ?_
                    refine AllReadyH.cons (o := ?o81) ?a81 (fun K hK => ?s81) ?m81; (case' a81 => (simp only [List.getElem?_toArray, List.getElem?_cons_zero, List.getElem?_cons_succ]; rfl))
                    case s81 =>
                      go_simp
                      refine hK.out _ _ (HT3.out _ (hHeld.2.alloc (Nat.le_trans hz3 HB4.out.size) _)) (fun hHeld => ?_)
                      clear hK K
                      (try simp only [Act.put, List.setIfInBounds_toArray, List.set_cons_zero, List.set_cons_succ])
                      refine wpAnyH_ready (rs := [11]) (by kernel_rfl) (by simp) ?_
                      refine AllReadyH.cons (o := ?o82) ?a82 (fun K hK => ?s82) ?m82; (case' a82 => (simp only [List.getElem?_toArray, List.getElem?_cons_zero, List.getElem?_cons_succ]; rfl))
                      case s82 =>
                        refine step_append_lies _ (by rfl) _ _ _ (by rfl) 0 53 i0 _ 3 40 Try.underlying51 hi0 hz0 hz1 hz2 rfl (by omega) (.slice Q k cap) k (rowS ss) (by rfl) ((own_below HOW.out HB4.out).alloc _) ⟨wn.heap.size, 0, none⟩ 1 1 [.int .i64 sb, .int .i64 sn, .slice A4 m c4] (by rfl) (by rfl) (World.news_of_block (cs := #[.int .i64 sb, .int .i64 sn, .slice A4 m c4]) (t := 53) (fr := (0, 0)) (heap_alloc_new wn _)) (by simp [Value.oneCell']) (by omega) (by unfold maxLen; omega) (by omega) (Nat.zero_le _) (wn.heap.size + 1) (by simp) ?_
                        intro gg cc w6 hown6 hgrow hat hltg
                        obtain ⟨q1, q2, q3, q4⟩ := LDI.out.added HB4.out HO4.out hown6 hgrow hat HM.out
                        have HLD := Lib.hid q1
                        clear hown6 hgrow hat hltg q1 xk hkn
                        refine hK.out _ _ (HT3.out _ q4) (fun hHeld => ?_)
                        clear hK K
                        (try simp only [Act.put, List.setIfInBounds_toArray, List.set_cons_zero, List.set_cons_succ])
                        refine wpAnyH_take (i := 12) (oi := ?o83) (v := ?v83) ?a83 (by kernel_rfl) (by kernel_rfl) (by kernel_rfl) ?q83 (Or.inl ⟨?g83, ?y83⟩) (by assumption) ?r83; (case' a83 => (simp only [List.getElem?_toArray, List.getElem?_cons_zero, List.getElem?_cons_succ]; rfl)); (case' q83 => (exact fun _ _ _ h => h)); (case' g83 => rfl); (case' y83 => (intro w hSw; (try dsimp only at hSw); go_simp; try with_reducible rfl)); (case' r83 => (try simp only [Act.put, List.setIfInBounds_toArray, List.set_cons_zero, List.set_cons_succ]))
                        refine wpAnyH_take (i := 13) (oi := ?o84) (v := ?v84) ?a84 (by kernel_rfl) (by kernel_rfl) (by kernel_rfl) ?q84 (Or.inl ⟨?g84, ?y84⟩) (by assumption) ?r84; (case' a84 => (simp only [List.getElem?_toArray, List.getElem?_cons_zero, List.getElem?_cons_succ]; rfl)); (case' q84 => (exact fun _ _ _ h => h)); (case' g84 => rfl); (case' y84 => (intro w hSw; (try dsimp only at hSw); go_simp; try with_reducible rfl)); (case' r84 => (try simp only [Act.put, List.setIfInBounds_toArray, List.set_cons_zero, List.set_cons_succ]))
                        refine wpAnyH_ready (rs := [14]) (by kernel_rfl) (by simp) ?_
                        refine AllReadyH.cons (o := ?o85) ?a85 (fun K hK => ?s85) ?m85; (case' a85 => (simp only [List.getElem?_toArray, List.getElem?_cons_zero, List.getElem?_cons_succ]; rfl))
                        case s85 =>
                          go_simp
                          refine hK.out _ _ (HT3.out _ (hHeld.2.setCell (p := ⟨kb, 1, none⟩) hkw _)) (fun hHeld => ?_)
                          clear hK K
                          (try simp only [Act.put, List.setIfInBounds_toArray, List.set_cons_zero, List.set_cons_succ])
                          refine wpAnyH_done (by kernel_rfl) ?_ _
                          clear hHeld q2 q3 q4
                          go_wp2_with fail
                          go_roundw
                          case rel => exact ⟨k + 1, _, _, _, by omega, by go_num, HLD⟩
                          case measure => simp [intOf]; omega
                        exact AllReadyH.nil
                      exact AllReadyH.nil
                    exact AllReadyH.nil
                  exact AllReadyH.nil
                refine AllReadyH.cons (o := ?o86) ?a86 (fun K hK => ?s86) ?m86; (case' a86 => (simp only [List.getElem?_toArray, List.getElem?_cons_zero, List.getElem?_cons_succ]; rfl))
                case s86 =>
                  go_simp
                  go_at_call 32
                  refine (rseg6_is sb sn sA m sc sL (Lib.hid (own_below HO3.out (Below.refl _ _).drew)) (by omega)).mono ?_
                  rintro e wn ⟨A4, c4, rfl, ho4, hbn⟩
                  have HB4 := Lib.hid ((Below.refl W3.heap.size W3).drew.trans hbn); have HO4 := Lib.hid ho4; have xk := (HB4.out.cell (p := ⟨kb, 1, none⟩) hk3).trans HX1.out; have hkn := Nat.lt_of_lt_of_le hk3 HB4.out.size; clear ho4 hbn
                  go_wp2_with fail
                  refine hK.out _ _ (HT3.out _ (HB4.out.mono hz3)) (fun hHeld => ?_)
                  clear hK K
                  (try simp only [Act.put, List.setIfInBounds_toArray, List.set_cons_zero, List.set_cons_succ])
                  refine wpAnyH_ready (rs := [4, 10]) (by kernel_rfl) (by simp) ?_
                  refine AllReadyH.cons (o := ?o87) ?a87 (fun K hK => ?s87) ?m87; (case' a87 => (simp only [List.getElem?_toArray, List.getElem?_cons_zero, List.getElem?_cons_succ]; rfl))
                  case s87 =>
                    go_simp
                    refine hK.out _ _ (hHeld) (fun hHeld => ?_)
                    clear hK K
                    (try simp only [Act.put, List.setIfInBounds_toArray, List.set_cons_zero, List.set_cons_succ])
                    refine wpAnyH_ready (rs := [10]) (by kernel_rfl) (by simp) ?_
                    refine AllReadyH.cons (o := ?o88) ?a88 (fun K hK => ?s88) ?m88; (case' a88 => (simp only [List.getElem?_toArray, List.getElem?_cons_zero, List.getElem?_cons_succ]; rfl))
                    case s88 =>
                      go_simp
                      refine hK.out _ _ (HT3.out _ (hHeld.2.alloc (Nat.le_trans hz3 HB4.out.size) _)) (fun hHeld => ?_)
                      clear hK K
                      (try simp only [Act.put, List.setIfInBounds_toArray, List.set_cons_zero, List.set_cons_succ])
                      refine wpAnyH_ready (rs := [11]) (by kernel_rfl) (by simp) ?_
                      refine AllReadyH.cons (o := ?o89) ?a89 (fun K hK => ?s89) ?m89; (case' a89 => (simp only [List.getElem?_toArray, List.getElem?_cons_zero, List.getElem?_cons_succ]; rfl))
                      case s89 =>
                        refine step_append_lies _ (by rfl) _ _ _ (by rfl) 0 53 i0 _ 3 40 Try.underlying51 hi0 hz0 hz1 hz2 rfl (by omega) (.slice Q k cap) k (rowS ss) (by rfl) ((own_below HOW.out HB4.out).alloc _) ⟨wn.heap.size, 0, none⟩ 1 1 [.int .i64 sb, .int .i64 sn, .slice A4 m c4] (by rfl) (by rfl) (World.news_of_block (cs := #[.int .i64 sb, .int .i64 sn, .slice A4 m c4]) (t := 53) (fr := (0, 0)) (heap_alloc_new wn _)) (by simp [Value.oneCell']) (by omega) (by unfold maxLen; omega) (by omega) (Nat.zero_le _) (wn.heap.size + 1) (by simp) ?_
                        intro gg cc w6 hown6 hgrow hat hltg
                        obtain ⟨q1, q2, q3, q4⟩ := LDI.out.added HB4.out HO4.out hown6 hgrow hat HM.out
                        have HLD := Lib.hid q1
                        clear hown6 hgrow hat hltg q1 xk hkn
                        refine hK.out _ _ (HT3.out _ q4) (fun hHeld => ?_)
                        clear hK K
                        (try simp only [Act.put, List.setIfInBounds_toArray, List.set_cons_zero, List.set_cons_succ])
                        refine wpAnyH_take (i := 12) (oi := ?o90) (v := ?v90) ?a90 (by kernel_rfl) (by kernel_rfl) (by kernel_rfl) ?q90 (Or.inl ⟨?g90, ?y90⟩) (by assumption) ?r90; (case' a90 => (simp only [List.getElem?_toArray, List.getElem?_cons_zero, List.getElem?_cons_succ]; rfl)); (case' q90 => (exact fun _ _ _ h => h)); (case' g90 => rfl); (case' y90 => (intro w hSw; (try dsimp only at hSw); go_simp; try with_reducible rfl)); (case' r90 => (try simp only [Act.put, List.setIfInBounds_toArray, List.set_cons_zero, List.set_cons_succ]))
                        refine wpAnyH_take (i := 13) (oi := ?o91) (v := ?v91) ?a91 (by kernel_rfl) (by kernel_rfl) (by kernel_rfl) ?q91 (Or.inl ⟨?g91, ?y91⟩) (by assumption) ?r91; (case' a91 => (simp only [List.getElem?_toArray, List.getElem?_cons_zero, List.getElem?_cons_succ]; rfl)); (case' q91 => (exact fun _ _ _ h => h)); (case' g91 => rfl); (case' y91 => (intro w hSw; (try dsimp only at hSw); go_simp; try with_reducible rfl)); (case' r91 => (try simp only [Act.put, List.setIfInBounds_toArray, List.set_cons_zero, List.set_cons_succ]))
                        refine wpAnyH_ready (rs := [14]) (by kernel_rfl) (by simp) ?_
                        refine AllReadyH.cons (o := ?o92) ?a92 (fun K hK => ?s92) ?m92; (case' a92 => (simp only [List.getElem?_toArray, List.getElem?_cons_zero, List.getElem?_cons_succ]; rfl))
                        case s92 =>
                          go_simp
                          refine hK.out _ _ (HT3.out _ (hHeld.2.setCell (p := ⟨kb, 1, none⟩) hkw _)) (fun hHeld => ?_)
                          clear hK K
                          (try simp only [Act.put, List.setIfInBounds_toArray, List.set_cons_zero, List.set_cons_succ])
                          refine wpAnyH_done (by kernel_rfl) ?_ _
                          clear hHeld q2 q3 q4
                          go_wp2_with fail
                          go_roundw
                          case rel => exact ⟨k + 1, _, _, _, by omega, by go_num, HLD⟩
                          case measure => simp [intOf]; omega
                        exact AllReadyH.nil
                      exact AllReadyH.nil
                    exact AllReadyH.nil
                  refine AllReadyH.cons (o := ?o93) ?a93 (fun K hK => ?s93) ?m93; (case' a93 => (simp only [List.getElem?_toArray, List.getElem?_cons_zero, List.getElem?_cons_succ]; rfl))
                  case s93 =>
                    go_simp
                    refine hK.out _ _ (HT3.out _ (hHeld.2.alloc (Nat.le_trans hz3 HB4.out.size) _)) (fun hHeld => ?_)
                    clear hK K
                    (try simp only [Act.put, List.setIfInBounds_toArray, List.set_cons_zero, List.set_cons_succ])
                    refine wpAnyH_ready (rs := [4]) (by kernel_rfl) (by simp) ?_
                    refine AllReadyH.cons (o := ?o94) ?a94 (fun K hK => ?s94) ?m94; (case' a94 => (simp only [List.getElem?_toArray, List.getElem?_cons_zero, List.getElem?_cons_succ]; rfl))
                    case s94 =>
                      go_simp
                      refine hK.out _ _ (hHeld) (fun hHeld => ?_)
                      clear hK K
                      (try simp only [Act.put, List.setIfInBounds_toArray, List.set_cons_zero, List.set_cons_succ])
                      refine wpAnyH_ready (rs := [11]) (by kernel_rfl) (by simp) ?_
                      refine AllReadyH.cons (o := ?o95) ?a95 (fun K hK => ?s95) ?m95; (case' a95 => (simp only [List.getElem?_toArray, List.getElem?_cons_zero, List.getElem?_cons_succ]; rfl))
                      case s95 =>
                        refine step_append_lies _ (by rfl) _ _ _ (by rfl) 0 53 i0 _ 3 40 Try.underlying51 hi0 hz0 hz1 hz2 rfl (by omega) (.slice Q k cap) k (rowS ss) (by rfl) ((own_below HOW.out HB4.out).alloc _) ⟨wn.heap.size, 0, none⟩ 1 1 [.int .i64 sb, .int .i64 sn, .slice A4 m c4] (by rfl) (by rfl) (World.news_of_block (cs := #[.int .i64 sb, .int .i64 sn, .slice A4 m c4]) (t := 53) (fr := (0, 0)) (heap_alloc_new wn _)) (by simp [Value.oneCell']) (by omega) (by unfold maxLen; omega) (by omega) (Nat.zero_le _) (wn.heap.size + 1) (by simp) ?_
                        intro gg cc w6 hown6 hgrow hat hltg
                        obtain ⟨q1, q2, q3, q4⟩ := LDI.out.added HB4.out HO4.out hown6 hgrow hat HM.out
                        have HLD := Lib.hid q1
                        clear hown6 hgrow hat hltg q1 xk hkn
                        refine hK.out _ _ (HT3.out _ q4) (fun hHeld => ?_)
                        clear hK K
                        (try simp only [Act.put, List.setIfInBounds_toArray, List.set_cons_zero, List.set_cons_succ])
                        refine wpAnyH_take (i := 12) (oi := ?o96) (v := ?v96) ?a96 (by kernel_rfl) (by kernel_rfl) (by kernel_rfl) ?q96 (Or.inl ⟨?g96, ?y96⟩) (by assumption) ?r96; (case' a96 => (simp only [List.getElem?_toArray, List.getElem?_cons_zero, List.getElem?_cons_succ]; rfl)); (case' q96 => (exact fun _ _ _ h => h)); (case' g96 => rfl); (case' y96 => (intro w hSw; (try dsimp only at hSw); go_simp; try with_reducible rfl)); (case' r96 => (try simp only [Act.put, List.setIfInBounds_toArray, List.set_cons_zero, List.set_cons_succ]))
                        refine wpAnyH_take (i := 13) (oi := ?o97) (v := ?v97) ?a97 (by kernel_rfl) (by kernel_rfl) (by kernel_rfl) ?q97 (Or.inl ⟨?g97, ?y97⟩) (by assumption) ?r97; (case' a97 => (simp only [List.getElem?_toArray, List.getElem?_cons_zero, List.getElem?_cons_succ]; rfl)); (case' q97 => (exact fun _ _ _ h => h)); (case' g97 => rfl); (case' y97 => (intro w hSw; (try dsimp only at hSw); go_simp; try with_reducible rfl)); (case' r97 => (try simp only [Act.put, List.setIfInBounds_toArray, List.set_cons_zero, List.set_cons_succ]))
                        refine wpAnyH_ready (rs := [14]) (by kernel_rfl) (by simp) ?_
                        refine AllReadyH.cons (o := ?o98) ?a98 (fun K hK => ?s98) ?m98; (case' a98 => (simp only [List.getElem?_toArray, List.getElem?_cons_zero, List.getElem?_cons_succ]; rfl))
                        case s98 =>
                          go_simp
                          refine hK.out _ _ (HT3.out _ (hHeld.2.setCell (p := ⟨kb, 1, none⟩) hkw _)) (fun hHeld => ?_)
                          clear hK K
                          (try simp only [Act.put, List.setIfInBounds_toArray, List.set_cons_zero, List.set_cons_succ])
                          refine wpAnyH_done (by kernel_rfl) ?_ _
                          clear hHeld q2 q3 q4
                          go_wp2_with fail
                          go_roundw
                          case rel => exact ⟨k + 1, _, _, _, by omega, by go_num, HLD⟩
                          case measure => simp [intOf]; omega
                        exact AllReadyH.nil
                      exact AllReadyH.nil
                    exact AllReadyH.nil
                  exact AllReadyH.nil
                exact AllReadyH.nil
              · have v1 : (sb == pn) = false := by simpa using hpn
                have v2 : (sb != pn) = true := by simpa using hpn
                have hx : x = 1 := by
                  have := HNX2.out
                  rwa [if_pos (.inr ⟨pn, hprev, hpn⟩)] at this
                subst hx
                clear HNX2 hprev hp hq hpn
                go_wp2_with fail
                go_quiet (fail)
                go_wp2_with fail
                go_ret2
                exact .inl ⟨by decide, rfl, drewN_below hbw _⟩
        exact AllReadyH.nil
      · have hx : x = y := by have := HNX.out; rwa [if_pos hy0] at this
        subst hx
        have HY0 := Lib.hid hy0
        have hy1 : (x != 0) = true := by simpa using hy0
        clear hy0
        go_wp2_with fail
        refine wp_region_held_drew (S := fun w' => (w'.cell? ⟨xg, k * 3, none⟩ = some (.int .i64 sb) ∧ w'.cell? ⟨xg, k * 3 + 1, none⟩ = some (.int .i64 sn) ∧ w'.cell? ⟨xg, k * 3 + 2, none⟩ = some (.slice sA m sc)) ∧ Below wr.heap.size wr w') (by kernel_rfl) (HT.out _ (Below.refl _ _).drew) (fun hHeld => ?_)
        refine wpAnyH_take (i := 0) (oi := ?o1) (v := ?v1) ?a1 (by kernel_rfl) (by kernel_rfl) (by kernel_rfl) ?q1 (Or.inl ⟨?g1, ?y1⟩) (by assumption) ?r1; (case' a1 => (simp only [List.getElem?_toArray, List.getElem?_cons_zero]; rfl)); (case' q1 => (exact fun _ _ _ h => h)); (case' g1 => rfl); (case' y1 => (intro w hSw; (try dsimp only at hSw); go_simp; try with_reducible rfl)); (case' r1 => (try simp only [Act.put, List.setIfInBounds_toArray, List.set_cons_zero, List.set_cons_succ]))
        refine wpAnyH_take (i := 1) (oi := ?o2) (v := ?v2) ?a2 (by kernel_rfl) (by kernel_rfl) (by kernel_rfl) ?q2 (Or.inl ⟨?g2, ?y2⟩) (by assumption) ?r2; (case' a2 => (simp only [List.getElem?_toArray, List.getElem?_cons_zero, List.getElem?_cons_succ]; rfl)); (case' q2 => (exact fun _ _ _ h => h)); (case' g2 => rfl); (case' y2 => (intro w hSw; (try dsimp only at hSw); go_simp; try with_reducible rfl)); (case' r2 => (try simp only [Act.put, List.setIfInBounds_toArray, List.set_cons_zero, List.set_cons_succ]))
        refine wpAnyH_take (i := 2) (oi := ?o3) (v := ?v3) ?a3 (by kernel_rfl) (by kernel_rfl) (by kernel_rfl) ?q3 (Or.inl ⟨?g3, ?y3⟩) (by assumption) ?r3; (case' a3 => (simp only [List.getElem?_toArray, List.getElem?_cons_zero, List.getElem?_cons_succ]; rfl)); (case' q3 => (exact fun _ _ _ h => h)); (case' g3 => rfl); (case' y3 => (intro w hSw; (try dsimp only at hSw); go_simp; try with_reducible rfl)); (case' r3 => (try simp only [Act.put, List.setIfInBounds_toArray, List.set_cons_zero, List.set_cons_succ]))
        refine wpAnyH_take (i := 3) (oi := ?o4) (v := ?v4) ?a4 (by kernel_rfl) (by kernel_rfl) (by kernel_rfl) ?q4 (Or.inl ⟨?g4, ?y4⟩) (by assumption) ?r4; (case' a4 => (simp only [List.getElem?_toArray, List.getElem?_cons_zero, List.getElem?_cons_succ]; rfl)); (case' q4 => (exact fun _ _ _ h => h)); (case' g4 => rfl); (case' y4 => (intro w hSw; (try dsimp only at hSw); go_simp; try with_reducible rfl)); (case' r4 => (try simp only [Act.put, List.setIfInBounds_toArray, List.set_cons_zero, List.set_cons_succ]))
        refine wpAnyH_take (i := 4) (oi := ?o5) (v := ?v5) ?a5 (by kernel_rfl) (by kernel_rfl) (by kernel_rfl) ?q5 (Or.inl ⟨?g5, ?y5⟩) (by assumption) ?r5; (case' a5 => (simp only [List.getElem?_toArray, List.getElem?_cons_zero, List.getElem?_cons_succ]; rfl)); (case' q5 => (exact fun _ _ _ h => h)); (case' g5 => rfl); (case' y5 => (intro w hSw; (try dsimp only at hSw); go_simp; try with_reducible rfl)); (case' r5 => (try simp only [Act.put, List.setIfInBounds_toArray, List.set_cons_zero, List.set_cons_succ]))
        refine wpAnyH_take (i := 5) (oi := ?o6) (v := ?v6) ?a6 (by kernel_rfl) (by kernel_rfl) (by kernel_rfl) ?q6 (Or.inl ⟨?g6, ?y6⟩) (by assumption) ?r6; (case' a6 => (simp only [List.getElem?_toArray, List.getElem?_cons_zero, List.getElem?_cons_succ]; rfl)); (case' q6 => (exact fun _ _ _ h => h)); (case' g6 => rfl); (case' y6 => (intro w hSw; (try dsimp only at hSw); go_simp; try with_reducible rfl)); (case' r6 => (try simp only [Act.put, List.setIfInBounds_toArray, List.set_cons_zero, List.set_cons_succ]))
        refine wpAnyH_take (i := 6) (oi := ?o7) (v := ?v7) ?a7 (by kernel_rfl) (by kernel_rfl) (by kernel_rfl) ?q7 (Or.inl ⟨?g7, ?y7⟩) (by assumption) ?r7; (case' a7 => (simp only [List.getElem?_toArray, List.getElem?_cons_zero, List.getElem?_cons_succ]; rfl)); (case' q7 => (exact fun _ _ _ h => h)); (case' g7 => rfl); (case' y7 => (intro w hSw; (try dsimp only at hSw); go_simp; try with_reducible rfl)); (case' r7 => (try simp only [Act.put, List.setIfInBounds_toArray, List.set_cons_zero, List.set_cons_succ]))
        refine wpAnyH_take (i := 7) (oi := ?o8) (v := ?v8) ?a8 (by kernel_rfl) (by kernel_rfl) (by kernel_rfl) ?q8 (Or.inl ⟨?g8, ?y8⟩) (by assumption) ?r8; (case' a8 => (simp only [List.getElem?_toArray, List.getElem?_cons_zero, List.getElem?_cons_succ]; rfl)); (case' q8 => (exact fun _ _ _ h => h)); (case' g8 => rfl); (case' y8 => (intro w hSw; (try dsimp only at hSw); go_simp; try with_reducible rfl)); (case' r8 => (try simp only [Act.put, List.setIfInBounds_toArray, List.set_cons_zero, List.set_cons_succ]))
        refine wpAnyH_take (i := 8) (oi := ?o9) (v := ?v9) ?a9 (by kernel_rfl) (by kernel_rfl) (by kernel_rfl) ?q9 (Or.inl ⟨?g9, ?y9⟩) (by assumption) ?r9; (case' a9 => (simp only [List.getElem?_toArray, List.getElem?_cons_zero, List.getElem?_cons_succ]; rfl)); (case' q9 => (exact fun _ _ _ h => h)); (case' g9 => rfl); (case' y9 => (intro w hSw; (try dsimp only at hSw); go_simp; try with_reducible rfl)); (case' r9 => (try simp only [Act.put, List.setIfInBounds_toArray, List.set_cons_zero, List.set_cons_succ]))
        refine wpAnyH_take (i := 9) (oi := ?o10) (v := ?v10) ?a10 (by kernel_rfl) (by kernel_rfl) (by kernel_rfl) ?q10 (Or.inl ⟨?g10, ?y10⟩) (by assumption) ?r10; (case' a10 => (simp only [List.getElem?_toArray, List.getElem?_cons_zero, List.getElem?_cons_succ]; rfl)); (case' q10 => (exact fun _ _ _ h => h)); (case' g10 => rfl); (case' y10 => (intro w hSw; (try dsimp only at hSw); go_simp; try with_reducible rfl)); (case' r10 => (try simp only [Act.put, List.setIfInBounds_toArray, List.set_cons_zero, List.set_cons_succ]))
        refine wpAnyH_take (i := 10) (oi := ?o11) (v := ?v11) ?a11 (by kernel_rfl) (by kernel_rfl) (by kernel_rfl) ?q11 (Or.inl ⟨?g11, ?y11⟩) (by assumption) ?r11; (case' a11 => (simp only [List.getElem?_toArray, List.getElem?_cons_zero, List.getElem?_cons_succ]; rfl)); (case' q11 => (exact fun _ _ _ h => h)); (case' g11 => rfl); (case' y11 => (intro w hSw; (try dsimp only at hSw); go_simp; try with_reducible rfl)); (case' r11 => (try simp only [Act.put, List.setIfInBounds_toArray, List.set_cons_zero, List.set_cons_succ]))
        refine wpAnyH_take (i := 11) (oi := ?o12) (v := ?v12) ?a12 (by kernel_rfl) (by kernel_rfl) (by kernel_rfl) ?q12 (Or.inl ⟨?g12, ?y12⟩) (by assumption) ?r12; (case' a12 => (simp only [List.getElem?_toArray, List.getElem?_cons_zero, List.getElem?_cons_succ]; rfl)); (case' q12 => (exact fun _ _ _ h => h)); (case' g12 => rfl); (case' y12 => (intro w hSw; (try dsimp only at hSw); go_simp; try with_reducible rfl)); (case' r12 => (try simp only [Act.put, List.setIfInBounds_toArray, List.set_cons_zero, List.set_cons_succ]))
        refine wpAnyH_take (i := 12) (oi := ?o13) (v := ?v13) ?a13 (by kernel_rfl) (by kernel_rfl) (by kernel_rfl) ?q13 (Or.inl ⟨?g13, ?y13⟩) (by assumption) ?r13; (case' a13 => (simp only [List.getElem?_toArray, List.getElem?_cons_zero, List.getElem?_cons_succ]; rfl)); (case' q13 => (exact fun _ _ _ h => h)); (case' g13 => rfl); (case' y13 => (intro w hSw; (try dsimp only at hSw); go_simp; try with_reducible rfl)); (case' r13 => (try simp only [Act.put, List.setIfInBounds_toArray, List.set_cons_zero, List.set_cons_succ]))
        refine wpAnyH_take (i := 13) (oi := ?o14) (v := ?v14) ?a14 (by kernel_rfl) (by kernel_rfl) (by kernel_rfl) ?q14 (Or.inl ⟨?g14, ?y14⟩) (by assumption) ?r14; (case' a14 => (simp only [List.getElem?_toArray, List.getElem?_cons_zero, List.getElem?_cons_succ]; rfl)); (case' q14 => (exact fun _ _ _ h => h)); (case' g14 => rfl); (case' y14 => (intro w hSw; (try dsimp only at hSw); go_simp; try with_reducible rfl)); (case' r14 => (try simp only [Act.put, List.setIfInBounds_toArray, List.set_cons_zero, List.set_cons_succ]))
        refine wpAnyH_take (i := 14) (oi := ?o15) (v := ?v15) ?a15 (by kernel_rfl) (by kernel_rfl) (by kernel_rfl) ?q15 (Or.inl ⟨?g15, ?y15⟩) (by assumption) ?r15; (case' a15 => (simp only [List.getElem?_toArray, List.getElem?_cons_zero, List.getElem?_cons_succ]; rfl)); (case' q15 => (exact fun _ _ _ h => h)); (case' g15 => rfl); (case' y15 => (intro w hSw; (try dsimp only at hSw); go_simp; try with_reducible rfl)); (case' r15 => (try simp only [Act.put, List.setIfInBounds_toArray, List.set_cons_zero, List.set_cons_succ]))
        refine wpAnyH_ready (rs := [15]) (by kernel_rfl) (by simp) ?_
        refine AllReadyH.cons (o := ?o16) ?a16 (fun K hK => ?s16) ?m16; (case' a16 => (simp only [List.getElem?_toArray, List.getElem?_cons_zero, List.getElem?_cons_succ]; rfl))
        case s16 =>
          go_simp
          go_at_call 50
          refine (rload5_no sb sn sA sc m B x (Lib.hid (readsF_below HRF.out (hHeld.2.mono hBz))) (Nat.le_trans hBz hHeld.2.size) HM.out HLM.out HSM HY HY0.out (Lib.hid (own_below HO5.out hHeld.2))).mono ?_
          rintro e wn ⟨rfl, hbn⟩
          go_wp2_with fail
          refine hK.out _ _ (HT.out _ (acc hHeld.2 hbn)) (fun hHeld => ?_)
          clear hK K
          (try simp only [Act.put, List.setIfInBounds_toArray, List.set_cons_zero, List.set_cons_succ])
          refine wpAnyH_take (i := 16) (oi := ?o17) (v := ?v17) ?a17 (by kernel_rfl) (by kernel_rfl) (by kernel_rfl) ?q17 (Or.inl ⟨?g17, ?y17⟩) (by assumption) ?r17; (case' a17 => (simp only [List.getElem?_toArray, List.getElem?_cons_zero, List.getElem?_cons_succ]; rfl)); (case' q17 => (exact fun _ _ _ h => h)); (case' g17 => rfl); (case' y17 => (intro w hSw; (try dsimp only at hSw); go_simp; try with_reducible rfl)); (case' r17 => (try simp only [Act.put, List.setIfInBounds_toArray, List.set_cons_zero, List.set_cons_succ]))
          refine wpAnyH_take (i := 17) (oi := ?o18) (v := ?v18) ?a18 (by kernel_rfl) (by kernel_rfl) (by kernel_rfl) ?q18 (Or.inl ⟨?g18, ?y18⟩) (by assumption) ?r18; (case' a18 => (simp only [List.getElem?_toArray, List.getElem?_cons_zero, List.getElem?_cons_succ]; rfl)); (case' q18 => (exact fun _ _ _ h => h)); (case' g18 => rfl); (case' y18 => (intro w hSw; (try dsimp only at hSw); go_simp; try with_reducible rfl)); (case' r18 => (try simp only [Act.put, List.setIfInBounds_toArray, List.set_cons_zero, List.set_cons_succ]))
          refine wpAnyH_take (i := 18) (oi := ?o19) (v := ?v19) ?a19 (by kernel_rfl) (by kernel_rfl) (by kernel_rfl) ?q19 (Or.inl ⟨?g19, ?y19⟩) (by assumption) ?r19; (case' a19 => (simp only [List.getElem?_toArray, List.getElem?_cons_zero, List.getElem?_cons_succ]; rfl)); (case' q19 => (exact fun _ _ _ h => h)); (case' g19 => rfl); (case' y19 => (intro w hSw; (try dsimp only at hSw); go_simp; try with_reducible rfl)); (case' r19 => (try simp only [Act.put, List.setIfInBounds_toArray, List.set_cons_zero, List.set_cons_succ]))
          refine wpAnyH_take (i := 19) (oi := ?o20) (v := ?v20) ?a20 (by kernel_rfl) (by kernel_rfl) (by kernel_rfl) ?q20 (Or.inl ⟨?g20, ?y20⟩) (by assumption) ?r20; (case' a20 => (simp only [List.getElem?_toArray, List.getElem?_cons_zero, List.getElem?_cons_succ]; rfl)); (case' q20 => (exact fun _ _ _ h => h)); (case' g20 => rfl); (case' y20 => (intro w hSw; (try dsimp only at hSw); go_simp; try with_reducible rfl)); (case' r20 => (try simp only [Act.put, List.setIfInBounds_toArray, List.set_cons_zero, List.set_cons_succ]))
          refine wpAnyH_take (i := 20) (oi := ?o21) (v := ?v21) ?a21 (by kernel_rfl) (by kernel_rfl) (by kernel_rfl) ?q21 (Or.inl ⟨?g21, ?y21⟩) (by assumption) ?r21; (case' a21 => (simp only [List.getElem?_toArray, List.getElem?_cons_zero, List.getElem?_cons_succ]; rfl)); (case' q21 => (exact fun _ _ _ h => h)); (case' g21 => rfl); (case' y21 => (intro w hSw; (try dsimp only at hSw); go_simp; try with_reducible rfl)); (case' r21 => (try simp only [Act.put, List.setIfInBounds_toArray, List.set_cons_zero, List.set_cons_succ]))
          refine wpAnyH_done (by kernel_rfl) ?_ _
          go_wp2_with fail
          go_ret2
          exact .inl ⟨HY0.out, rfl, acc hold hHeld.2⟩
        exact AllReadyH.nil
    · obtain rfl : k = n := by omega
      have hx0 : x = 0 := by have := hr.out.err; rw [List.drop_of_length_le (by rw [HN.out]; exact Nat.le_refl _)] at this; exact this.symm
      subst hx0
      go_wp2_with fail
      go_ret2
      exact .inr ⟨rfl, kb, _, rfl, hold, hr.out.since, Q, cap, ss, rfl, by rw [hr.out.same, List.take_of_length_le (by rw [HN.out]; exact Nat.le_refl _)], hr.out.log⟩

theorem rload6_is (room : Int) (X : Option Addr) (l : List Sa) (n xc B : Nat) (x : Int) (w : World) (hR : Hid (ReadsS w B X l)) (hO : Hid (∀ s ∈ l, w.ownsRow 0 43 5 (.slice s.A s.L.length s.c) s.L.length (rowF s.L))) (hB : B ≤ w.heap.size) (hn : l.length = n) (hl : n ≤ 900) (hs : Hid (∀ s ∈ l, s.L.length ≤ maxLen ∧ ∀ f ∈ s.L, f.r.key.size ≤ maxLen ∧ f.r.val.size ≤ maxLen)) (HX : Hid (loadE6 room (l.map Sa.s) = x)) :
    Calls Try.prog 22 #[.int .i64 room, .slice X n xc] w (NewD w room.toNat x (l.map Sa.s)) := by
  have hx := HX.out
  unfold loadE6 at hx
  by_cases hb : room < 1 ∨ 64 < room ∨ n = 0
  · rw [if_pos (by rcases hb with h | h | h; exact .inl h; exact .inr (.inl h); exact .inr (.inr (by rw [List.map_eq_nil_iff]; exact List.eq_nil_of_length_eq_zero (by omega))))] at hx
    subst hx
    refine (rload6_arg room X n xc w (Lib.hid hb)).mono ?_
    rintro e w' ⟨rfl, hb'⟩
    exact .inl ⟨by decide, rfl, hb'⟩
  · rw [if_neg (by rintro (h | h | h); exact hb (.inl h); exact hb (.inr (.inl h)); exact hb (.inr (.inr (by rw [List.map_eq_nil_iff] at h; rw [← hn, h]; rfl))))] at hx
    have e : ((room.toNat : Nat) : Int) = room := by omega
    have := rload6_run room.toNat X l n xc B x w hR hO hB hn (by omega) (by omega) (by omega) hl hs (Lib.hid hx)
    rwa [e] at this
end Go.Proofs.Ytflcggpeflagiaa.L6
/-
  Arguments that are segments; rows of two kinds lie apart.
-/
namespace Go.Proofs.Ytflcggpeflagiaa.L6
open Go.ChangeShapes Go.WideShapes Go.RowKit Go.Deep
open L3 L4 L5

def SegsO (w : World) (B : Nat) (A : Option Addr) (l : List Sa) : Prop :=
  0 < l.length → ∃ g o, A = some ⟨g, o, none⟩ ∧ g < B ∧ ∀ i r, l[i]? = some r → w.cell? ⟨g, o + i * 3, none⟩ = some (.int .i64 r.b) ∧ w.cell? ⟨g, o + i * 3 + 1, none⟩ = some (.int .i64 r.n) ∧ w.cell? ⟨g, o + i * 3 + 2, none⟩ = some (.slice r.A r.L.length r.c)
def IsSegs1 (w : World) (r : Sa) : Prop := IsFds w r.A r.L ∧ (Lit.int .i64 r.b).wf = true ∧ (Lit.int .i64 r.n).wf = true
def IsSegs (w : World) (A : Option Addr) (l : List Sa) : Prop := Hid (SegsO w w.heap.size A l) ∧ Hid (∀ r ∈ l, IsSegs1 w r) ∧ l.length ≤ maxLen
section
variable {H : Type} {enc : TypeId × Value → H} {w : World} {base : Nat} {spare : Nat → Bool} {held : Bool}
set_option maxRecDepth 100000 in
theorem cells_seg6 {n : Nat} {cs : List Value} {x : DataW H × List MemPlace} (h : DataW.trod enc Try.prog w base spare held n 53 cs = some x) :
    ∃ r : Sa, cs = [.int .i64 r.b, .int .i64 r.n, .slice r.A r.L.length r.c] ∧ IsSegs1 w r := by
  obtain ⟨xs, m, _, _, hl, hxl, hg⟩ := DataW.trod_struct Try.underlying53 h
  have hl5 : cs.length = 3 := hl.trans (by kernel_rfl)
  have hx5 : xs.length = 3 := hxl
  match cs, hl5 with
  | [c0, c1, c2], _ =>
    match xs, hx5 with
    | [y0, y1, y2], _ =>
      have f0 : DataW.trod enc Try.prog w base spare held m 3 (([c0, c1, c2].drop 0).take (Try.prog.cellsOf 3)) = some y0 := hg 0 _ rfl
      have f1 : DataW.trod enc Try.prog w base spare held m 3 (([c0, c1, c2].drop 1).take (Try.prog.cellsOf 3)) = some y1 := hg 1 _ rfl
      have f2 : DataW.trod enc Try.prog w base spare held m 36 (([c0, c1, c2].drop 2).take (Try.prog.cellsOf 36)) = some y2 := hg 2 _ rfl
      have zi : Try.prog.cellsOf 3 = 1 := by kernel_rfl
      have zr : Try.prog.cellsOf 36 = 1 := by kernel_rfl
      rw [zi] at f0 f1
      rw [zr] at f2
      obtain ⟨a0, e0, w0⟩ := cells_num f0
      obtain ⟨a1, e1, w1⟩ := cells_num f1
      obtain ⟨A2, l2, k2, e2, i2⟩ := cells_fds f2
      simp at e0 e1 e2
      subst e0 e1 e2
      exact ⟨⟨a0, a1, A2, k2, l2⟩, rfl, i2, w0, w1⟩
set_option maxRecDepth 100000 in
theorem cells_segs {n : Nat} {cs : List Value} {x : DataW H × List MemPlace} (h : DataW.trod enc Try.prog w base spare held n 51 cs = some x) :
    ∃ (A : Option Addr) (l : List Sa) (cap : Nat), cs = [.slice A l.length cap] ∧ IsSegs w A l := by
  rcases open_slice Try.underlying51 h with ⟨rfl, _⟩ | ⟨a, len, cap, m, n', D, Pl, rfl, _, hl, hm, hmm, _, hi⟩
  · exact ⟨none, [], 0, rfl, Lib.hid (fun h0 => absurd h0 (by simp)), Lib.hid (fun r hr => by simp at hr), by simp⟩
  · have hle : len ≤ m := by rw [hmm]; split <;> omega
    have zE : Try.prog.cellsOf 53 = 0 + 3 := by kernel_rfl
    rw [zE, Nat.zero_add] at hi
    have hrec : ∀ i, ∃ r : Sa, i < len → (IsSegs1 w r) ∧ ∀ j, j < 0 + 3 → w.cell? (a.add (i * (0 + 3) + j)) = [Value.int .i64 r.b, Value.int .i64 r.n, Value.slice r.A r.L.length r.c][j]? := by
      intro i
      by_cases him : i < len
      · obtain ⟨cs', hc, ht⟩ := hi i (by omega)
        obtain ⟨c, e, h1⟩ := cells_seg6 ht
        obtain ⟨_, _, hcell⟩ := World.cells?_some hc
        refine ⟨c, fun _ => ⟨h1, fun j hj => ?_⟩⟩
        rw [Nat.zero_add] at hj ⊢
        rw [← Addr.add_add, hcell j hj, e]
      · exact ⟨⟨0, 0, none, 0, []⟩, fun h => absurd h him⟩
    obtain ⟨f, hf⟩ := Classical.axiomOfChoice hrec
    have hlen : ((List.range len).map f).length = len := by simp
    refine ⟨some a, (List.range len).map f, cap, by rw [hlen], Lib.hid (fun h0 => ?_), Lib.hid (fun r hr => ?_), by rw [hlen]; omega⟩
    · rw [hlen] at h0
      have c0 := (hf 0 h0).2 0 (by omega)
      have hsp : a.spot = none := spotNone (by simpa [Addr.add] using c0 : w.cell? a = some _)
      obtain ⟨g, o, sp⟩ := a
      have hsp' : sp = none := hsp
      subst hsp'
      have hadd : ∀ j, (⟨g, o, none⟩ : Addr).add j = ⟨g, o + j, none⟩ := fun j => by unfold Addr.add; split <;> simp_all
      have hg : g < w.heap.size := World.block_lt_of_cell? w _ (by simpa [Addr.add] using c0 : w.cell? ⟨g, o, none⟩ = some _)
      refine ⟨g, o, rfl, hg, fun i r hr => ?_⟩
      have hir : i < len ∧ f i = r := by
        have h1 := (List.getElem?_eq_some_iff.1 hr).1
        rw [hlen] at h1
        refine ⟨h1, ?_⟩
        have h2 : ((List.range len).map f)[i]? = some (f i) := by simp [h1]
        rw [h2] at hr
        exact Option.some.inj hr
      obtain ⟨him, rfl⟩ := hir
      have q := (hf i him).2
      have q0 := q 0 (by omega); have q1 := q 1 (by omega); have q2 := q 2 (by omega)
      rw [hadd] at q0 q1 q2
      simp only [Nat.add_zero, Nat.zero_add, ← Nat.add_assoc] at q0 q1 q2
      exact ⟨q0, q1, q2⟩
    · simp only [List.mem_map, List.mem_range] at hr
      obtain ⟨i, hi, rfl⟩ := hr
      exact (hf i hi).1
set_option maxRecDepth 100000 in
theorem open_segs {r : Reach} {b0 : Nat} {v : Value} {d : DataW H} {p : List MemPlace} (hv : Value.okWide Try.prog w r b0 51 v) (h : DataW.Trod enc Try.prog w base spare held 51 v d p) :
    ∃ (A : Option Addr) (l : List Sa) (cap : Nat), v = .slice A l.length cap ∧ IsSegs w A l := by
  obtain ⟨a, len, c, rfl⟩ := okWide_slice Try.underlying51 hv
  obtain ⟨fuel, hf⟩ := h
  obtain ⟨A, l, cap, e, hI⟩ := cells_segs hf
  have e' : [Value.slice a len c] = [Value.slice A l.length cap] := e
  exact ⟨A, l, cap, by injection e', hI⟩
set_option maxRecDepth 100000 in
/-- records that came in, with their capacity -/
theorem open_rcap {r : Reach} {b0 : Nat} {v : Value} {d : DataW H} {p : List MemPlace} (hv : Value.okWide Try.prog w r b0 30 v) (h : DataW.Trod enc Try.prog w base spare held 30 v d p) :
    ∃ (A : Option Addr) (l : List R) (cap : Nat), v = .slice A l.length cap ∧ (IsRecs w A l ∧ l.length ≤ cap) := by
  obtain ⟨a, len, c, rfl⟩ := okWide_slice Try.underlying30 hv
  obtain ⟨fuel, hf⟩ := h
  obtain ⟨A, l, cap, e, hI, hc⟩ := recs_cap hf
  have e' : [Value.slice a len c] = [Value.slice A l.length cap] := e
  exact ⟨A, l, cap, by injection e', hI, hc⟩
end

/-- rows of two kinds share no block -/
theorem kinds_apart {w : World} {b1 b2 n1 n2 s1 s2 c1 c2 : Nat} {T1 T2 : TypeId} {A1 A2 : Option Addr} {x1 x2 : List Value} (h1 : w.ownsRow b1 T1 s1 (.slice A1 n1 c1) n1 x1) (h2 : w.ownsRow b2 T2 s2 (.slice A2 n2 c2) n2 x2) (hT : T1 ≠ T2) : ∀ j, blk A1 = some j → blk A2 ≠ some j := fun j e1 e2 => by
  rcases h1.2 with ⟨e, _⟩ | ⟨g1, _, _, e, _, q1, _⟩
  · injection e with e _ _; rw [e] at e1; cases e1
  · rcases h2.2 with ⟨e', _⟩ | ⟨g2, _, _, e', _, q2, _⟩
    · injection e' with e' _ _; rw [e'] at e2; cases e2
    · injection e with e _ _
      injection e' with e' _ _
      rw [e] at e1
      rw [e'] at e2
      have f1 : g1 = j := by injection e1
      have f2 : g2 = j := by injection e2
      subst f1 f2
      rw [q1] at q2
      injection q2 with q2
      injection q2 with _ q2
      exact hT q2

/-! ### the law's segments -/
/-- a record cut short, at its offset -/
def cut6F (f : L4.Fd) : L4.Fd := ⟨f.o, f.r.cut⟩
/-- segments of the law's own -/
structure LawS (w W : World) (i : Nat) (A : Option Addr) (c : Nat) (ll : List Sa) : Prop where
  old : Below w.heap.size w W
  len : ll.length = i
  own : W.ownsRow w.heap.size 53 3 (.slice A i c) i (rowS ll)
  recs : ∀ r ∈ ll, W.ownsRow w.heap.size 43 5 (.slice r.A r.L.length r.c) r.L.length (rowF r.L)
  small : ∀ r ∈ ll, r.L.length ≤ 70 ∧ ∀ f ∈ r.L, f.r.key.size ≤ 80 ∧ f.r.val.size ≤ 600
theorem LawS.below {w W W' : World} {i c : Nat} {A : Option Addr} {ll : List Sa} (h : LawS w W i A c ll) (b : Below W.heap.size W W') : LawS w W' i A c ll :=
  ⟨acc h.old b, h.len, own_below h.own b, fun r hr => own_below (h.recs r hr) b, h.small⟩
theorem LawS.readsS {w W : World} {i c : Nat} {A : Option Addr} {ll : List Sa} (h : LawS w W i A c ll) : ReadsS W W.heap.size A ll := by
  refine ⟨fun h0 => ?_, fun r hr => ReadsF.own (h.recs r hr)⟩
  have hl := h.len
  obtain ⟨b, c', hv, _, hb⟩ := h.own.form (by omega)
  injection hv with e1 e2 e3
  subst e1
  exact ⟨b, rfl, hb, fun j r hr => own_three (own_low h.own (Nat.zero_le _)) hr⟩
theorem reads_o {w : World} {B : Nat} {A : Option Addr} {l : List R} (h : Reads w B A l) : ReadsO w B A l := fun h0 => by
  obtain ⟨g, e, hg, hc⟩ := h h0
  exact ⟨g, 0, e, hg, fun i r hr => by simpa using hc i r hr⟩
theorem cut_len (L : List L4.Fd) (j : Nat) : ((L.take j).map cut6F).length = min j L.length := by simp
theorem cut_small {L : List L4.Fd} : ∀ f ∈ L.map cut6F, f.r.key.size ≤ 80 ∧ f.r.val.size ≤ 600 := fun f hf => by
  obtain ⟨q, _, rfl⟩ := List.mem_map.1 hf
  exact ⟨cutS_size q.r.key 80, cutS_size q.r.val 600⟩
theorem cut_next {L : List L4.Fd} {j : Nat} {f : L4.Fd} (h : L[j]? = some f) : (L.take (j + 1)).map cut6F = (L.take j).map cut6F ++ [cut6F f] := by
  rw [List.take_add_one, h, List.map_append]; rfl
/-- a box that was filled -/
theorem box_filled (w : World) (b n : Int) : Seg 53 (w.alloc (.cells #[.int .i64 b, .int .i64 n, .slice none 0 0] 53)).drew w.heap.size none 0 b n [] ∧ Below w.heap.size w (w.alloc (.cells #[.int .i64 b, .int .i64 n, .slice none 0 0] 53)).drew :=
  ⟨⟨heap_alloc_new w _, World.ownsRow_nil _ _ _ _, by simp [blk]⟩, (one_box _).drew⟩
/-- one more -/
theorem LawS.more {w W w1 : World} {i c g2 c2 g cap' m : Nat} {A A' : Option Addr} {ll : List Sa} {b n : Int} {L : List L4.Fd} {o : Obj} (h : LawS w W i A c ll) (hs : Seg 53 W g A' cap' b n L) (hA : ∀ j, blk A' = some j → w.heap.size ≤ j) (hm : L.length = m) (hL : m ≤ 70) (hsm : ∀ f ∈ L, f.r.key.size ≤ 80 ∧ f.r.val.size ≤ 600)
    (ho : w1.ownsRow w.heap.size 53 3 (.slice (some ⟨g2, 0, none⟩) (i + 1) c2) (i + 1) (rowS ll ++ [.int .i64 b, .int .i64 n, .slice A' m cap'])) (hg : (W.alloc o).grownBy w1 (Value.slice A i c).ownBlock) : LawS w w1 (i + 1) (some ⟨g2, 0, none⟩) c2 (ll ++ [⟨b, n, A', cap', L⟩]) := by
  subst hm
  rw [ownBlock_blk] at hg
  have hk : ∀ {n' c' : Nat} {B : Option Addr} {xs : List Value}, W.ownsRow w.heap.size 43 5 (.slice B n' c') n' xs → w1.ownsRow w.heap.size 43 5 (.slice B n' c') n' xs := fun {n' c' B xs} q => by
    refine own_at q (fun j e => ?_)
    rw [ownBlock_blk] at e
    have q2 := (own_blkLt q j e).2
    refine (hg.block j (by rw [World.size_alloc]; omega) (fun q' => ?_)).trans (Below.heap_alloc _ _ _ q2)
    exact kinds_apart q h.own (by decide) j e q'.symm
  have hA' : W.ownsRow w.heap.size 43 5 (.slice A' L.length cap') L.length (rowF L) := by
    refine ⟨hs.own.1, ?_⟩
    rcases hs.own.2 with q | ⟨b', c', cur, e, h1, h2⟩
    · exact .inl q
    · refine .inr ⟨b', c', cur, e, hA b' ?_, h2⟩
      injection e with e _ _
      rw [e]; rfl
  have hgb : Below w.heap.size w w1 := (h.old.alloc h.old.size o).grown hg (by rw [World.size_alloc]; have := h.old.size; omega) (fun j e => by
    have := (h.own.lt j (by rw [ownBlock_blk]; exact e)).1
    exact this)
  refine ⟨hgb, by rw [List.length_append, h.len]; rfl, by rw [rowS_app]; exact ho, fun r hr => ?_, fun r hr => ?_⟩
  · rcases List.mem_append.1 hr with q | q
    · exact hk (h.recs r q)
    · rw [List.mem_singleton.1 q]; exact hk hA'
  · rcases List.mem_append.1 hr with q | q
    · exact h.small r q
    · rw [List.mem_singleton.1 q]; exact ⟨hL, hsm⟩
end Go.Proofs.Ytflcggpeflagiaa.L6
