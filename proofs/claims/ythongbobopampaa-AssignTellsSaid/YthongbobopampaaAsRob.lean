/-
  Contract: one after the other, the document's.
-/
import Derived.Test.YthongbobopampaaAsDoc
import Derived.Test.YthongbobopampaaAsPlace
import Derived.Deep.DeepCutAuto
import Derived.Deep.CutBlock
namespace Go.Proofs.Ythongbobopampaa.L10
open Go.RowKit
open L3 L4 L9

/-- the partitions of a topic, up to one; none, if nobody wants it -/
def stepT (ab : List Nat) (t : ByteArray) (N p i : Nat) : List (Nat × Pt) × Nat := if ab = [] then ([], p) else oneT chB ab t N p i
theorem step_zero (ab : List Nat) (t : ByteArray) (N p : Nat) : stepT ab t N p 0 = ([], p) := by unfold stepT; split <;> rfl
theorem step_nil {ab : List Nat} (h : ab = []) (t : ByteArray) (N p i : Nat) : stepT ab t N p i = ([], p) := by unfold stepT; rw [if_pos h]
theorem step_next {ab : List Nat} (h : ab ≠ []) (t : ByteArray) (N p i q : Nat) (hq : (stepT ab t N p i).2 = q) : stepT ab t N p (i + 1) = ((stepT ab t N p i).1 ++ [(pickB ab q, ⟨t, (i : Int)⟩)], pickB ab q + 1) := by
  unfold stepT at hq ⊢
  rw [if_neg h] at hq ⊢
  rw [if_neg h, ← hq]
  rfl
theorem step_len (ab : List Nat) (t : ByteArray) (N p i : Nat) : (stepT ab t N p i).1.length ≤ i := by
  unfold stepT
  split
  · exact Nat.zero_le _
  · rw [one_len]; exact Nat.le_refl _
theorem step_all {ms : List Mb} {x : Pt} {p N : Nat} (hN : x.n = (N : Int)) : stepT (able ms x.t) x.t N p N = topT chB ms x p := by
  unfold stepT topT
  have e : x.n.toNat = N := by omega
  rw [e]
theorem ownL_len (S : List (Nat × Pt)) (k : Nat) : (ownL S k).length ≤ S.length := by
  unfold ownL
  rw [List.length_map]
  exact List.length_filter_le _ _
theorem rob_nums {d K : Nat} (hd : d < K) (h8 : K ≤ 8) : ∃ b r : Nat, wrap64 ((d : Int) + 1) = (b : Int) ∧ IntKind.i64.wrap ((d : Int) + 1) = (b : Int) ∧ (b : Int) % (K : Int) = (r : Int) ∧ IntKind.i64.wrap ((b : Int).tmod (K : Int)) = (r : Int) ∧ ((K : Int) == 0) = false ∧ (K : Int) ≠ 0 ∧ wrap64 (r : Int) = (r : Int) ∧ b = d + 1 ∧ r = (d + 1) % K ∧ r < K := by
  have hK0 : 0 < K := by omega
  have hr : (d + 1) % K < K := Nat.mod_lt _ hK0
  refine ⟨d + 1, (d + 1) % K, wrap_n (d + 1) (by omega), ?_, emod_n (d + 1) K _ rfl, tmod_k (d + 1) K _ rfl (by omega), nz hK0, nz' hK0, wrap_n _ (by omega), rfl, rfl, hr⟩
  rw [IntKind.wrap_i64]; omega
theorem cellAt {w w' : World} {a : Addr} {v : Value} (hb : Below w.heap.size w w') (h : w.cell? a = some v) : w'.cell? a = some v := (hb.cell (World.block_lt_of_cell? _ _ h)).trans h
theorem own_nilp {w : World} {base n c size : Nat} {T : TypeId} {A : Option Addr} {xs : List Value} (h : w.ownsRow base T size (.slice A n c) n xs) : A = none → n = 0 ∧ c = 0 := fun e => by
  rcases h.2 with ⟨q, e0⟩ | ⟨g, c', cur, q, _⟩
  · injection q with _ _ q; exact ⟨e0, q⟩
  · injection q with q; rw [e] at q; cases q
/-- the lists so far -/
structure RGo (w wr : World) (A : Option Addr) (nm c : Nat) (S : List (Nat × Pt)) : Prop where
  ls : ∃ sl, Lists wr w.heap.size (.slice A nm c) sl ∧ sl.map (·.x) = listsL nm S
  bel : Below w.heap.size w wr
theorem RGo.below {w wr w' : World} {A : Option Addr} {nm c : Nat} {S : List (Nat × Pt)} (h : RGo w wr A nm c S) (b : Below wr.heap.size wr w') : RGo w w' A nm c S := by
  obtain ⟨sl, h1, h2⟩ := h.ls
  exact ⟨⟨sl, h1.below b, h2⟩, h.bel.trans (b.mono h.bel.size)⟩
theorem RGo.blk {w wr : World} {A : Option Addr} {nm c : Nat} {S : List (Nat × Pt)} (h : RGo w wr A nm c S) (h0 : 0 < nm) : ∃ g, A = some ⟨g, 0, none⟩ ∧ w.heap.size ≤ g ∧ g < wr.heap.size := by
  obtain ⟨sl, h1, h2⟩ := h.ls
  have hl : sl.length = nm := by have := congrArg List.length h2; simpa [listsL] using this
  rcases h1.out.2 with ⟨_, q⟩ | ⟨g, cap, cur, q, h3, hh, _⟩
  · omega
  · injection q with q
    exact ⟨g, q, h3, (Array.getElem?_eq_some_iff.1 hh).1⟩
/-- a list of the lists -/
theorem RGo.at {w wr : World} {g nm c k : Nat} {S : List (Nat × Pt)} (h : RGo w wr (some ⟨g, 0, none⟩) nm c S) (hk : k < nm) : ∃ Ak ck, wr.cell? ⟨g, k, none⟩ = some (.slice Ak (ownL S k).length ck) ∧ wr.ownsRow w.heap.size 27 2 (.slice Ak (ownL S k).length ck) (ownL S k).length (rowP (ownL S k)) ∧ wr.frozen? ⟨g, k, none⟩ = false := by
  obtain ⟨sl, h1, h2⟩ := h.ls
  have hl : sl.length = nm := by have := congrArg List.length h2; simpa [listsL] using this
  have hs : sl[k]? = some sl[k] := List.getElem?_eq_getElem (by omega)
  have hx : sl[k].x = ownL S k := by
    have := congrArg (·[k]?) h2
    rw [listsL_at S hk, List.getElem?_map, hs] at this
    simpa using this
  have hc := h1.cell hs
  have hi := h1.inn _ (List.mem_of_getElem? hs)
  obtain ⟨cs, _, _, hg⟩ := own_bk' h1.out (k := g) rfl
  unfold Sl.v at hc hi
  rw [hx] at hc hi
  exact ⟨sl[k].A, sl[k].c, hc, hi, frozen_of_row _ _ _ _ _ hg⟩
/-- a list is put in the place of one that it goes on from -/
theorem RGo.put {w wr w1 : World} {g nm c k c' m : Nat} {A1 : Option Addr} {S : List (Nat × Pt)} {y : Pt} (h : RGo w wr (some ⟨g, 0, none⟩) nm c S) (hk : k < nm) (hm : (ownL S k).length = m) (hb : Below wr.heap.size wr w1)
    (ho : w1.ownsRow wr.heap.size 27 2 (.slice A1 (m + 1) c') (m + 1) (rowP (ownL S k ++ [y]))) : RGo w (w1.setCell ⟨g, k, none⟩ (.slice A1 (m + 1) c')) (some ⟨g, 0, none⟩) nm c (S ++ [(k, y)]) := by
  obtain ⟨sl, h1, h2⟩ := h.ls
  have hl : sl.length = nm := by have := congrArg List.length h2; simpa [listsL] using this
  have hs : sl[k]? = some sl[k] := List.getElem?_eq_getElem (by omega)
  obtain ⟨g', rfl, hg'⟩ : ∃ g', A1 = some ⟨g', 0, none⟩ ∧ wr.heap.size ≤ g' := by
    rcases ho.2 with ⟨_, q⟩ | ⟨g', cap', cur, q, q1, _⟩
    · omega
    · injection q with q; exact ⟨g', q, q1⟩
  obtain ⟨_, hx⟩ := map_put (g' := g') (c' := c') (y := y) h2 hs
  obtain ⟨hmap, _⟩ := map_put (g' := g') (c' := c') (y := y) h2 hs
  have hm' : sl[k].x.length = m := by rw [hx]; exact hm
  have hsz : w.heap.size ≤ wr.heap.size := h.bel.size
  have hgo : w.heap.size ≤ g := by obtain ⟨_, q, _⟩ := own_bk' h1.out (k := g) rfl; exact q
  have hgr : wr.grownBy w1 sl[k].v.ownBlock := ⟨hb.os, hb.tape, hb.output, hb.size, fun i hi _ => hb.block i hi⟩
  have hp := h1.put (y := y) (c' := c') (g' := g') hs (by rw [hm', hx]; exact own_base ho hsz) hgr (.inr hg')
  rw [hm'] at hp
  refine ⟨⟨_, hp, hmap⟩, (h.bel.trans (hb.mono hsz)).setCell (p := ⟨g, k, none⟩) hgo _⟩

set_option maxRecDepth 100000 in
set_option maxHeartbeats 16000000 in
theorem rrobin_ok (w : World) (A Am : Option Addr) (n c nm cm : Nat) (l : List Pt) (ms : List Mb) (hL : Hid (IsL w w.heap.size A n c l)) (hM : Hid (IsM w w.heap.size Am nm cm ms)) (HX : Hid (chkE l ms 0)) :
    Calls Try.prog 8 #[.slice A n c, .slice Am nm cm] w fun e w' => ∃ A' c', e = .returned (.tuple #[.slice A' nm c', .int .i64 0]) ∧ ReadsL w' w.heap.size w'.heap.size A' (robinL l ms) ∧ Below w.heap.size w w' := by
  obtain ⟨hG, hm8, -⟩ := chk_ok HX.out
  have hn8 := hG.len
  have HG := Lib.hid hG
  rw [hM.out.len] at hm8
  rw [hL.out.len] at hn8
  have HML := Lib.hid hM.out.len
  have HLL := Lib.hid hL.out.len
  obtain ⟨i0, hi0, hz0, hz1, hz2⟩ := info_parts ptInfo
  obtain ⟨i1, hi1, hy0, hy1, hy2⟩ := info_parts slInfo
  clear hG
  go_enter Try.func8, Try.ntmps8
  go_wp2_with (go_at_call 9; refine (rcheck_is w A Am n c nm cm l ms 0 hL hM HX).mono ?_; rintro e w1 ⟨rfl, hb1⟩; have HB1 := Lib.hid hb1; clear hb1)
  have HI0 : Hid (Lists (w1.alloc (.cells #[] 36)) w.heap.size (.slice (some ⟨w1.heap.size, 0, none⟩) 0 0) []) := Lib.hid ⟨World.ownsRow_made (size := 1) w1 #[] 0 HB1.out.size (by unfold maxLen; omega) rfl, (fun s hs => by cases hs), List.Pairwise.nil⟩
  have HBA : Hid (Below w.heap.size w (w1.alloc (.cells #[] 36))) := Lib.hid (HB1.out.alloc HB1.out.size _)
  go_loopw [7, 8] (fun v s wr => ∃ i : Nat, i ≤ nm ∧ s = .int .i64 i ∧ (∃ (A' : Option Addr) (c' : Nat) (sl : List Sl), v = .slice A' i c' ∧ Hid (Lists wr w.heap.size (.slice A' i c') sl) ∧ Hid (sl.map (·.x) = List.replicate i [])) ∧ Hid (Below w.heap.size w wr)) (fun _ s _ => nm - (intOf s).toNat)
  case atStart => exact ⟨0, by omega, rfl, ⟨_, _, [], rfl, HI0, Lib.hid rfl⟩, HBA⟩
  case round =>
    obtain ⟨i, hi, rfl, ⟨A', c', sl, rfl, HI, HSL⟩, HB⟩ := hrel
    by_cases hlt : i < nm
    · have HLN : Hid (sl.length = i) := Lib.hid (by have := congrArg List.length HSL.out; simpa using this)
      have HAP : Hid (∀ s ∈ sl, ∀ k ∈ bk s.A, k < wr.heap.size) := Lib.hid (fun s hs k hk => own_lt (HI.out.inn s hs) k hk)
      have HO1 : Hid ((wr.alloc (.cells #[] 27)).ownsRow wr.heap.size 27 2 (.slice (some ⟨wr.heap.size, 0, none⟩) 0 0) 0 (rowP [])) := Lib.hid (World.ownsRow_made (size := 2) wr #[] 0 (Nat.le_refl _) (by unfold maxLen; omega) rfl)
      have HI9 : Hid (Lists (wr.alloc (.cells #[] 27)) w.heap.size (.slice A' i c') sl) := Lib.hid (HI.out.below (one_box' _))
      have HOT : Hid ((wr.alloc (.cells #[] 27)).ownsRow w.heap.size 36 1 (.slice A' i c') i (sl.map Sl.v)) := Lib.hid (by have := HI9.out.out; rwa [HLN.out] at this)
      have HBW : Hid (Below w.heap.size w (wr.alloc (.cells #[] 27))) := Lib.hid (HB.out.alloc HB.out.size _)
      have HNB : Hid (((wr.alloc (.cells #[] 27)).alloc (.cells #[.slice (some ⟨wr.heap.size, 0, none⟩) 0 0] 36)).heap[wr.heap.size + 1]? = some (.cells #[.slice (some ⟨wr.heap.size, 0, none⟩) 0 0] 36 (0, 0))) := Lib.hid (by
        have := heap_alloc_new (wr.alloc (.cells #[] 27)) (.cells #[.slice (some ⟨wr.heap.size, 0, none⟩) 0 0] 36)
        rwa [show (wr.alloc (.cells #[] 27)).heap.size = wr.heap.size + 1 by simp] at this)
      have b0 : (0 : Int) ≤ (i : Int) := by omega
      have b1 : (i : Int) < (nm : Int) := by omega
      go_wp2_with (at_builtin; refine wpList_append_own _ rfl _ _ 29 rfl w.heap.size 36 i1 _ 1 24 Try.underlying29 hi1 hy0 hy1 hy2 rfl (by decide) _ _ _ rfl (HOT.out.alloc _) ⟨wr.heap.size + 1, 0, none⟩ 1 1 [.slice (some ⟨wr.heap.size, 0, none⟩) 0 0] rfl rfl (World.news_of_block (cs := #[.slice (some ⟨wr.heap.size, 0, none⟩) 0 0]) (t := 36) (fr := (0, 0)) HNB.out) (by simp [Value.oneCell']) (by unfold maxLen; omega) (by omega) (by have := HB.out.size; simp; omega) ?_; intro v' w9 hown' hgrow _)
      obtain ⟨A4, c4, rfl⟩ := L9.own_len hown'
      have hpush := Lists.push (A := some ⟨wr.heap.size, 0, none⟩) (c := 0) (x := []) HI9.out HO1.out HB.out.size rfl HAP.out (by rw [HLN.out]; exact hown') hgrow
      have HP : Hid (Lists w9 w.heap.size (.slice A4 (i + 1) c4) (sl ++ [⟨some ⟨wr.heap.size, 0, none⟩, 0, []⟩])) := Lib.hid hpush
      have HSN : Hid ((sl ++ [(⟨some ⟨wr.heap.size, 0, none⟩, 0, []⟩ : Sl)]).map (·.x) = List.replicate (i + 1) []) := Lib.hid (by rw [List.map_append, HSL.out, List.replicate_succ']; rfl)
      have HB9 : Hid (Below w.heap.size w w9) := Lib.hid ((HBW.out.alloc HBW.out.size _).grown hgrow (HBW.out.alloc HBW.out.size _).size (fun j e => (HOT.out.lt j e).1))
      clear hown' hgrow hpush
      go_roundw
      case rel => exact ⟨i + 1, by omega, by go_num, ⟨A4, c4, _, rfl, HP, HSN⟩, HB9⟩
      case measure => simp [intOf]; omega
    · obtain rfl : i = nm := by omega
      have HR0 : Hid (RGo w wr A' i c' (seqT chB ms (l.take 0) 0).1) := Lib.hid ⟨⟨sl, HI.out, by
        rw [HSL.out]
        exact (List.eq_replicate_iff.2 ⟨by simp [listsL, seqT], fun b hb => by obtain ⟨k, _, rfl⟩ := List.mem_map.1 hb; rfl⟩).symm⟩, HB.out⟩
      obtain ⟨wo, hwo⟩ : ∃ wo, wo = wr := ⟨_, rfl⟩
      rw [← hwo] at HR0 ⊢
      clear hwo HI HSL HB hlt
      go_wp2_with fail
      go_loopw [9, 10] (fun pv jv wr => ∃ j d p : Nat, j ≤ n ∧ jv = .int .i64 j ∧ pv = .int .i64 d ∧ p ≤ i ∧ Hid (d = p % i) ∧ Hid ((seqT chB ms (l.take j) 0).2 = p) ∧ Hid (RGo w wr A' i c' (seqT chB ms (l.take j) 0).1)) (fun _ jv _ => n - (intOf jv).toNat)
      case atStart => exact ⟨0, 0, 0, Nat.zero_le _, rfl, rfl, Nat.zero_le _, Lib.hid (by simp), Lib.hid rfl, HR0⟩
      case round =>
        clear HR0
        obtain ⟨j, d, p, hj, rfl, rfl, hp, hd, HPP, HR⟩ := hrel
        by_cases hltj : j < n
        · obtain ⟨gl, rfl, hgl, hcl⟩ := hL.out.rd (by rw [HLL.out]; omega)
          obtain ⟨⟨xt, N0⟩, hs⟩ : ∃ s, l[j]? = some s := ⟨_, List.getElem?_eq_getElem (by rw [HLL.out]; omega)⟩
          have hfit := HG.out.fit _ (List.mem_of_getElem? hs)
          dsimp only at hfit
          obtain ⟨N, rfl⟩ : ∃ N : Nat, N0 = (N : Int) := ⟨N0.toNat, by omega⟩
          obtain ⟨d0, d1⟩ := hcl j _ hs
          dsimp only at d0 d1
          have HLN : Hid (gl < w.heap.size ∧ w.cell? ⟨gl, j * 2, none⟩ = some (.string xt) ∧ w.cell? ⟨gl, j * 2 + 1, none⟩ = some (.int .i64 (N : Int))) := Lib.hid ⟨hgl, d0, d1⟩
          obtain ⟨ab, hab⟩ : ∃ ab, able ms xt = ab := ⟨_, rfl⟩
          have HAB := Lib.hid hab
          have HABL : Hid (∀ x ∈ ab, x < i) := Lib.hid (fun x hx => by rw [← hab] at hx; have := able_lt hx; rwa [HML.out] at this)
          have HABR : Hid (ab.Pairwise (· < ·)) := Lib.hid (by rw [← hab]; exact able_rise ms xt)
          have HABW : Hid (∀ k, k ∈ ab ↔ wantAt ms k xt = true) := Lib.hid (fun k => by rw [← hab]; exact mem_able)
          obtain ⟨Kn, hKn⟩ : ∃ Kn, ab.length = Kn := ⟨_, rfl⟩
          have HKK : Hid ((ableTo ms xt i).length = Kn) := Lib.hid (by rw [← hKn, ← hab]; unfold able; rw [HML.out])
          have HKA := Lib.hid hKn
          obtain ⟨S, hS⟩ : ∃ S, (seqT chB ms (l.take j) 0).1 = S := ⟨_, rfl⟩
          have hSl : S.length ≤ 64 := by
            rw [← hS]
            have h1 := seq_len chB ms (l.take j) 0 (fun x hx => (HG.out.fit x (List.mem_of_mem_take hx)).2.2)
            rw [List.length_take] at h1
            omega
          have HNXT := Lib.hid (seqT_next chB ms l 0 j _ hs)
          rw [hS] at HR HNXT
          rw [HPP.out] at HNXT
          have HSTA : Hid (stepT ab xt N p N = topT chB ms ⟨xt, (N : Int)⟩ p) := Lib.hid (by rw [← hab]; exact step_all (x := ⟨xt, (N : Int)⟩) rfl)
          have hN8 : N ≤ 8 := by omega
          have hK8 : Kn ≤ 8 := by have := ableTo_len ms xt i; rw [HKK.out] at this; omega
          have c0 : (0 : Int) ≤ (j : Int) := by omega
          have c1 : (j : Int) < (n : Int) := by omega
          have HTS : Hid (xt.size ≤ 281474976710656) := Lib.hid (by omega)
          have HR3 : Hid (RGo w wr A' i c' (S ++ (stepT ab xt N p 0).1)) := Lib.hid (by rw [step_zero, List.append_nil]; exact HR.out)
          have HP0 : Hid ((stepT ab xt N p 0).2 = p) := Lib.hid (by rw [step_zero])
          obtain ⟨wq, hwq⟩ : ∃ wq, wq = wr := ⟨_, rfl⟩
          rw [← hwq] at HR3 ⊢
          clear hcl hs hfit hab hKn hS hwq d0 d1 HR HPP
          go_wp2_with fail
          go_loopw [9, 11] (fun pv iv wr => ∃ y d q : Nat, y ≤ N ∧ iv = .int .i64 y ∧ pv = .int .i64 d ∧ q ≤ i ∧ Hid (d = q % i) ∧ Hid ((stepT ab xt N p y).2 = q) ∧ Hid (RGo w wr A' i c' (S ++ (stepT ab xt N p y).1))) (fun _ iv _ => N - (intOf iv).toNat)
          case atStart => exact ⟨0, d, p, Nat.zero_le _, rfl, rfl, hp, hd, HP0, HR3⟩
          case round =>
            clear HR3 HP0 hd hp
            obtain ⟨y, d, q, hy, rfl, rfl, hq, hd, HQQ, HR⟩ := hrel
            have d0 := (HR.out.bel.cell (p := ⟨gl, j * 2, none⟩) HLN.out.1).trans HLN.out.2.1
            have d1 := (HR.out.bel.cell (p := ⟨gl, j * 2 + 1, none⟩) HLN.out.1).trans HLN.out.2.2
            by_cases hlty : y < N
            · have e0 : (0 : Int) ≤ (y : Int) := by omega
              have e1 : (y : Int) < (N : Int) := by omega
              have HIM : Hid (IsM wr w.heap.size Am i cm ms) := Lib.hid (hM.out.below HR.out.bel)
              have hwz : w.heap.size ≤ wr.heap.size := HR.out.bel.size
              have hSy : (S ++ (stepT ab xt N p y).1).length ≤ 72 := by rw [List.length_append]; have := step_len ab xt N p y; omega
              by_cases hne : ab = []
              · have hK0 : Kn = 0 := by rw [← HKA.out, hne]; rfl
                subst hK0
                have HQN : Hid ((stepT ab xt N p (y + 1)).2 = q) := Lib.hid (by rw [← HQQ.out, step_nil hne, step_nil hne])
                have HSE : Hid ((stepT ab xt N p (y + 1)).1 = (stepT ab xt N p y).1) := Lib.hid (by rw [step_nil hne, step_nil hne])
                clear hne
                go_wp2_with (go_at_call 19; refine (ahead_is Am cm i w.heap.size i 0 ms xt _ HIM hwz (Nat.le_refl _) HKK).mono ?_; rintro e w2 ⟨rfl, hb2⟩; have HR2 := Lib.hid (HR.out.below hb2); clear hb2)
                go_roundw
                case rel => exact ⟨y + 1, d, q, by omega, by go_num, rfl, hq, hd, HQN, by rw [HSE.out]; exact HR2⟩
                case measure => simp [intOf]; omega
              · have HNE := Lib.hid hne
                have hK0 : 0 < Kn := by rw [← HKA.out]; exact List.length_pos_iff.2 hne
                have kz : ((Kn : Int) == 0) = false := nz hK0
                have hi0' : 0 < i := by
                  obtain ⟨x, hx⟩ := List.exists_mem_of_ne_nil _ hne
                  have := HABL.out x hx
                  omega
                have hdi : d < i := by rw [hd.out]; exact Nat.mod_lt _ hi0'
                have HPD : Hid (pickB ab d = pickB ab q) := Lib.hid (by rw [hd.out]; exact pick_mod HABL.out hq)
                obtain ⟨go, rfl, hgo, hgo2⟩ := HR.out.blk hi0'
                clear hne hd
                go_wp2_with (go_at_call 19; refine (ahead_is Am cm i w.heap.size i Kn ms xt _ HIM hwz (Nat.le_refl _) HKK).mono ?_; rintro e w2 ⟨rfl, hb2⟩; have HR2 := Lib.hid (HR.out.below hb2); have HD2 := Lib.hid (And.intro (cellAt hb2 d0) (cellAt hb2 d1)); clear hb2)
                clear d0 d1 HIM hwz kz hlty
                obtain ⟨wi, hwi⟩ : ∃ wi, wi = w2 := ⟨_, rfl⟩
                rw [← hwi] at HR2 HD2 ⊢
                clear hwi HR
                go_loopw [9] (fun pv wr => ∃ d : Nat, pv = .int .i64 d ∧ d < i ∧ Hid (pickB ab d = pickB ab q) ∧ Hid (Below wi.heap.size wi wr)) (fun pv _ => gapB ab i (intOf pv).toNat)
                case atStart => exact ⟨d, rfl, hdi, HPD, Lib.hid (Below.refl _ _)⟩
                case round =>
                  clear hdi HPD
                  obtain ⟨d, rfl, hdi, HPD, HBW⟩ := hrel
                  have d0 := cellAt HBW.out HD2.out.1
                  have d1 := cellAt HBW.out HD2.out.2
                  have hw2 : Below w.heap.size w wr := HR2.out.bel.trans (HBW.out.mono HR2.out.bel.size)
                  obtain ⟨gm, hAm, hgm, hcm⟩ := hM.out.rd (by rw [HML.out]; exact hi0')
                  obtain ⟨⟨nk, ts⟩, hms⟩ : ∃ s, ms[d]? = some s := ⟨_, List.getElem?_eq_getElem (by rw [HML.out]; exact hdi)⟩
                  obtain ⟨f0, At, ct, f1, hrt⟩ := hcm d _ hms
                  obtain ⟨z0, z1, z2⟩ := hM.out.sz _ (List.mem_of_getElem? hms)
                  dsimp only at f0 f1 hrt z1
                  obtain ⟨tn, htn⟩ : ∃ tn, ts.length = tn := ⟨_, rfl⟩
                  rw [htn] at f1 z1
                  have f0 := (hw2.cell (p := ⟨gm, d * 2, none⟩) hgm).trans f0
                  have f1 := (hw2.cell (p := ⟨gm, d * 2 + 1, none⟩) hgm).trans f1
                  obtain ⟨v, hv⟩ : ∃ v, anyB ts xt = v := ⟨_, rfl⟩
                  have HV := Lib.hid hv
                  have HWA : Hid (wantAt ms d xt = v) := Lib.hid (by rw [wantAt_at hms]; exact hv)
                  have HRT := Lib.hid (hrt.below hw2.drew)
                  have HTN := Lib.hid htn
                  have HZW : Hid (w.heap.size ≤ wr.heap.size) := Lib.hid hw2.size
                  have g0 : (0 : Int) ≤ (d : Int) := by omega
                  have g1 : (d : Int) < (i : Int) := by omega
                  have hS4 := Lib.hid (show ((wr.cell? ⟨gl, j * 2, none⟩ = some (.string xt) ∧ wr.cell? ⟨gl, j * 2 + 1, none⟩ = some (.int .i64 (N : Int))) ∧ wr.cell? ⟨gm, d * 2, none⟩ = some (.string nk) ∧ wr.cell? ⟨gm, d * 2 + 1, none⟩ = some (.slice At tn ct)) ∧ Below wr.heap.size wr wr from ⟨⟨⟨d0, d1⟩, f0, f1⟩, Below.refl _ _⟩)
                  subst hAm
                  clear hcm hms hrt htn hv hw2
                  go_wp2_with fail
                  go_region_held3 (fun w' => ((w'.cell? ⟨gl, j * 2, none⟩ = some (.string xt) ∧ w'.cell? ⟨gl, j * 2 + 1, none⟩ = some (.int .i64 (N : Int))) ∧ w'.cell? ⟨gm, d * 2, none⟩ = some (.string nk) ∧ w'.cell? ⟨gm, d * 2 + 1, none⟩ = some (.slice At tn ct)) ∧ Below wr.heap.size wr w')
                    (first | with_reducible assumption | exact keep4d hS4.out HB3.out | exact keep4d hS4.out (Below.refl _ _).drew)
                    (first
                      | (go_at_call 15; refine (rwants_is nk xt ts At ct tn w.heap.size v _ HRT HZW.out HTN z1 HV).mono ?_; rintro e w3 ⟨rfl, hb3⟩; have HB3 := Lib.hid ((Below.refl _ wr).drew.trans hb3)))
                  rename_i hHeld
                  have HH := Lib.hid hHeld.2
                  have HBI : Hid (Below wi.heap.size wi w3) := Lib.hid (HBW.out.trans (hHeld.2.mono HBW.out.size))
                  have HT3 : Hid (w3.cell? ⟨gl, j * 2, none⟩ = some (.string xt)) := Lib.hid hHeld.1.1.1
                  clear hHeld d0 d1 f0 f1 hS4 HRT z0 z1 z2
                  obtain ⟨b, r, a1, a1', a2, a3, z1, z1', a4, hb, hr, hri⟩ := rob_nums hdi hm8
                  have HBR := Lib.hid (And.intro hb hr)
                  clear hb hr
                  cases v with
                  | false =>
                    have hnm : d ∉ ab := fun q => by have := (HABW.out d).1 q; rw [HWA.out] at this; cases this
                    have HPN : Hid (pickB ab r = pickB ab q) := Lib.hid (by rw [HBR.out.2]; exact (pick_skip HABL.out hdi hnm).trans HPD.out)
                    have HGAP : Hid (gapB ab i r < gapB ab i d) := Lib.hid (by rw [HBR.out.2]; exact gap_skip HABL.out hdi hnm HNE.out)
                    clear hnm
                    go_wp2_with fail
                    go_roundw
                    case rel => exact ⟨r, by first | rfl | go_num, hri, HPN, HBI⟩
                    case measure => rw [a2]; exact HGAP.out
                  | true =>
                    have HK : Hid (pickB ab q = d) := Lib.hid (by rw [← HPD.out]; exact pick_hit HABR.out ((HABW.out d).2 HWA.out))
                    have HR3 := Lib.hid (HR2.out.below HBI.out)
                    obtain ⟨S2, hS2⟩ : ∃ S2, S ++ (stepT ab xt N p y).1 = S2 := ⟨_, rfl⟩
                    rw [hS2] at HR3 hSy
                    have HS2 := Lib.hid hS2
                    obtain ⟨Ak, ck, e3, hown3, hfr3⟩ := HR3.out.at hdi
                    obtain ⟨m, hm⟩ : ∃ m, (ownL S2 d).length = m := ⟨_, rfl⟩
                    have hm72 : m ≤ 72 := by rw [← hm]; exact Nat.le_trans (ownL_len S2 d) hSy
                    have hsrc := readsP_src (own_reads hown3 rfl (own_lt hown3)) (fun e => List.eq_nil_of_length_eq_zero (own_nilp hown3 e).1)
                    have hnil3 := own_nilp hown3
                    rw [hm] at e3 hown3 hnil3
                    have HM := Lib.hid hm
                    have HL1 : Hid ((rowP (ownL S2 d)).length = m * 2) := Lib.hid (by rw [rowP_len, hm])
                    have HSRC : Hid (Src (w3.alloc (.cells #[] 27)) Ak (rowP (ownL S2 d))) := Lib.hid (hsrc.below (one_box' _))
                    have HNIL := Lib.hid hnil3
                    have HE3 := Lib.hid (And.intro e3 hfr3)
                    have hgo3 : go < w3.heap.size := World.block_lt_of_cell? _ _ e3
                    have hdm : d + 1 ≤ i := hdi
                    clear hS2 hm hsrc hnil3 hown3 hfr3
                    have t3 := HT3.out
                    go_upto_region 21 with (first
                      | (at_builtin; have _q := HO5; refine wpList_append_own _ rfl _ _ 36 rfl w3.heap.size 27 i0 _ 2 24 Try.underlying36 hi0 hz0 hz1 hz2 rfl (by decide) _ _ _ rfl (HO5.out.alloc _) ⟨w5.heap.size, 0, none⟩ 1 1 [.string xt, .int .i64 y] rfl rfl (World.news_of_block (cs := #[.string xt, .int .i64 y]) (t := 27) (fr := (0, 0)) (heap_alloc_new w5 _)) (by simp [Value.oneCell']) (by unfold maxLen; omega) (by omega) (by have := HB5.out.size; simp; omega) ?_; intro v6 w6 hown6 hgrow6 _; have HB6 : Hid (Below w3.heap.size w3 w6) := Lib.hid ((HB5.out.alloc HB5.out.size _).grown hgrow6 (by have := HB5.out.size; simp; omega) (fun j e => (HO5.out.lt j e).1)); obtain ⟨A6, c6, rfl⟩ := L9.own_len hown6; have HO6 := Lib.hid hown6; clear hown6 hgrow6)
                      | (at_builtin; refine wpList_append_src (by rfl) _ _ 36 (by rfl) w3.heap.size 27 i0 _ 2 24 Try.underlying36 hi0 hz0 hz1 hz2 rfl (by decide) _ 0 [] (by rfl) (World.ownsRow_made w3 #[] 0 (Nat.le_refl _) (by unfold maxLen; omega) rfl) Ak m ck (rowP (ownL S2 d)) (by rfl) HL1.out HSRC.out HNIL.out (rowP_one _) (by unfold maxLen; omega) (by omega) (by simp) ?_; intro v5 w5 hown5 hgrow5; rw [Nat.zero_add, List.nil_append] at hown5; have HB5 : Hid (Below w3.heap.size w3 w5) := Lib.hid ((one_box' (w := w3) (.cells #[] 27)).grown hgrow5 (by simp) (fun q e => by simp [Value.ownBlock] at e; omega)); obtain ⟨A5, c5, rfl⟩ := L9.own_len hown5; have HO5 := Lib.hid hown5; have t3 := cellAt HB5.out t3; clear hown5 hgrow5))
                    have e6 := cellAt HB6.out HE3.out.1
                    have f6 : w6.frozen? ⟨go, d, none⟩ = false := (World.frozen?_of_block (HB6.out.block go hgo3)).trans HE3.out.2
                    have HRN : Hid (RGo w (w6.setCell ⟨go, d, none⟩ (.slice A6 (m + 1) c6)) (some ⟨go, 0, none⟩) i c' (S2 ++ [(d, ⟨xt, (y : Int)⟩)])) := Lib.hid (HR3.out.put hdi HM.out HB6.out (by rw [rowP_app]; exact HO6.out))
                    have hsn := step_next HNE.out xt N p y q HQQ.out
                    rw [HK.out] at hsn
                    have HQN : Hid ((stepT ab xt N p (y + 1)).2 = d + 1) := Lib.hid (by rw [hsn])
                    have HSN : Hid (S ++ (stepT ab xt N p (y + 1)).1 = S2 ++ [(d, ⟨xt, (y : Int)⟩)]) := Lib.hid (by rw [hsn, ← HS2.out, List.append_assoc])
                    have HRR : Hid (r = (d + 1) % i) := Lib.hid HBR.out.2
                    clear hsn t3
                    go_wp2_with fail
                    go_roundw
                    case rel => exact ⟨y + 1, r, d + 1, by omega, by go_num, by first | rfl | go_num, hdm, HRR, HQN, by rw [HSN.out]; exact HRN⟩
                    case measure => simp [intOf]; omega
            · obtain rfl : y = N := by omega
              have HSJ : Hid (seqT chB ms (l.take (j + 1)) 0 = (S ++ (stepT ab xt y p y).1, (stepT ab xt y p y).2)) := Lib.hid (by rw [HNXT.out, HSTA.out])
              have HQJ : Hid ((seqT chB ms (l.take (j + 1)) 0).2 = q) := Lib.hid (by rw [HSJ.out]; exact HQQ.out)
              have HRJ : Hid (RGo w wr A' i c' (seqT chB ms (l.take (j + 1)) 0).1) := Lib.hid (by rw [HSJ.out]; exact HR.out)
              clear hlty
              go_wp2_with fail
              go_roundw
              case rel => exact ⟨j + 1, d, q, by omega, by go_num, rfl, hq, hd, HQJ, HRJ⟩
              case measure => simp [intOf]; omega
        · obtain rfl : j = n := by omega
          have hall : l.take j = l := List.take_of_length_le (by rw [HLL.out]; exact Nat.le_refl _)
          obtain ⟨sl, h1, h2⟩ := HR.out.ls
          have HRD : Hid (ReadsL wr w.heap.size wr.heap.size A' (robinL l ms)) := Lib.hid (h1.reads (by rw [h2, hall]; unfold robinL; rw [HML.out]))
          clear hall h1 h2 hltj
          go_wp2_with fail
          go_ret2
          exact ⟨A', c', rfl, HRD.out, HR.out.bel⟩
end Go.Proofs.Ythongbobopampaa.L10
