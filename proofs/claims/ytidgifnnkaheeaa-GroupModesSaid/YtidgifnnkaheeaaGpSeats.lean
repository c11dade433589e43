/-
  Contracts: the members' seats are told.
-/
import Derived.Test.YtidgifnnkaheeaaGpLoad
import Derived.Deep.AppendLies
namespace Go.Proofs.Ytidgifnnkaheeaa.L11
open Go.RowKit
open Go.Maps
open L3 L4 L9 L10

theorem seatInfo : (Try.prog.info? 47).map (fun i => (i.zero, i.size, i.bytes)) = some (some (.agg #[.string ⟨#[]⟩, .slice none 0 0, .int .i64 0, .int .i64 0]), 4, 56) := by kernel_rfl
/-- a seat where it lies -/
structure Sv where
  s : Se
  A : Option Addr
  c : Nat
def rowE (l : List Sv) : List Value := l.flatMap (fun v => seC v.s v.A v.c)
theorem rowE_len (l : List Sv) : (rowE l).length = l.length * 4 := by
  induction l with
  | nil => rfl
  | cons d t ih => rw [rowE, List.flatMap_cons, List.length_append, ← rowE, ih]; simp [seC]; omega
theorem rowE_app (a b : List Sv) : rowE (a ++ b) = rowE a ++ rowE b := by simp [rowE]
theorem rowE_one (v : Sv) : rowE [v] = seC v.s v.A v.c := by simp [rowE]
theorem rowE_at : ∀ {l : List Sv} {i : Nat} {d : Sv}, l[i]? = some d → ∀ j : Nat, ∀ u, (seC d.s d.A d.c)[j]? = some u → (rowE l)[i * 4 + j]? = some u
  | [], i, d, h => by simp at h
  | a :: t, 0, d, h => fun j u hu => by
    simp at h; subst h
    rw [rowE, List.flatMap_cons, Nat.zero_mul, Nat.zero_add, List.getElem?_append_left (List.getElem?_eq_some_iff.1 hu).1]; exact hu
  | a :: t, i + 1, d, h => fun j u hu => by
    have ih := rowE_at (l := t) (i := i) (d := d) (by simpa using h) j u hu
    rw [rowE, List.flatMap_cons, List.getElem?_append_right (by simp [seC]; omega), ← rowE]
    rw [show (i + 1) * 4 + j - (seC a.s a.A a.c).length = i * 4 + j by simp [seC]; omega]; exact ih
/-- seats of one's own -/
structure OwnE (w : World) (B : Nat) (A : Option Addr) (n c : Nat) (vs : List Sv) : Prop where
  own : w.ownsRow B 47 4 (.slice A n c) n (rowE vs)
  len : vs.length = n
  rows : ∀ v ∈ vs, w.ownsRow B 9 1 (.slice v.A v.s.m.ts.length v.c) v.s.m.ts.length (v.s.m.ts.map (fun x => .string x))
theorem OwnE.base {w : World} {B B' n c : Nat} {A : Option Addr} {vs : List Sv} (h : OwnE w B A n c vs) (hB : B' ≤ B) : OwnE w B' A n c vs := ⟨own_base h.own hB, h.len, fun v hv => own_base (h.rows v hv) hB⟩
theorem OwnE.below {w w' : World} {B n c : Nat} {A : Option Addr} {vs : List Sv} (h : OwnE w B A n c vs) (hb : Below w.heap.size w w') : OwnE w' B A n c vs := ⟨own_below h.own hb, h.len, fun v hv => own_below (h.rows v hv) hb⟩
theorem OwnE.only {w w' : World} {B n c : Nat} {A : Option Addr} {vs : List Sv} {S : List Nat} (h : OwnE w B A n c vs) (o : Only S w w') (hS : ∀ k ∈ S, k < B) : OwnE w' B A n c vs :=
  ⟨own_at h.own (fun k hk => o.block k (h.own.lt k hk).2 (fun e => by have := hS k e; have := (h.own.lt k hk).1; omega)), h.len, fun v hv => own_at (h.rows v hv) (fun k hk => o.block k ((h.rows v hv).lt k hk).2 (fun e => by have := hS k e; have := ((h.rows v hv).lt k hk).1; omega))⟩
theorem OwnE.reads {w : World} {B n c : Nat} {A : Option Addr} {vs : List Sv} (h : OwnE w B A n c vs) : ReadsE w A (vs.map (·.s)) := fun h0 => by
  rw [List.length_map] at h0
  have hl := h.len
  rcases h.own.2 with ⟨_, e⟩ | ⟨g, cap, cur, e, h1, hh, _⟩
  · omega
  · injection e with e1; subst e1
    refine ⟨g, rfl, (Array.getElem?_eq_some_iff.1 hh).1, fun i s hs => ?_⟩
    rw [List.getElem?_map] at hs
    obtain ⟨v, hv, rfl⟩ := Option.map_eq_some_iff.1 hs
    have q := fun j u hu => h.own.cells (g := g) rfl (i * 4 + j) u (rowE_at hv j u hu)
    have q0 := q 0 _ rfl; have q1 := q 1 _ rfl; have q2 := q 2 _ rfl; have q3 := q 3 _ rfl
    rw [Addr.add_lit, Nat.zero_add] at q0 q1 q2 q3
    exact ⟨v.A, v.c, RowT.own (h.rows v (List.mem_of_getElem? hv)) rfl, q0, q1, q2, q3⟩
/-- what Seats tells -/
def SeatsP (w : World) (m : Nat) (Q : List Se) (e : Ending) (w' : World) : Prop :=
  ∃ A c vs, e = .returned (.slice A m c) ∧ vs.map (·.s) = Q ∧ OwnE w' w.heap.size A m c vs ∧ Below w.heap.size w w'
theorem OwnE.push {w5 W4 : World} {B n0 c0 nl c3 : Nat} {A0 A3 : Option Addr} {vs : List Sv} {s : Se} {v' : Value} (h : OwnE W4 B A0 n0 c0 vs)
    (ho3 : W4.ownsRow B 9 1 (.slice A3 nl c3) nl (s.m.ts.map (fun x => .string x))) (hnl : s.m.ts.length = nl)
    (hown : w5.ownsRow B 47 4 v' (n0 + 1) (rowE vs ++ seC s A3 c3)) (o : Obj) (hg : (W4.alloc o).grownBy w5 (Value.slice A0 n0 c0).ownBlock) : ∃ A c, v' = .slice A (n0 + 1) c ∧ OwnE w5 B A (n0 + 1) c (vs ++ [⟨s, A3, c3⟩]) := by
  obtain ⟨A, c, hv⟩ : ∃ A c, v' = .slice A (n0 + 1) c := by
    rcases hown.2 with ⟨_, e⟩ | ⟨g, cap, cur, e, _⟩
    · omega
    · exact ⟨_, _, e⟩
  subst hv
  have stay : ∀ {A' : Option Addr} {n' c' : Nat} {xs : List Value}, W4.ownsRow B 9 1 (.slice A' n' c') n' xs → w5.ownsRow B 9 1 (.slice A' n' c') n' xs := fun {A' n' c' xs} q => by
    refine own_at q (fun k hk => (hg.block k (by have := (q.lt k hk).2; simp; omega) (fun z => ?_)).trans ((one_box' o).block k (q.lt k hk).2))
    obtain ⟨cs, _, _, h1⟩ := own_bk' q hk
    obtain ⟨cs', _, _, h2⟩ := own_bk' h.own z.symm
    rw [h1] at h2; injection h2 with h2; injection h2 with _ h2; exact absurd h2 (by decide)
  refine ⟨A, c, rfl, ?_, by rw [List.length_append, h.len]; rfl, fun v hv => ?_⟩
  · rw [rowE_app, rowE_one]; exact hown
  · rcases List.mem_append.1 hv with hv | hv
    · exact stay (h.rows v hv)
    · rw [List.mem_singleton.1 hv]
      dsimp only
      rw [hnl]
      exact stay ho3
set_option maxRecDepth 100000 in
set_option maxHeartbeats 4000000 in
theorem seats_is {w : World} {g b N m : Nat} {G : Int} {r : Bool} {Q : List Se} (h : Hid (Gp w g b N G r Q)) (GG : Hid (GoodG G Q)) (hm : Hid (Q.length = m)) (hm8 : m ≤ 8) :
    Calls Try.prog 26 #[.pointer (some ⟨g, 0, none⟩)] w (SeatsP w m Q) := by
  obtain ⟨i0, hi0, hz0, hz1, hz2⟩ := info_parts seatInfo
  have HR := Lib.hid GG.out.rise
  go_enter Try.func26, Try.ntmps26
  go_wp2_with (go_at_call 50; refine (names_is h HR hm hm8).mono ?_; rintro e w1 ⟨An, cn, rfl, hown, hb1⟩; have HROW := Lib.hid hown; have HB1 := Lib.hid hb1; clear hown hb1)
  have HG1 := Lib.hid (h.out.below HB1.out)
  go_loopw [3, 10] (fun v i wr => ∃ (k : Nat) (A0 : Option Addr) (c0 : Nat) (vs : List Sv), k ≤ m ∧ i = .int .i64 k ∧ v = .slice A0 k c0 ∧ Hid (vs.map (·.s) = Q.take k ∧ OwnE wr w1.heap.size A0 k c0 vs ∧ Below w1.heap.size w1 wr)) (fun _ i _ => m - (intOf i).toNat)
  case atStart => exact ⟨0, none, 0, [], Nat.zero_le _, rfl, rfl, Lib.hid ⟨rfl, ⟨World.ownsRow_nil _ _ _ _, rfl, fun v hv => by cases hv⟩, Below.refl _ _⟩⟩
  case round =>
    obtain ⟨k, A0, c0, vs, hk, rfl, rfl, HI⟩ := hrel
    have HG := Lib.hid (HG1.out.below HI.out.2.2)
    have c2 := HG.out.c2
    by_cases hlt : k < m
    · obtain ⟨s, hs⟩ : ∃ s, Q[k]? = some s := ⟨_, List.getElem?_eq_getElem (by rw [hm.out]; exact hlt)⟩
      have hmay := GG.out.may s (List.mem_of_getElem? hs)
      have hfit := mayS_fit hmay
      obtain ⟨gn, rfl, hgnl, x0⟩ : ∃ gn, An = some ⟨gn, 0, none⟩ ∧ gn < w1.heap.size ∧ w1.cell? ⟨gn, k, none⟩ = some (.string s.m.name) := by
        rcases HROW.out.2 with ⟨_, e⟩ | ⟨gn, cap, cur, e, h1, hh, _⟩
        · omega
        · injection e with e1; subst e1
          have q := HROW.out.cells (g := gn) rfl k (.string s.m.name) (by rw [List.getElem?_map, List.getElem?_map, hs]; rfl)
          rw [Addr.add_lit, Nat.zero_add] at q
          exact ⟨gn, rfl, (Array.getElem?_eq_some_iff.1 hh).1, q⟩
      have x0 := cell_b HI.out.2.2 x0
      obtain ⟨At, ct, hrt, hlook⟩ := HG.out.map.look (List.mem_of_getElem? hs) (by have := hfit.1; unfold maxLen; omega)
      have hrun := hlook wr rfl
      have HRT := Lib.hid hrt
      obtain ⟨tn, htn⟩ : ∃ tn, s.m.ts.length = tn := ⟨_, rfl⟩
      have htn1 : tn ≤ 1000000 := by have := hfit.2.1; omega
      have HTN := Lib.hid htn
      have HST := Lib.hid hs
      rw [htn] at hrun
      obtain ⟨nm, hnm⟩ : ∃ nm, s.m.name = nm := ⟨_, rfl⟩
      obtain ⟨tm, htm⟩ : ∃ nm, s.tm = nm := ⟨_, rfl⟩
      obtain ⟨sn, hsn⟩ : ∃ nm, s.sn = nm := ⟨_, rfl⟩
      rw [hnm, htm, hsn] at hrun
      rw [hnm] at x0
      have HS : Hid (s.m.name = nm ∧ s.tm = tm ∧ s.sn = sn) := Lib.hid ⟨hnm, htm, hsn⟩
      have k0 : (0 : Int) ≤ (k : Int) := by omega
      have k1 : (k : Int) < (m : Int) := by omega
      obtain ⟨⟨b0, b1, b2, b3⟩, hbW⟩ := box_se (w := wr) (a := nm) (A := At) (n := tn) (c := ct) (t := tm) (e := sn)
      have hr2 := heap_alloc_new wr (.cells #[.string nm, .slice At tn ct, .int .i64 tm, .int .i64 sn] 47)
      obtain ⟨H, hH⟩ : ∃ H, wr.heap.size = H := ⟨_, rfl⟩
      obtain ⟨W2, hW2⟩ : ∃ W, wr.alloc (.cells #[.string nm, .slice At tn ct, .int .i64 tm, .int .i64 sn] 47) = W := ⟨_, rfl⟩
      rw [hW2] at b0 b1 b2 b3 hbW hr2
      rw [hH] at b0 b1 b2 b3 hr2
      have HHS := Lib.hid hH
      have HW2 := Lib.hid hbW
      have HR2 := Lib.hid hr2
      clear hs hmay hfit hrt hlook htn hnm htm hsn b0 b2 b3 hbW hr2
      go_wp2_with (first
        | (go_at_call 51; refine (cloneT_is At tn ct s.m.ts _ HTN htn1 (Lib.hid (HRT.out.below HW2.out))).mono ?_; rintro e w3 ⟨A3, c3, rfl, ho3, hb3⟩; have hr3 := (hb3.block H (Array.getElem?_eq_some_iff.1 HR2.out).1).trans HR2.out; have f0 : w3.frozen? ⟨H, 1, none⟩ = false := frozen_of_row _ _ _ _ _ hr3; have f1 : w3.cell? ⟨H, 1, none⟩ = some (.slice At tn ct) := (cell_of_row _ _ 1 _ _ _ hr3).trans rfl; obtain ⟨W4, hW4⟩ : ∃ W4, w3.setCell ⟨H, 1, none⟩ (.slice A3 tn c3) = W4 := ⟨_, rfl⟩; have hr4 : W4.heap[H]? = some (.cells #[.string nm, .slice A3 tn c3, .int .i64 tm, .int .i64 sn] 47 (0, 0)) := hW4 ▸ heap_setCell_same _ _ _ _ _ _ hr3; have HB4 : Hid (Below wr.heap.size wr W4) := Lib.hid (hW4 ▸ (HW2.out.trans (hb3.mono HW2.out.size)).setCell (by rw [HHS.out]; exact Nat.le_refl _) _); have HO3 : Hid (W4.ownsRow w1.heap.size 9 1 (.slice A3 tn c3) tn (s.m.ts.map (fun x => .string x))) := Lib.hid (hW4 ▸ own_base (own_at ho3 (fun j hj => Below.heap_setCell _ _ _ _ (fun z => by have q := (ho3.lt j hj).1; have q2 := (Array.getElem?_eq_some_iff.1 HR2.out).1; have z' : j = H := z; omega))) (Nat.le_trans HI.out.2.2.size HW2.out.size)); have g0 : W4.cell? ⟨H, 0, none⟩ = some (.string nm) := (cell_of_row _ _ 0 _ _ _ hr4).trans rfl; have g1 : W4.cell? ⟨H, 1, none⟩ = some (.slice A3 tn c3) := (cell_of_row _ _ 1 _ _ _ hr4).trans rfl; have g2 : W4.cell? ⟨H, 2, none⟩ = some (.int .i64 tm) := (cell_of_row _ _ 2 _ _ _ hr4).trans rfl; have g3 : W4.cell? ⟨H, 3, none⟩ = some (.int .i64 sn) := (cell_of_row _ _ 3 _ _ _ hr4).trans rfl; have HE4 := Lib.hid (HI.out.2.1.below HB4.out); clear ho3 hb3 hr3 hr4)
        | (at_builtin; refine wpList_append_own _ rfl _ _ 58 rfl w1.heap.size 47 i0 _ 4 56 Try.underlying58 hi0 hz0 hz1 hz2 rfl (by decide) _ _ _ rfl (HE4.out.own.alloc _) ⟨W4.heap.size, 0, none⟩ 1 1 [.string nm, .slice A3 tn c3, .int .i64 tm, .int .i64 sn] rfl rfl (World.news_of_block (cs := #[.string nm, .slice A3 tn c3, .int .i64 tm, .int .i64 sn]) (t := 47) (fr := (0, 0)) (heap_alloc_new W4 _)) (by simp [Value.oneCell']) (by unfold maxLen; omega) (by omega) (by have := HI.out.2.2.size; have := HB4.out.size; simp; omega) ?_; intro v' w5 hown' hgrow _))
      obtain ⟨h1, h2, h3⟩ := HS.out
      obtain ⟨A6, c6, rfl, hE6⟩ := HE4.out.push (s := s) HO3.out HTN.out (by unfold seC; rw [h1, h2, h3, HTN.out]; exact hown') _ hgrow
      obtain ⟨vs', hvs'⟩ : ∃ vs' : List Sv, vs ++ [⟨s, A3, c3⟩] = vs' := ⟨_, rfl⟩
      rw [hvs'] at hE6
      have HIN : Hid (vs'.map (·.s) = Q.take (k + 1) ∧ OwnE w5 w1.heap.size A6 (k + 1) c6 vs' ∧ Below w1.heap.size w1 w5) := Lib.hid ⟨by rw [← hvs', List.map_append, HI.out.1, List.take_add_one, HST.out]; rfl, hE6, by
        have q : Below w1.heap.size w1 W4 := HI.out.2.2.trans (HB4.out.mono HI.out.2.2.size)
        exact (q.alloc q.size _).grown hgrow (by have := q.size; simp; omega) (fun j e => (HE4.out.own.lt j e).1)⟩
      clear hown' hgrow hE6 h1 h2 h3
      go_roundw
      case rel => exact ⟨k + 1, A6, c6, _, by omega, by go_num, rfl, HIN⟩
      case measure => simp [intOf]; omega
    · obtain rfl : k = m := by omega
      have HF : Hid (vs.map (·.s) = Q) := Lib.hid (by rw [HI.out.1, List.take_of_length_le (by rw [hm.out]; exact Nat.le_refl _)])
      go_wp2_with fail
      go_ret
      exact ⟨A0, c0, vs, rfl, HF.out, HI.out.2.1.base HB1.out.size, HB1.out.trans (HI.out.2.2.mono HB1.out.size)⟩
end Go.Proofs.Ytidgifnnkaheeaa.L11
