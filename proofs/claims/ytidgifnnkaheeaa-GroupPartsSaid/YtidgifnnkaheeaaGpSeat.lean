/-
  Contracts: texts copied; a member is given a seat.
-/
import Derived.Test.YtidgifnnkaheeaaGpNames
import Derived.Deep.RegionHeld3
import Derived.Lib.SliceRun
import Derived.LoopTactic
import Derived.Outline
import Derived.Deep.AppendLies
namespace Go.Proofs.Ytidgifnnkaheeaa.L11
open Go.RowKit
open Go.Maps
open L3 L4 L9 L10

theorem strInfo : (Try.prog.info? 9).map (fun i => (i.zero, i.size, i.bytes)) = some (some (.string ⟨#[]⟩), 1, 16) := by kernel_rfl
/-- what a copy is -/
def CopyT (w : World) (n : Nat) (l : List ByteArray) (e : Ending) (w' : World) : Prop :=
  ∃ A c, e = .returned (.slice A n c) ∧ w'.ownsRow w.heap.size 9 1 (.slice A n c) n (l.map (fun x => .string x)) ∧ Below w.heap.size w w'
set_option maxRecDepth 100000 in
set_option maxHeartbeats 1000000 in
theorem cloneT_is (A : Option Addr) (n cap : Nat) (l : List ByteArray) (w : World) (hn : Hid (l.length = n)) (hl : n ≤ 1000000) (HR : Hid (RowT w A cap l)) :
    Calls Try.prog 51 #[.slice A n cap] w (CopyT w n l) := by
  cases A with
  | none =>
    obtain ⟨h1, rfl⟩ := HR.out.none0 rfl
    have h2 := List.eq_nil_of_length_eq_zero h1
    subst h2
    obtain rfl : 0 = n := hn.out
    have hq := fun (wx : World) => Lib.run_eql_slice_nil (P := Try.prog) wx 38 9 none 0 0 0 0 Try.underlying38
    clear h1
    go_enter Try.func51, Try.ntmps51
    go_wp2_with fail
    go_ret
    exact ⟨none, 0, rfl, World.ownsRow_nil _ _ _ _, Below.refl _ _⟩
  | some ad =>
    obtain ⟨i0, hi0, hz0, hz1, hz2⟩ := info_parts strInfo
    have hq := fun (wx : World) => Lib.run_eql_slice_nil (P := Try.prog) wx 38 9 (some ad) n cap 0 0 Try.underlying38
    have HS := Lib.hid HR.out.src
    have HL : Hid ((l.map (fun x => Value.string x)).length = n * 1) := Lib.hid (by rw [List.length_map, hn.out, Nat.mul_one])
    have H1 := Lib.hid (txt_one l)
    go_enter Try.func51, Try.ntmps51
    go_wp2_with (at_builtin; refine wpList_append_own _ rfl (.tmp 5) (.tmp 6) 38 (by rfl) w.heap.size 9 i0 _ 1 16 Try.underlying38 hi0 hz0 hz1 hz2 rfl (by omega) _ 0 [] (by rfl) (World.ownsRow_made w #[] 0 (Nat.le_refl _) (by unfold maxLen; omega) rfl) ad n cap _ (by rfl) HL.out ((HS.out.below (one_box' _)).2 ad rfl) H1.out (by unfold maxLen; omega) (by omega) (by simp) ?_; intro v1 w1 hown hgrow hnil)
    go_ret
    have hown' : w1.ownsRow w.heap.size 9 1 v1 n (l.map (fun x => .string x)) := by simpa using hown
    obtain ⟨A, c, rfl⟩ := own_len hown'
    exact ⟨A, c, rfl, hown', (one_box' _).grown hgrow (by simp) (fun j e => by simp [Value.ownBlock] at e; omega)⟩
/-- while a seat is copied: its box, its own topics -/
structure Cpy (w : World) (H : Nat) (a : ByteArray) (A : Option Addr) (n c : Nat) (t e : Int) (l : List ByteArray) (wr : World) : Prop where
  row : wr.heap[H]? = some (.cells #[.string a, .slice A n c, .int .i64 t, .int .i64 e] 47 (0, 0))
  own : wr.ownsRow w.heap.size 9 1 (.slice A n c) n (l.map (fun x => .string x))
  bel : Below w.heap.size w wr
theorem Cpy.below {w wr w' : World} {H n c : Nat} {a : ByteArray} {A : Option Addr} {t e : Int} {l : List ByteArray} (h : Cpy w H a A n c t e l wr) (hb : Below wr.heap.size wr w') : Cpy w H a A n c t e l w' :=
  ⟨(hb.block _ (Array.getElem?_eq_some_iff.1 h.row).1).trans h.row, own_at h.own (fun k hk => hb.block k (h.own.lt k hk).2), h.bel.trans (hb.mono h.bel.size)⟩
theorem Cpy.cells {w wr : World} {H n c : Nat} {a : ByteArray} {A : Option Addr} {t e : Int} {l : List ByteArray} (h : Cpy w H a A n c t e l wr) :
    wr.cell? ⟨H, 0, none⟩ = some (.string a) ∧ wr.cell? ⟨H, 1, none⟩ = some (.slice A n c) ∧ wr.cell? ⟨H, 2, none⟩ = some (.int .i64 t) ∧ wr.cell? ⟨H, 3, none⟩ = some (.int .i64 e) :=
  ⟨(cell_of_row _ _ 0 _ _ _ h.row).trans rfl, (cell_of_row _ _ 1 _ _ _ h.row).trans rfl, (cell_of_row _ _ 2 _ _ _ h.row).trans rfl, (cell_of_row _ _ 3 _ _ _ h.row).trans rfl⟩
/-- a topic is put where it stands -/
theorem Cpy.set {w wr : World} {H n c k : Nat} {a x : ByteArray} {A : Option Addr} {t e : Int} {l : List ByteArray} (h : Cpy w H a A n c t e l wr) (hx : l[k]? = some x) (hn : l.length = n) :
    ∃ g, A = some ⟨g, 0, none⟩ ∧ wr.cell? ⟨g, k, none⟩ = some (.string x) ∧ wr.frozen? ⟨g, k, none⟩ = false ∧ g < wr.heap.size ∧ Cpy w H a A n c t e l (wr.setCell ⟨g, k, none⟩ (.string x)) := by
  have hk := (List.getElem?_eq_some_iff.1 hx).1
  rcases h.own.2 with ⟨_, e0⟩ | ⟨g, cap, cur, e0, h1, hh, hc, hm, hs, ht⟩
  · omega
  · injection e0 with e1 _ e3; subst e1; subst e3
    have q := h.own.cells (g := g) rfl k (.string x) (by rw [List.getElem?_map, hx]; rfl)
    rw [Addr.add_lit, Nat.zero_add] at q
    have hne : H ≠ g := fun e => by
      have := h.row
      rw [e, hh] at this
      injection this with this; injection this with _ this
      exact absurd this (by decide)
    refine ⟨g, rfl, q, frozen_of_row _ _ _ _ _ hh, (Array.getElem?_eq_some_iff.1 hh).1, ⟨(Below.heap_setCell _ _ _ _ hne).trans h.row, ?_, h.bel.setCell h1 _⟩⟩
    have := own_setc (i := k) (u := .string x) h.own
    have e : (l.map (fun x => Value.string x)).set k (.string x) = l.map (fun x => .string x) := by
      apply List.ext_getElem?
      intro j
      rw [List.getElem?_set]
      split
      · rename_i e; subst e
        rw [List.getElem?_map, hx]
        simp [hk]
      · rfl
    rwa [e] at this
theorem Cpy.k {w wr : World} {H gt n c k : Nat} {a x : ByteArray} {t e : Int} {l : List ByteArray} (h : Cpy w H a (some ⟨gt, 0, none⟩) n c t e l wr) (hx : l[k]? = some x) (hn : l.length = n) :
    (wr.cell? ⟨H, 1, none⟩ = some (.slice (some ⟨gt, 0, none⟩) n c) ∧ wr.cell? ⟨gt, k, none⟩ = some (.string x) ∧ wr.frozen? ⟨gt, k, none⟩ = false) ∧ Cpy w H a (some ⟨gt, 0, none⟩) n c t e l wr := by
  obtain ⟨g, e1, h1, h2, _, _⟩ := h.set hx hn
  injection e1 with e1; injection e1 with e1; subst e1
  exact ⟨⟨h.cells.2.1, h1, h2⟩, h⟩
theorem Cpy.setK {w wr : World} {H gt n c k : Nat} {a x : ByteArray} {t e : Int} {l : List ByteArray} (h : Cpy w H a (some ⟨gt, 0, none⟩) n c t e l wr) (hx : l[k]? = some x) (hn : l.length = n) :
    Cpy w H a (some ⟨gt, 0, none⟩) n c t e l (wr.setCell ⟨gt, k, none⟩ (.string x)) := by
  obtain ⟨g, e1, _, _, _, h1⟩ := h.set hx hn
  injection e1 with e1; injection e1 with e1; subst e1
  exact h1
theorem cpyB {w w1 w2 : World} {H gt n c k : Nat} {a x : ByteArray} {t e : Int} {l : List ByteArray} (hx : l[k]? = some x) (hn : l.length = n) (h : (w1.cell? ⟨H, 1, none⟩ = some (.slice (some ⟨gt, 0, none⟩) n c) ∧ w1.cell? ⟨gt, k, none⟩ = some (.string x) ∧ w1.frozen? ⟨gt, k, none⟩ = false) ∧ Cpy w H a (some ⟨gt, 0, none⟩) n c t e l w1) (hb : Below w1.heap.size w1 w2) :
    (w2.cell? ⟨H, 1, none⟩ = some (.slice (some ⟨gt, 0, none⟩) n c) ∧ w2.cell? ⟨gt, k, none⟩ = some (.string x) ∧ w2.frozen? ⟨gt, k, none⟩ = false) ∧ Cpy w H a (some ⟨gt, 0, none⟩) n c t e l w2 := (h.2.below hb).k hx hn
theorem cpyD {w w1 : World} {H gt n c k : Nat} {a x : ByteArray} {t e : Int} {l : List ByteArray} (hx : l[k]? = some x) (hn : l.length = n) (h : (w1.cell? ⟨H, 1, none⟩ = some (.slice (some ⟨gt, 0, none⟩) n c) ∧ w1.cell? ⟨gt, k, none⟩ = some (.string x) ∧ w1.frozen? ⟨gt, k, none⟩ = false) ∧ Cpy w H a (some ⟨gt, 0, none⟩) n c t e l w1) :
    (w1.drew.cell? ⟨H, 1, none⟩ = some (.slice (some ⟨gt, 0, none⟩) n c) ∧ w1.drew.cell? ⟨gt, k, none⟩ = some (.string x) ∧ w1.drew.frozen? ⟨gt, k, none⟩ = false) ∧ Cpy w H a (some ⟨gt, 0, none⟩) n c t e l w1.drew := cpyB hx hn h ((Below.refl _ _).drew)
theorem cpyS {w w1 : World} {H gt n c k : Nat} {a x : ByteArray} {t e : Int} {l : List ByteArray} (hx : l[k]? = some x) (hn : l.length = n) (h : (w1.cell? ⟨H, 1, none⟩ = some (.slice (some ⟨gt, 0, none⟩) n c) ∧ w1.cell? ⟨gt, k, none⟩ = some (.string x) ∧ w1.frozen? ⟨gt, k, none⟩ = false) ∧ Cpy w H a (some ⟨gt, 0, none⟩) n c t e l w1) :
    ((w1.setCell ⟨gt, k, none⟩ (.string x)).cell? ⟨H, 1, none⟩ = some (.slice (some ⟨gt, 0, none⟩) n c) ∧ (w1.setCell ⟨gt, k, none⟩ (.string x)).cell? ⟨gt, k, none⟩ = some (.string x) ∧ (w1.setCell ⟨gt, k, none⟩ (.string x)).frozen? ⟨gt, k, none⟩ = false) ∧ Cpy w H a (some ⟨gt, 0, none⟩) n c t e l (w1.setCell ⟨gt, k, none⟩ (.string x)) := (h.2.setK hx hn).k hx hn
set_option maxRecDepth 100000 in
set_option maxHeartbeats 4000000 in
theorem seat_is {w : World} {g b N n c : Nat} {G : Int} {r : Bool} {Q : List Se} (s : Se) (a : ByteArray) (A : Option Addr) (tm sn : Int) (h : Hid (Gp w g b N G r Q)) (hN : N ≤ 1000000) (HS : Hid (s.m.name = a ∧ s.m.ts.length = n ∧ s.tm = tm ∧ s.sn = sn)) (hT : Hid (RowT w A c s.m.ts)) (hz : Hid (s.m.name.size ≤ 281474976710656 ∧ ∀ x ∈ s.m.ts, x.size ≤ 281474976710656)) (hn : n ≤ 1000000) :
    Calls Try.prog 49 #[.pointer (some ⟨g, 0, none⟩), .agg #[.string a, .slice A n c, .int .i64 tm, .int .i64 sn]] w fun e w' => e = .returned (.tuple #[]) ∧ Gp w' g b (N + 1) G r (putS Q s) ∧ Only [b] w w' := by
  obtain ⟨h1, h2, h3, h4⟩ := HS.out
  have HLN := Lib.hid h2
  have HZA : Hid (a.size ≤ 281474976710656) := Lib.hid (by rw [← h1]; exact hz.out.1)
  have HZT := Lib.hid hz.out.2
  have hr := heap_alloc_new w (.cells #[.string a, .slice A n c, .int .i64 tm, .int .i64 sn] 47)
  have hb := one_box' (w := w) (.cells #[.string a, .slice A n c, .int .i64 tm, .int .i64 sn] 47)
  obtain ⟨W, hW⟩ : ∃ W, w.alloc (.cells #[.string a, .slice A n c, .int .i64 tm, .int .i64 sn] 47) = W := ⟨_, rfl⟩
  obtain ⟨H, hH⟩ : ∃ H, w.heap.size = H := ⟨_, rfl⟩
  rw [hW, hH] at hr
  rw [hW] at hb
  have HW := Lib.hid hW
  have HH := Lib.hid hH
  have HB := Lib.hid hb
  have HRW := Lib.hid hr
  have b0 : W.cell? ⟨H, 0, none⟩ = some (.string a) := (cell_of_row _ _ 0 _ _ _ hr).trans rfl
  have hlt : H < W.heap.size := (Array.getElem?_eq_some_iff.1 hr).1
  clear h1 h2 h3 h4 hr hb hW hH
  have HT0 := hT
  go_enter Try.func49, Try.ntmps49
  go_wp2_with (first
    | (rw [HW.out, HH.out])
    | (go_at_call 58; refine (clone_any a _ HZA.out).mono ?_; rintro e w1 ⟨rfl, hb1⟩; have hr1 := (hb1.block H hlt).trans HRW.out; have d0 : w1.frozen? ⟨H, 0, none⟩ = false := frozen_of_row _ _ _ _ _ hr1; have d1 : w1.cell? ⟨H, 0, none⟩ = some (.string a) := (cell_of_row _ _ 0 _ _ _ hr1).trans rfl; obtain ⟨W2, hW2⟩ : ∃ W2, w1.setCell ⟨H, 0, none⟩ (.string a) = W2 := ⟨_, rfl⟩; have hr2 : W2.heap[H]? = some (.cells #[.string a, .slice A n c, .int .i64 tm, .int .i64 sn] 47 (0, 0)) := hW2 ▸ heap_setCell_same _ _ _ _ _ _ hr1; have HB2 : Hid (Below w.heap.size w W2) := Lib.hid (hW2 ▸ (HB.out.trans (hb1.mono HB.out.size)).setCell (by rw [HH.out]; exact Nat.le_refl _) _); have c1 : W2.cell? ⟨H, 1, none⟩ = some (.slice A n c) := (cell_of_row _ _ 1 _ _ _ hr2).trans rfl; have HR2 := Lib.hid hr2; clear hb1 hr1 hr2)
    | (go_at_call 51; refine (cloneT_is A n c s.m.ts _ HLN hn (Lib.hid (hT.out.below HB2.out))).mono ?_; rintro e w3 ⟨A3, c3, rfl, ho3, hb3⟩; have hr3 := (hb3.block H (Array.getElem?_eq_some_iff.1 HR2.out).1).trans HR2.out; have f0 : w3.frozen? ⟨H, 1, none⟩ = false := frozen_of_row _ _ _ _ _ hr3; have f1 : w3.cell? ⟨H, 1, none⟩ = some (.slice A n c) := (cell_of_row _ _ 1 _ _ _ hr3).trans rfl; obtain ⟨W4, hW4⟩ : ∃ W4, w3.setCell ⟨H, 1, none⟩ (.slice A3 n c3) = W4 := ⟨_, rfl⟩; have HC4 : Hid (Cpy w H a A3 n c3 tm sn s.m.ts W4) := Lib.hid (hW4 ▸ ⟨heap_setCell_same _ _ _ _ _ _ hr3, own_base (own_at ho3 (fun k hk => Below.heap_setCell _ _ _ _ (fun z => by have q := (ho3.lt k hk).1; have q2 := (Array.getElem?_eq_some_iff.1 HR2.out).1; have z' : k = H := z; omega))) (HB2.out.size), (HB2.out.trans (hb3.mono HB2.out.size)).setCell (by rw [HH.out]; exact Nat.le_refl _) _⟩); have g1 := HC4.out.cells.2.1; clear ho3 hb3 hr3))
  clear b0 hlt d0 d1 hW2 c1 f0 f1 hW4
  have HSZ : Hid (s.m.ts.length = n) := HLN
  go_loopw [22] (fun i wr => ∃ k : Nat, k ≤ n ∧ i = .int .i64 k ∧ Hid (Cpy w H a A3 n c3 tm sn s.m.ts wr)) (fun i _ => n - (intOf i).toNat)
  case atStart => exact ⟨0, Nat.zero_le _, rfl, HC4⟩
  case round =>
    obtain ⟨k, hk, rfl, HC⟩ := hrel
    by_cases hlt : k < n
    · obtain ⟨x, hx⟩ : ∃ x, s.m.ts[k]? = some x := ⟨_, List.getElem?_eq_getElem (by rw [HLN.out]; exact hlt)⟩
      have HX := Lib.hid hx
      have HZX : Hid (x.size ≤ 281474976710656) := Lib.hid (HZT.out x (List.mem_of_getElem? hx))
      obtain ⟨gt, rfl, x0, -, ltA, -⟩ := HC.out.set hx HLN.out
      obtain ⟨-, x1, -, -⟩ := HC.out.cells
      have k0 : (0 : Int) ≤ (k : Int) := by omega
      have kl : (k : Int) < (n : Int) := by omega
      clear hx
      go_wp2_with fail
      clear x0 x1
      go_region_held3 (fun w' => (w'.cell? ⟨H, 1, none⟩ = some (.slice (some ⟨gt, 0, none⟩) n c3) ∧ w'.cell? ⟨gt, k, none⟩ = some (.string x) ∧ w'.frozen? ⟨gt, k, none⟩ = false) ∧ Cpy w H a (some ⟨gt, 0, none⟩) n c3 tm sn s.m.ts w')
        (first | assumption | exact cpyD HX.out HLN.out (HC.out.k HX.out HLN.out) | exact HC.out.k HX.out HLN.out | exact cpyD HX.out HLN.out (by assumption) | exact cpyB HX.out HLN.out (by assumption) (by assumption) | exact cpyS HX.out HLN.out (by assumption))
        (first | (go_at_call 58; refine (clone_any x _ HZX.out).mono ?_; rintro e w5 ⟨rfl, hb5⟩))
      all_goals
        rename_i hh
        have HCN := Lib.hid hh.2
        clear hh
        go_wp2_with fail
        go_roundw
        case rel => exact ⟨k + 1, by omega, by go_num, HCN⟩
        case measure => simp [intOf]; omega
    · obtain rfl : k = n := by omega
      obtain ⟨z0, z1, z2, z3⟩ := HC.out.cells
      have hG := h.out.below HC.out.bel
      have c2 := hG.c2
      obtain ⟨w', hrun, hm, ho⟩ := (hG.below ((Below.refl _ wr).drew)).map.store (Q' := putS Q s) (by unfold maxLen; omega) s A3 k c3 HLN.out (by have := hz.out.1; unfold maxLen; omega) (RowT.own (HC.out.below ((Below.refl _ wr).drew)).own HLN.out) (fun x => mem_put)
      obtain ⟨h1, _, h3, h4⟩ := HS.out
      rw [h1, h3, h4] at hrun
      have HM := Lib.hid hm
      have HO := Lib.hid ho
      have HG := Lib.hid (hG.below ((Below.refl _ wr).drew))
      have HBL := Lib.hid HC.out.bel
      clear h1 h3 h4 hm ho hG HS hz HC HC4 g1
      go_wp2_with fail
      go_region
      go_wp2_with fail
      go_end0
      exact ⟨rfl, HG.out.turned HO.out HM.out, ((Only.ofBelow HBL.out).drew).trans HO.out (fun k hk => .inl hk)⟩
end Go.Proofs.Ytidgifnnkaheeaa.L11
