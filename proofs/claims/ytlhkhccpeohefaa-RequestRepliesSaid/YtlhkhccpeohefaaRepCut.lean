/-
  Contracts: a reply as a statement can hold.
-/
import Derived.Test.YtlhkhccpeohefaaRepOpen
import Derived.Test.YtlhkhccpeohefaaRepGet
import Derived.Deep.AppendLies
namespace Go.Proofs.Ytlhkhccpeohefaa.L4
open Go.RowKit
open L3

def Fd.cut (f : Fd) : Fd := ⟨f.o, f.r.cut⟩
def Pt.cut (p : Pt) : Pt := ⟨cutS p.t 40, p.n⟩
theorem gr_row {W1 wr wx w2 : World} {H k m : Nat} {T : TypeId} {V : Value} {xs : List Value} {row : Obj} (h : W1.grownBy wr (some H)) (hH : H < W1.heap.size) (ho : wr.ownsRow W1.heap.size T m V k xs) (hb : Below wr.heap.size wr wx) (hg : wx.grownBy w2 V.ownBlock) (hr : wr.heap[H]? = some row) : w2.heap[H]? = some row := by
  have h1 := h.size
  have h2 := hb.size
  refine ((hg.block H (by omega) (fun e => by have := (ho.lt H e.symm).1; omega)).trans (hb.block H (by omega))).trans hr
theorem gr_next {W1 wr wx w2 : World} {H k m j : Nat} {T : TypeId} {V : Value} {xs : List Value} (v : Value) (h : W1.grownBy wr (some H)) (ho : wr.ownsRow W1.heap.size T m V k xs) (hb : Below wr.heap.size wr wx) (hg : wx.grownBy w2 V.ownBlock) : W1.grownBy (w2.setCell ⟨H, j, none⟩ v) (some H) := by
  have h1 := h.size
  have h2 := hb.size
  have h3 := hg.size
  refine ⟨hg.os.trans (hb.os.trans h.os), hg.tape.trans (hb.tape.trans h.tape), hg.output.trans (hb.output.trans h.output), by simp; omega, fun i hi hne => ?_⟩
  rw [heap_setCell_other _ _ _ _ (by show i ≠ H; simpa using hne)]
  exact (hg.block i (by omega) (fun e => by have := (ho.lt i e.symm).1; omega)).trans ((hb.block i (by omega)).trans (h.block i hi hne))
theorem cut70 {α β : Type} {l : List α} {M : List β} {f : α → β} {k : Nat} (hk : k ≤ l.length) (hk70 : k ≤ 70) (h : ¬ (k < l.length ∧ k < 70)) (hM : (l.take 70).map f = M) : (l.take k).map f = M ∧ M.length = k := by
  rw [← hM]
  rcases Nat.lt_or_ge k 70 with hlt | hge
  · obtain rfl : k = l.length := by omega
    rw [List.take_length, List.take_of_length_le (by omega)]
    exact ⟨rfl, by simp⟩
  · obtain rfl : k = 70 := by omega
    exact ⟨rfl, by rw [List.length_map, List.length_take]; omega⟩
/-- what is told of a reply that was cut -/
def CutRPost (e off n gen : Int) (L : List Fd) (M : List Pt) (w : World) (x : Ending) (w' : World) : Prop :=
  ∃ FA fc PA pc, x = .returned (.agg #[.int .i64 e, .int .i64 off, .int .i64 n, .int .i64 gen, .slice FA L.length fc, .slice PA M.length pc]) ∧
    w'.ownsRow w.heap.size 78 5 (.slice FA L.length fc) L.length (rowF L) ∧ w'.ownsRow w.heap.size 23 2 (.slice PA M.length pc) M.length (rowP M) ∧ Below w.heap.size w w'

set_option maxRecDepth 100000 in
set_option maxHeartbeats 16000000 in
theorem cutr_is (e off n gen : Int) (FA PA : Option Addr) (found : List Fd) (parts : List Pt) (fc pc B : Nat) (w : World) (hF : Hid (ReadsFO w B FA found)) (hP : Hid (ReadsPO w B PA parts)) (hB : B ≤ w.heap.size) (_zF : Hid (found.length ≤ maxLen)) (_zP : Hid (parts.length ≤ maxLen))
    (sF : Hid (∀ f ∈ found, f.r.key.size ≤ maxLen ∧ f.r.val.size ≤ maxLen)) (sP : Hid (∀ f ∈ parts, f.t.size ≤ maxLen)) (L : List Fd) (M : List Pt) (HL : Hid ((found.take 70).map Fd.cut = L)) (HM : Hid ((parts.take 70).map Pt.cut = M)) :
    Calls Try.prog 20 #[.agg #[.int .i64 e, .int .i64 off, .int .i64 n, .int .i64 gen, .slice FA found.length fc, .slice PA parts.length pc]] w (CutRPost e off n gen L M w) := by
  go_enter Try.func20, Try.ntmps20
  have X0 := Lib.hid (heap_alloc3_0 w (.cells #[.int .i64 e, .int .i64 off, .int .i64 n, .int .i64 gen, .slice FA found.length fc, .slice PA parts.length pc] 42 (0, 0)) (.cells #[.int .i64 0, .int .i64 0, .int .i64 0, .int .i64 0, .slice none 0 0, .slice none 0 0] 42 (0, 0)) (.cells #[.int .i64 e, .int .i64 off, .int .i64 n, .int .i64 gen, .slice none 0 0, .slice none 0 0] 42 (0, 0)))
  have X1 := Lib.hid (heap_alloc3_1 w (.cells #[.int .i64 e, .int .i64 off, .int .i64 n, .int .i64 gen, .slice FA found.length fc, .slice PA parts.length pc] 42 (0, 0)) (.cells #[.int .i64 0, .int .i64 0, .int .i64 0, .int .i64 0, .slice none 0 0, .slice none 0 0] 42 (0, 0)) (.cells #[.int .i64 e, .int .i64 off, .int .i64 n, .int .i64 gen, .slice none 0 0, .slice none 0 0] 42 (0, 0)))
  have X2 := Lib.hid (heap_alloc3_2 w (.cells #[.int .i64 e, .int .i64 off, .int .i64 n, .int .i64 gen, .slice FA found.length fc, .slice PA parts.length pc] 42 (0, 0)) (.cells #[.int .i64 0, .int .i64 0, .int .i64 0, .int .i64 0, .slice none 0 0, .slice none 0 0] 42 (0, 0)) (.cells #[.int .i64 e, .int .i64 off, .int .i64 n, .int .i64 gen, .slice none 0 0, .slice none 0 0] 42 (0, 0)))
  have XB := Lib.hid (below3 (w := w) (a := (.cells #[.int .i64 e, .int .i64 off, .int .i64 n, .int .i64 gen, .slice FA found.length fc, .slice PA parts.length pc] 42 (0, 0))) (b := (.cells #[.int .i64 0, .int .i64 0, .int .i64 0, .int .i64 0, .slice none 0 0, .slice none 0 0] 42 (0, 0))) (c := (.cells #[.int .i64 e, .int .i64 off, .int .i64 n, .int .i64 gen, .slice none 0 0, .slice none 0 0] 42 (0, 0))))
  go_wp2_with fail
  generalize ((w.alloc (.cells #[.int .i64 e, .int .i64 off, .int .i64 n, .int .i64 gen, .slice FA found.length fc, .slice PA parts.length pc] 42 (0, 0))).alloc (.cells #[.int .i64 0, .int .i64 0, .int .i64 0, .int .i64 0, .slice none 0 0, .slice none 0 0] 42 (0, 0))).alloc (.cells #[.int .i64 e, .int .i64 off, .int .i64 n, .int .i64 gen, .slice none 0 0, .slice none 0 0] 42 (0, 0)) = W1 at X0 X1 X2 XB ⊢
  have XS : Hid (w.heap.size + 1 + 1 < W1.heap.size) := Lib.hid (Array.getElem?_eq_some_iff.1 X2.out).1
  obtain ⟨i0, hi0, hiz, hi1, hi2⟩ := info_parts foundInfo
  go_loopw [4] (fun i wr => ∃ (k : Nat) (V : Value), k ≤ found.length ∧ k ≤ 70 ∧ i = .int .i64 k ∧ Hid (W1.grownBy wr (some (w.heap.size + 1 + 1))) ∧ Hid (wr.heap[w.heap.size + 1 + 1]? = some (.cells #[.int .i64 e, .int .i64 off, .int .i64 n, .int .i64 gen, V, .slice none 0 0] 42 (0, 0))) ∧ wr.ownsRow W1.heap.size 78 5 V k (rowF ((found.take k).map Fd.cut))) (fun i _ => found.length - (intOf i).toNat)
  case atStart => exact ⟨0, .slice none 0 0, by omega, by omega, rfl, Lib.hid (World.grownBy.refl _ _), X2, World.ownsRow_nil _ _ _ _⟩
  case round =>
    obtain ⟨k, V, hk, hk70, rfl, hgr, hbox, hown⟩ := hrel
    have hsz : w.heap.size + 1 + 1 < wr.heap.size := (Array.getElem?_eq_some_iff.1 hbox.out).1
    have y0 := (hgr.out.block w.heap.size (by have := XS.out; omega) (by simp; omega)).trans X0.out
    by_cases hlt : k < found.length ∧ k < 70
    · obtain ⟨hlt, hlt70⟩ := hlt
      obtain ⟨g, o, rfl, hg, hcells⟩ := hF.out (by omega)
      obtain ⟨⟨fo, ⟨fk, fkey, ft, fval⟩⟩, hst⟩ : ∃ st, found[k]? = some st := ⟨found[k], List.getElem?_eq_getElem hlt⟩
      obtain ⟨hs1, hs2⟩ := sF.out _ (List.mem_of_getElem? hst)
      unfold maxLen at hs1 hs2
      dsimp only at hs1 hs2
      obtain ⟨c0, c1, c2, c3, c4⟩ := hcells k _ hst
      have hbb := XB.out.trans (hgr_below hgr.out (by omega) XB.out.size)
      have d0 := (hbb.cell (p := ⟨g, o + k * 5, none⟩) (by show g < _; omega)).trans c0
      have d1 := (hbb.cell (p := ⟨g, o + k * 5 + 1, none⟩) (by show g < _; omega)).trans c1
      have d2 := (hbb.cell (p := ⟨g, o + k * 5 + 2, none⟩) (by show g < _; omega)).trans c2
      have d3 := (hbb.cell (p := ⟨g, o + k * 5 + 3, none⟩) (by show g < _; omega)).trans c3
      have d4 := (hbb.cell (p := ⟨g, o + k * 5 + 4, none⟩) (by show g < _; omega)).trans c4
      dsimp only at d0 d1 d2 d3 d4
      have v4 : wr.cell? ⟨w.heap.size + 1 + 1, 4, none⟩ = some V := (cell_of_row _ _ _ _ _ _ hbox.out).trans rfl
      have x4 := (cell_of_row _ _ 4 _ _ _ y0).trans rfl
      obtain ⟨key', hk'⟩ : ∃ s', fkey.extract 0 (min (fkey.size : Int) 80).toNat = s' := ⟨_, rfl⟩
      obtain ⟨val', hv'⟩ : ∃ s', fval.extract 0 (min (fval.size : Int) 600).toNat = s' := ⟨_, rfl⟩
      have HNX : Hid (rowF ((found.take (k + 1)).map Fd.cut) = (rowF ((found.take k).map Fd.cut)) ++ [.int .i64 fo, .bool fk, .string key', .bool ft, .string val']) := Lib.hid (by
        rw [List.take_add_one, hst, ← hk', ← hv']
        simp [rowF_app, rowF, Fd.cut, R.cut, cutS])
      have HO := Lib.hid hown
      have k0 : (0 : Int) ≤ (k : Int) := by omega
      have k1 : (k : Int) < (found.length : Int) := by omega
      have k2 : (k : Int) < 70 := by omega
      have m0 : 0 ≤ min (fkey.size : Int) 80 := by omega
      have m1 : min (fkey.size : Int) 80 ≤ (fkey.size : Int) := by omega
      have m2 : 0 ≤ min (fval.size : Int) 600 := by omega
      have m3 : min (fval.size : Int) 600 ≤ (fval.size : Int) := by omega
      have hn : k + 1 ≤ maxLen := by unfold maxLen; omega
      have hnb : (k + 1) * 56 ≤ 140737488355328 := by omega
      have hbase : ∀ a b, W1.heap.size ≤ ((wr.alloc a).alloc b).heap.size := fun a b => by have := hgr.out.size; simp; omega
      have HBS := Lib.hid hbase
      clear hst hcells hown c0 c1 c2 c3 c4 hbb hbase
      have y0' := Lib.hid y0
      clear y0
      go_wp2_with (first
        | (at_builtin; refine wpList_append_lies _ rfl _ _ 39 (by rfl) W1.heap.size 78 i0 _ 5 56 Try.underlying39 hi0 hiz hi1 hi2 rfl (by omega) V k (rowF ((found.take k).map Fd.cut)) (by rfl) ((HO.out.alloc _).alloc _) ⟨wr.heap.size + 1, 0, none⟩ 1 1 [.int .i64 fo, .bool fk, .string key', .bool ft, .string val'] (by rfl) (by rfl) (World.news_of_block (cs := #[.int .i64 fo, .bool fk, .string key', .bool ft, .string val']) (t := 78) (fr := (0, 0)) (heap_alloc2_new wr _ _)) (by simp [Value.oneCell']) (by omega) hn hnb (HBS.out _ _) (wr.heap.size + 1 + 1) (by simp) ?_; intro gg cc w2 hown2 hgrow hat hltg; have hx3 : w2.cell? ⟨w.heap.size + 1 + 1, 4, none⟩ = some V := (cell_of_row _ _ 4 _ _ _ (gr_row hgr.out XS.out HO.out (two_box _ _) hgrow hbox.out)).trans rfl; have hy3 : w2.frozen? ⟨w.heap.size + 1 + 1, 4, none⟩ = false := frozen_of_row _ _ 4 _ _ (gr_row hgr.out XS.out HO.out (two_box _ _) hgrow hbox.out)))
      go_roundw
      case rel => exact ⟨k + 1, _, by omega, by omega, by go_num, Lib.hid (gr_next _ hgr.out HO.out (two_box _ _) hgrow), Lib.hid (heap_setCell_same _ _ 4 _ _ _ (gr_row hgr.out XS.out HO.out (two_box _ _) hgrow hbox.out)), by rw [HNX.out]; exact ownsRow_setCell_below hown2 XS.out _⟩
      case measure => simp [intOf]; omega
    · have hln := cut70 hk hk70 hlt HL.out
      obtain ⟨hm1, hm2⟩ := hln
      subst hm2
      rw [hm1] at hown
      obtain ⟨FA', fc', rfl⟩ := own_form hown
      have HO1 := Lib.hid hown
      have y1 := (hgr.out.block (w.heap.size + 1) (by have := XS.out; omega) (by simp)).trans X1.out
      have Y0 := Lib.hid y0
      have Y1 := Lib.hid y1
      have YB := Lib.hid (XB.out.trans (hgr_below hgr.out (by omega) XB.out.size))
      have XS2 : Hid (w.heap.size + 1 + 1 < wr.heap.size) := Lib.hid hsz
      have hbx := hbox
      have HBS := Lib.hid (show W1.heap.size ≤ wr.heap.size from hgr.out.size)
      have x4 := (cell_of_row _ _ 4 _ _ _ y0).trans rfl
      have x5 := (cell_of_row _ _ 5 _ _ _ y0).trans rfl
      have hd : found.length ≤ L.length ∨ (L.length < found.length ∧ 70 ≤ L.length) := by omega
      clear y0 y1 hgr hbox hown X0 X1 X2 XB HL hk hk70 hlt hm1 hi0 hiz hi1 hi2
      rcases hd with hd | ⟨hd1, hd2⟩
      all_goals
        go_wp2_with fail
        clear x4 x5
        obtain ⟨i0, hi0, hiz, hi1, hi2⟩ := info_parts partInfo
        obtain ⟨W2, hW2⟩ : ∃ W2 : World, W2 = wr := ⟨_, rfl⟩
        subst hW2
        go_loopw [6] (fun i wr => ∃ (k : Nat) (V : Value), k ≤ parts.length ∧ k ≤ 70 ∧ i = .int .i64 k ∧ Hid (W2.grownBy wr (some (w.heap.size + 1 + 1))) ∧ Hid (wr.heap[w.heap.size + 1 + 1]? = some (.cells #[.int .i64 e, .int .i64 off, .int .i64 n, .int .i64 gen, .slice FA' L.length fc', V] 42 (0, 0))) ∧ wr.ownsRow W2.heap.size 23 2 V k (rowP ((parts.take k).map Pt.cut))) (fun i _ => parts.length - (intOf i).toNat)
        case atStart => exact ⟨0, .slice none 0 0, by omega, by omega, rfl, Lib.hid (World.grownBy.refl _ _), hbx, World.ownsRow_nil _ _ _ _⟩
        case round =>
          obtain ⟨k, V, hk, hk70, rfl, hgr, hbox, hown⟩ := hrel
          have hsz2 : w.heap.size + 1 + 1 < wr.heap.size := (Array.getElem?_eq_some_iff.1 hbox.out).1
          have y0 := (hgr.out.block w.heap.size (by have := XS2.out; omega) (by simp; omega)).trans Y0.out
          by_cases hlt : k < parts.length ∧ k < 70
          · obtain ⟨hlt, hlt70⟩ := hlt
            obtain ⟨g, o, rfl, hg, hcells⟩ := hP.out (by omega)
            obtain ⟨⟨pt, pn⟩, hst⟩ : ∃ st, parts[k]? = some st := ⟨parts[k], List.getElem?_eq_getElem hlt⟩
            have hs1 := sP.out _ (List.mem_of_getElem? hst)
            unfold maxLen at hs1
            dsimp only at hs1
            obtain ⟨c0, c1⟩ := hcells k _ hst
            have hbb := YB.out.trans (hgr_below hgr.out (by omega) YB.out.size)
            have d0 := (hbb.cell (p := ⟨g, o + k * 2, none⟩) (by show g < _; omega)).trans c0
            have d1 := (hbb.cell (p := ⟨g, o + k * 2 + 1, none⟩) (by show g < _; omega)).trans c1
            dsimp only at d0 d1
            have v5 : wr.cell? ⟨w.heap.size + 1 + 1, 5, none⟩ = some V := (cell_of_row _ _ _ _ _ _ hbox.out).trans rfl
            have x5 := (cell_of_row _ _ 5 _ _ _ y0).trans rfl
            obtain ⟨t', ht'⟩ : ∃ s', pt.extract 0 (min (pt.size : Int) 40).toNat = s' := ⟨_, rfl⟩
            have HNX : Hid (rowP ((parts.take (k + 1)).map Pt.cut) = (rowP ((parts.take k).map Pt.cut)) ++ [.string t', .int .i64 pn]) := Lib.hid (by
              rw [List.take_add_one, hst, ← ht']
              simp [rowP_app, rowP, Pt.cut, cutS])
            have HO := Lib.hid hown
            have k0 : (0 : Int) ≤ (k : Int) := by omega
            have k1 : (k : Int) < (parts.length : Int) := by omega
            have k2 : (k : Int) < 70 := by omega
            have m0 : 0 ≤ min (pt.size : Int) 40 := by omega
            have m1 : min (pt.size : Int) 40 ≤ (pt.size : Int) := by omega
            have hn : k + 1 ≤ maxLen := by unfold maxLen; omega
            have hnb : (k + 1) * 24 ≤ 140737488355328 := by omega
            have hbase : ∀ a b, W2.heap.size ≤ ((wr.alloc a).alloc b).heap.size := fun a b => by have := hgr.out.size; simp; omega
            have HBS2 := Lib.hid hbase
            clear hst hcells hown c0 c1 hbb hbase
            have y0' := Lib.hid y0
            clear y0
            go_wp2_with (first
              | (at_builtin; refine wpList_append_lies _ rfl _ _ 40 (by rfl) W2.heap.size 23 i0 _ 2 24 Try.underlying40 hi0 hiz hi1 hi2 rfl (by omega) V k (rowP ((parts.take k).map Pt.cut)) (by rfl) ((HO.out.alloc _).alloc _) ⟨wr.heap.size + 1, 0, none⟩ 1 1 [.string t', .int .i64 pn] (by rfl) (by rfl) (World.news_of_block (cs := #[.string t', .int .i64 pn]) (t := 23) (fr := (0, 0)) (heap_alloc2_new wr _ _)) (by simp [Value.oneCell']) (by omega) hn hnb (HBS2.out _ _) (wr.heap.size + 1 + 1) (by simp) ?_; intro gg cc w2 hown2 hgrow hat hltg; have hx3 : w2.cell? ⟨w.heap.size + 1 + 1, 5, none⟩ = some V := (cell_of_row _ _ 5 _ _ _ (gr_row hgr.out XS2.out HO.out (two_box _ _) hgrow hbox.out)).trans rfl; have hy3 : w2.frozen? ⟨w.heap.size + 1 + 1, 5, none⟩ = false := frozen_of_row _ _ 5 _ _ (gr_row hgr.out XS2.out HO.out (two_box _ _) hgrow hbox.out)))
            go_roundw
            case rel => exact ⟨k + 1, _, by omega, by omega, by go_num, Lib.hid (gr_next _ hgr.out HO.out (two_box _ _) hgrow), Lib.hid (heap_setCell_same _ _ 5 _ _ _ (gr_row hgr.out XS2.out HO.out (two_box _ _) hgrow hbox.out)), by rw [HNX.out]; exact ownsRow_setCell_below hown2 XS2.out _⟩
            case measure => simp [intOf]; omega
          · have hln := cut70 hk hk70 hlt HM.out
            obtain ⟨hm1, hm2⟩ := hln
            subst hm2
            rw [hm1] at hown
            obtain ⟨PA', pc', rfl⟩ := own_form hown
            have HO := Lib.hid hown
            have y1 := (hgr.out.block (w.heap.size + 1) (by have := XS2.out; omega) (by simp)).trans Y1.out
            have x5 := (cell_of_row _ _ 5 _ _ _ y0).trans rfl
            have p := hbox.out
            have z0 := (cell_of_row _ _ 0 _ _ _ p).trans rfl
            have z1 := (cell_of_row _ _ 1 _ _ _ p).trans rfl
            have z2 := (cell_of_row _ _ 2 _ _ _ p).trans rfl
            have z3 := (cell_of_row _ _ 3 _ _ _ p).trans rfl
            have z4 := (cell_of_row _ _ 4 _ _ _ p).trans rfl
            have z5 := (cell_of_row _ _ 5 _ _ _ p).trans rfl
            have q0 := frozen_of_row _ _ 0 _ _ y1
            have q1 := frozen_of_row _ _ 1 _ _ y1
            have q2 := frozen_of_row _ _ 2 _ _ y1
            have q3 := frozen_of_row _ _ 3 _ _ y1
            have q4 := frozen_of_row _ _ 4 _ _ y1
            have q5 := frozen_of_row _ _ 5 _ _ y1
            have c0 := (cell_of_row _ _ 0 _ _ _ y1).trans rfl
            have c1 := (cell_of_row _ _ 1 _ _ _ y1).trans rfl
            have c2 := (cell_of_row _ _ 2 _ _ _ y1).trans rfl
            have c3 := (cell_of_row _ _ 3 _ _ _ y1).trans rfl
            have c4 := (cell_of_row _ _ 4 _ _ _ y1).trans rfl
            have c5 := (cell_of_row _ _ 5 _ _ _ y1).trans rfl
            have RZ := Lib.hid y1
            have HG := Lib.hid (hgr_below hgr.out (by omega : w.heap.size ≤ w.heap.size + 1 + 1) YB.out.size)
            have HGR := Lib.hid hgr.out
            have hd : parts.length ≤ M.length ∨ (M.length < parts.length ∧ 70 ≤ M.length) := by omega
            clear y0 y1 p hown hlt hk hk70
            rcases hd with hd | ⟨hd3, hd4⟩
            all_goals
              go_wp2_with fail
              refine bodyPost_ret (v := .agg #[.int .i64 e, .int .i64 off, .int .i64 n, .int .i64 gen, .slice FA' L.length fc', .slice PA' M.length pc']) (results_cell_row (p := 2) (ty := 42) Try.results20 _ _ (w.heap.size + 1) 42 #[.int .i64 e, .int .i64 off, .int .i64 n, .int .i64 gen, .slice FA' L.length fc', .slice PA' M.length pc'] (0, 0) _ rfl (set6 RZ.out) Try.underlying42 rfl (by kernel_rfl)) rfl ?_
              refine ⟨FA', fc', PA', pc', rfl, ?_, ?_, set6_below (YB.out.trans HG.out) (Nat.le_succ _) _ _ _ _ _ _⟩
              · refine own_mono (set6_own (HO1.out.kept HGR.out (.inr fun h => by have := (HO1.out.lt _ h).1; have := XS.out; omega)) (by have := XS.out; omega : w.heap.size + 1 < W1.heap.size) _ _ _ _ _ _) (by have := XS.out; omega)
              · refine own_mono (set6_own HO.out (by have := XS2.out; omega : w.heap.size + 1 < W2.heap.size) _ _ _ _ _ _) (by have := XS2.out; omega)
end Go.Proofs.Ytlhkhccpeohefaa.L4
