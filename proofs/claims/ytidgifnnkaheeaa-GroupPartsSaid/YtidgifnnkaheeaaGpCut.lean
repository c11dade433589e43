/-
  Contract: a seat as a statement can hold.
-/
import Derived.Test.YtidgifnnkaheeaaGpOpen
import Derived.Test.YtidgifnnkaheeaaGpSeat
import Derived.Deep.RegionHeld
import Derived.Deep.RegionLaw
import Derived.Deep.AppendLies
import Derived.Deep.RegionHeld3
import Derived.Laws.Rows
namespace Go.Proofs.Ytidgifnnkaheeaa.L11
open Go.RowKit
open Go.Maps
open L3 L4 L9 L10

def cutS (s : ByteArray) : ByteArray := s.extract 0 (min (s.size : Int) 40).toNat
theorem cutS_size (s : ByteArray) : (cutS s).size ≤ 40 := by unfold cutS; rw [ByteArray.size_extract]; omega
def cutSe (s : Se) : Se := ⟨⟨cutS s.m.name, (s.m.ts.take 10).map cutS⟩, s.tm, s.sn⟩
theorem cutSe_sz (s : Se) : (cutSe s).m.name.size ≤ 281474976710656 ∧ ∀ x ∈ (cutSe s).m.ts, x.size ≤ 281474976710656 := ⟨by have := cutS_size s.m.name; show (cutS s.m.name).size ≤ _; omega, fun x hx => by
  obtain ⟨y, _, rfl⟩ := List.mem_map.1 hx
  have := cutS_size y; omega⟩
theorem cutSe_len (s : Se) : (cutSe s).m.ts.length ≤ 10 := by unfold cutSe; simp; omega
theorem cut10 {α β : Type} {l : List α} {M : List β} {f : α → β} {k n : Nat} (hn : l.length = n) (hk : k ≤ n) (hk70 : k ≤ 10) (h : ¬ (k < n ∧ k < 10)) (hM : (l.take 10).map f = M) : (l.take k).map f = M ∧ M.length = k := by
  subst hn
  rw [← hM]
  rcases Nat.lt_or_ge k 10 with hlt | hge
  · obtain rfl : k = l.length := by omega
    rw [List.take_length, List.take_of_length_le (by omega)]
    exact ⟨rfl, by simp⟩
  · obtain rfl : k = 10 := by omega
    exact ⟨rfl, by rw [List.length_map, List.length_take]; omega⟩
theorem take_map {α β : Type} {l : List α} {f : α → β} {k : Nat} {x : α} (h : l[k]? = some x) : (l.take (k + 1)).map f = (l.take k).map f ++ [f x] := by rw [List.take_add_one, h]; simp
theorem two_box (w : World) (a b : Obj) : ((w.alloc a).alloc b).heap[w.heap.size]? = some a ∧ ((w.alloc a).alloc b).heap[w.heap.size + 1]? = some b ∧ Below w.heap.size w ((w.alloc a).alloc b) := by
  have h1 := heap_alloc_new w a
  have h2 := heap_alloc_new (w.alloc a) b
  have s1 : (w.alloc a).heap.size = w.heap.size + 1 := by simp
  rw [s1] at h2
  exact ⟨(Below.heap_alloc _ _ _ (by rw [s1]; omega)).trans h1, h2, (one_box' a).alloc (by rw [s1]; omega) b⟩
theorem only_grown {W w2 : World} {b n c : Nat} {A : Option Addr} {o : Obj} (h : (W.drew.alloc o).grownBy w2 (Value.slice A n c).ownBlock) : Only (b :: bk A) W w2 :=
  (((Only.refl _ W).drew).alloc o).grown h (fun k e => .inl (List.mem_cons_of_mem _ (mem_bk.2 (by rw [blk_own] at e; exact e))))
theorem set4 {w : World} {g : Nat} {T : TypeId} {a b c d a' b' c' d' : Value} (h : w.heap[g]? = some (.cells #[a, b, c, d] T (0, 0))) : ((((w.setCell ⟨g, 0, none⟩ a').setCell ⟨g, 1, none⟩ b').setCell ⟨g, 2, none⟩ c').setCell ⟨g, 3, none⟩ d').heap[g]? = some (.cells #[a', b', c', d'] T (0, 0)) := by
  have h0 := heap_setCell_same w g 0 _ _ a' h
  have h1 := heap_setCell_same _ g 1 _ _ b' h0
  have h2 := heap_setCell_same _ g 2 _ _ c' h1
  exact heap_setCell_same _ g 3 _ _ d' h2
theorem row_set {w : World} {A : Option Addr} {c b i : Nat} {l : List ByteArray} {u : Value} (h : RowT w A c l) (hn : ∀ (cs : Array Value) (fr : Nat × Nat), w.heap[b]? ≠ some (.cells cs 9 fr)) : RowT (w.setCell ⟨b, i, none⟩ u) A c l := h.kept (KpS.setRow hn)
theorem cut_end {w wr : World} {b c : Nat} {A : Option Addr} {a0 a1 a2 a3 a' b' c' d' : Value} {l : List ByteArray} (hB : Below w.heap.size w wr) (hY : wr.heap[b]? = some (.cells #[a0, a1, a2, a3] 47 (0, 0))) (hb : w.heap.size ≤ b) (hR : RowT wr A c l) :
    RowT ((((wr.setCell ⟨b, 0, none⟩ a').setCell ⟨b, 1, none⟩ b').setCell ⟨b, 2, none⟩ c').setCell ⟨b, 3, none⟩ d') A c l ∧ Below w.heap.size w ((((wr.setCell ⟨b, 0, none⟩ a').setCell ⟨b, 1, none⟩ b').setCell ⟨b, 2, none⟩ c').setCell ⟨b, 3, none⟩ d') := by
  have no : ∀ (w : World) (xs : Array Value), w.heap[b]? = some (.cells xs 47 (0, 0)) → ∀ (cs : Array Value) (fr : Nat × Nat), w.heap[b]? ≠ some (.cells cs 9 fr) := fun w xs h cs fr e => by
    rw [h] at e; injection e with e; injection e with _ e; exact absurd e (by decide)
  have h0 := heap_setCell_same wr b 0 _ _ a' hY
  have h1 := heap_setCell_same _ b 1 _ _ b' h0
  have h2 := heap_setCell_same _ b 2 _ _ c' h1
  exact ⟨row_set (row_set (row_set (row_set hR (no _ _ hY)) (no _ _ h0)) (no _ _ h1)) (no _ _ h2), (((hB.setCell hb _).setCell hb _).setCell hb _).setCell hb _⟩
def CutP (w : World) (s : Se) (k : Nat) (e : Ending) (w' : World) : Prop :=
  ∃ A c, e = .returned (.agg #[.string (cutSe s).m.name, .slice A k c, .int .i64 s.tm, .int .i64 s.sn]) ∧ RowT w' A c (cutSe s).m.ts ∧ Below w.heap.size w w'
set_option maxRecDepth 100000 in
set_option maxHeartbeats 8000000 in
theorem cut_is (w : World) (s : Se) (At : Option Addr) (tn ct k : Nat) (a : ByteArray) (tm sn : Int) (HS : Hid (s.m.name = a ∧ s.m.ts.length = tn ∧ s.tm = tm ∧ s.sn = sn)) (HRO : Hid (RowsO strC 1 w At s.m.ts)) (hz : Hid (s.m.name.size ≤ maxLen ∧ ∀ x ∈ s.m.ts, x.size ≤ maxLen)) (hl : tn ≤ maxLen) (HK : Hid ((cutSe s).m.ts.length = k)) :
    Calls Try.prog 22 #[.agg #[.string a, .slice At tn ct, .int .i64 tm, .int .i64 sn]] w (CutP w s k) := by
  obtain ⟨h1, h2, h3, h4⟩ := HS.out
  have hl : tn ≤ 9223372036854775807 := by unfold maxLen at hl; omega
  have hsz : a.size ≤ 9223372036854775807 := by have := hz.out.1; rw [h1] at this; unfold maxLen at this; exact this
  have HTN := Lib.hid h2
  have HTM : Hid (s.tm = tm ∧ s.sn = sn) := Lib.hid ⟨h3, h4⟩
  have HTS : Hid (∀ x ∈ s.m.ts, x.size ≤ maxLen) := Lib.hid hz.out.2
  obtain ⟨t1, t2, t3⟩ := two_box w (.cells #[.string a, .slice At tn ct, .int .i64 tm, .int .i64 sn] 47) (.cells #[.string ⟨#[]⟩, .slice none 0 0, .int .i64 0, .int .i64 0] 47)
  obtain ⟨W1, hW1⟩ : ∃ W1, (w.alloc (.cells #[.string a, .slice At tn ct, .int .i64 tm, .int .i64 sn] 47)).alloc (.cells #[.string ⟨#[]⟩, .slice none 0 0, .int .i64 0, .int .i64 0] 47) = W1 := ⟨_, rfl⟩
  obtain ⟨b1, hb1⟩ : ∃ b, w.heap.size = b := ⟨_, rfl⟩
  rw [hW1] at t1 t2 t3
  rw [hb1] at t1 t2
  have x0 := (cell_of_row _ _ 0 _ _ _ t1).trans rfl
  have x1 := (cell_of_row _ _ 1 _ _ _ t1).trans rfl
  have x2 := (cell_of_row _ _ 2 _ _ _ t1).trans rfl
  have x3 := (cell_of_row _ _ 3 _ _ _ t1).trans rfl
  have hz1 : b1 < W1.heap.size := (Array.getElem?_eq_some_iff.1 t1).1
  obtain ⟨nm, hnm⟩ : ∃ nm, a.extract 0 (min (a.size : Int) 40).toNat = nm := ⟨_, rfl⟩
  have m0 : 0 ≤ min (a.size : Int) 40 := by omega
  have m1 : min (a.size : Int) 40 ≤ (a.size : Int) := by omega
  have T1 := Lib.hid t1
  have T2 := Lib.hid t2
  have HB1 := Lib.hid t3
  have HH1 := Lib.hid hb1
  have HW1 := Lib.hid hW1
  have HNM : Hid ((cutSe s).m.name = nm) := Lib.hid (by unfold cutSe cutS; rw [h1]; exact hnm)
  clear t1 t2 t3 hb1 hW1 h1 h2 h3 h4 HS hz
  go_enter Try.func22, Try.ntmps22
  go_wp2_with (rw [HW1.out, HH1.out])
  go_region
  have hr3 := heap_alloc_new W1 (.cells #[.string nm, .slice none 0 0, .int .i64 tm, .int .i64 sn] 47)
  have hB3 : Below W1.heap.size W1 (W1.alloc (.cells #[.string nm, .slice none 0 0, .int .i64 tm, .int .i64 sn] 47)).drew := (one_box' _).drew
  obtain ⟨W3, hW3⟩ : ∃ W3, (W1.alloc (.cells #[.string nm, .slice none 0 0, .int .i64 tm, .int .i64 sn] 47)).drew = W3 := ⟨_, rfl⟩
  have hr3' : W3.heap[W1.heap.size]? = some (.cells #[.string nm, .slice none 0 0, .int .i64 tm, .int .i64 sn] 47 (0, 0)) := by rw [← hW3]; exact hr3
  obtain ⟨b3, hb3⟩ : ∃ b, W1.heap.size = b := ⟨_, rfl⟩
  rw [hW3] at hB3 ⊢
  rw [hb3] at hr3' hz1 ⊢
  have HB3 := Lib.hid hB3
  have HR3 := Lib.hid hr3'
  have HH3 := Lib.hid hb3
  have HZ1 := Lib.hid hz1
  have HL3 : Hid (b3 < W3.heap.size) := Lib.hid (Array.getElem?_eq_some_iff.1 hr3').1
  have HBB3 : Hid (Below w.heap.size w W3) := Lib.hid (HB1.out.trans (hB3.mono HB1.out.size))
  have X1 : Hid (W3.cell? ⟨b1, 1, none⟩ = some (.slice At tn ct)) := Lib.hid ((hB3.cell (p := ⟨b1, 1, none⟩) (by show b1 < _; omega)).trans x1)
  have X2 : Hid (W3.heap[b1 + 1]? = some (.cells #[.string ⟨#[]⟩, .slice none 0 0, .int .i64 0, .int .i64 0] 47 (0, 0))) := Lib.hid ((hB3.block _ (Array.getElem?_eq_some_iff.1 T2.out).1).trans T2.out)
  have X3 : Hid (b1 + 1 < b3) := Lib.hid (by have := (Array.getElem?_eq_some_iff.1 T2.out).1; omega)
  obtain ⟨ts, hts⟩ : ∃ ts, s.m.ts = ts := ⟨_, rfl⟩
  have HCT : Hid ((cutSe s).m.ts = (ts.take 10).map cutS) := Lib.hid (by rw [← hts]; rfl)
  rw [hts] at HRO HTN HTS
  clear x0 x1 x2 x3 m0 m1 hr3 hr3' hB3 hW3 hb3 hz1 hsz hnm hts
  go_wp2_with fail
  obtain ⟨i1, hi1, hy0, hy1, hy2⟩ := info_parts strInfo
  go_loopw [4] (fun i wr => ∃ (q : Nat) (V3 : Value), q ≤ tn ∧ q ≤ 10 ∧ i = .int .i64 q ∧ Hid (Only [b3] W3 wr) ∧ Hid (wr.heap[b3]? = some (.cells #[.string nm, V3, .int .i64 tm, .int .i64 sn] 47 (0, 0))) ∧ Hid (wr.ownsRow W3.heap.size 9 1 V3 q (((ts.take q).map cutS).map (fun x => Value.string x)))) (fun i _ => tn - (intOf i).toNat)
  case atStart => exact ⟨0, .slice none 0 0, by omega, by omega, rfl, Lib.hid (Only.refl _ _), HR3, Lib.hid (World.ownsRow_nil _ _ _ _)⟩
  case round =>
    obtain ⟨q, V3, hq, hq10, rfl, HOQ, HBQ, HOS⟩ := hrel
    have hno : ∀ b, b < b3 → b ∉ [b3] := fun b h1 h2 => by
      have : b = b3 := by simpa using h2
      omega
    have x5 := HOQ.out.cell X1.out (hno _ (by have := X3.out; show b1 < b3; omega))
    have hq6 := (Array.getElem?_eq_some_iff.1 HBQ.out).1
    by_cases hqt : q < tn ∧ q < 10
    · obtain ⟨hqt, hqt10⟩ := hqt
      obtain ⟨gt, ot, rfl, hgt, hct⟩ := HRO.out (by rw [HTN.out]; omega)
      obtain ⟨s1, hs⟩ : ∃ s, ts[q]? = some s := ⟨_, List.getElem?_eq_getElem (by rw [HTN.out]; exact hqt)⟩
      have hss : s1.size ≤ 9223372036854775807 := by have := HTS.out s1 (List.mem_of_getElem? hs); unfold maxLen at this; omega
      have hb1w : b1 = w.heap.size := HH1.out.symm
      have e0 := HOQ.out.cell ((HBB3.out.cell (p := ⟨gt, ot + q, none⟩) hgt).trans (by have := hct q s1 hs 0 _ rfl; rwa [Nat.mul_one, Nat.add_zero] at this)) (hno _ (by have := X3.out; show gt < b3; omega))
      have HGT : Hid (gt < b3) := Lib.hid (by have := X3.out; omega)
      have v6 := (cell_of_row _ _ 1 _ _ _ HBQ.out).trans rfl
      obtain ⟨s', hs'⟩ : ∃ s', s1.extract 0 (min (s1.size : Int) 40).toNat = s' := ⟨_, rfl⟩
      have HNQ : Hid (((ts.take (q + 1)).map cutS).map (fun x => Value.string x) = ((ts.take q).map cutS).map (fun x => Value.string x) ++ [.string s']) := Lib.hid (by
        rw [take_map hs, ← hs']; simp [cutS])
      obtain ⟨A3, c3, rfl⟩ := own_len HOS.out
      have HO := HOS
      have hT : ∀ w', Only (b3 :: bk A3) wr w' → (w'.cell? ⟨b1, 1, none⟩ = some (.slice (some ⟨gt, ot, none⟩) tn ct) ∧ w'.cell? ⟨gt, ot + q, none⟩ = some (.string s1)) ∧ Only (b3 :: bk A3) wr w' := fun w' r => by
        have hno2 : ∀ b, b < b3 → b ∉ b3 :: bk A3 := fun b hb e => by
          rcases List.mem_cons.1 e with e | e
          · omega
          · obtain ⟨_, z, _⟩ := own_bk HO.out b e
            have := HL3.out; omega
        exact ⟨⟨r.cell x5 (hno2 _ (by have := X3.out; show b1 < b3; omega)), r.cell e0 (hno2 _ HGT.out)⟩, r⟩
      have HT := Lib.hid hT
      have HGR : Hid (∀ (o' : Obj) (w2 : World), (wr.drew.alloc o').grownBy w2 (Value.slice A3 q c3).ownBlock → w2.heap[b3]? = some (.cells #[.string nm, .slice A3 q c3, .int .i64 tm, .int .i64 sn] 47 (0, 0))) := Lib.hid (fun o' w2 hgrow =>
        (hgrow.block _ (by simp; omega) (fun e => by obtain ⟨_, z, _⟩ := own_bk HO.out _ (mem_bk.2 (by rw [blk_own] at e; exact e.symm)); have := HL3.out; omega)).trans ((Below.heap_alloc _ _ _ hq6).trans HBQ.out))
      have HBL : Hid (W3.heap.size ≤ wr.heap.size) := Lib.hid HOQ.out.size
      have j0 : (0 : Int) ≤ (q : Int) := by omega
      have j1 : (q : Int) < (tn : Int) := by omega
      have j2 : (q : Int) < 10 := by omega
      have m0 : 0 ≤ min (s1.size : Int) 40 := by omega
      have m1 : min (s1.size : Int) 40 ≤ (s1.size : Int) := by omega
      clear hs hct hT hb1w hgt
      go_wp2_with fail
      refine wp_region_held_drew (S := fun w' => (w'.cell? ⟨b1, 1, none⟩ = some (.slice (some ⟨gt, ot, none⟩) tn ct) ∧ w'.cell? ⟨gt, ot + q, none⟩ = some (.string s1)) ∧ Only (b3 :: bk A3) wr w') (by kernel_rfl) (HT.out _ (Only.refl _ _).drew) (fun hHeld => ?_)
      refine wpAnyH_take (i := 0) (oi := ?o34) (v := ?v34) ?a34 (by kernel_rfl) (by kernel_rfl) (by kernel_rfl) ?q34 (Or.inl ⟨?g34, ?y34⟩) (by assumption) ?r34; (case' a34 => (simp only [List.getElem?_toArray, List.getElem?_cons_zero]; rfl)); (case' q34 => (exact fun _ _ _ h => h)); (case' g34 => rfl); (case' y34 => (intro w hSw; (try dsimp only at hSw); go_simp; try with_reducible rfl)); (case' r34 => (try simp only [Act.put, List.setIfInBounds_toArray, List.set_cons_zero, List.set_cons_succ]))
      refine wpAnyH_take (i := 1) (oi := ?o35) (v := ?v35) ?a35 (by kernel_rfl) (by kernel_rfl) (by kernel_rfl) ?q35 (Or.inl ⟨?g35, ?y35⟩) (by assumption) ?r35; (case' a35 => (simp only [List.getElem?_toArray, List.getElem?_cons_zero, List.getElem?_cons_succ]; rfl)); (case' q35 => (exact fun _ _ _ h => h)); (case' g35 => rfl); (case' y35 => (intro w hSw; (try dsimp only at hSw); go_simp; try with_reducible rfl)); (case' r35 => (try simp only [Act.put, List.setIfInBounds_toArray, List.set_cons_zero, List.set_cons_succ]))
      refine wpAnyH_take (i := 3) (oi := ?o36) (v := ?v36) ?a36 (by kernel_rfl) (by kernel_rfl) (by kernel_rfl) ?q36 (Or.inl ⟨?g36, ?y36⟩) (by assumption) ?r36; (case' a36 => (simp only [List.getElem?_toArray, List.getElem?_cons_zero, List.getElem?_cons_succ]; rfl)); (case' q36 => (exact fun _ _ _ h => h)); (case' g36 => rfl); (case' y36 => (intro w hSw; (try dsimp only at hSw); go_simp; try with_reducible rfl)); (case' r36 => (try simp only [Act.put, List.setIfInBounds_toArray, List.set_cons_zero, List.set_cons_succ]))
      refine wpAnyH_take (i := 4) (oi := ?o37) (v := ?v37) ?a37 (by kernel_rfl) (by kernel_rfl) (by kernel_rfl) ?q37 (Or.inl ⟨?g37, ?y37⟩) (by assumption) ?r37; (case' a37 => (simp only [List.getElem?_toArray, List.getElem?_cons_zero, List.getElem?_cons_succ]; rfl)); (case' q37 => (exact fun _ _ _ h => h)); (case' g37 => rfl); (case' y37 => (intro w hSw; (try dsimp only at hSw); go_simp; try with_reducible rfl)); (case' r37 => (try simp only [Act.put, List.setIfInBounds_toArray, List.set_cons_zero, List.set_cons_succ]))
      refine wpAnyH_take (i := 5) (oi := ?o38) (v := ?v38) ?a38 (by kernel_rfl) (by kernel_rfl) (by kernel_rfl) ?q38 (Or.inl ⟨?g38, ?y38⟩) (by assumption) ?r38; (case' a38 => (simp only [List.getElem?_toArray, List.getElem?_cons_zero, List.getElem?_cons_succ]; rfl)); (case' q38 => (exact fun _ _ _ h => h)); (case' g38 => rfl); (case' y38 => (intro w hSw; (try dsimp only at hSw); go_simp; try with_reducible rfl)); (case' r38 => (try simp only [Act.put, List.setIfInBounds_toArray, List.set_cons_zero, List.set_cons_succ]))
      refine wpAnyH_take (i := 6) (oi := ?o39) (v := ?v39) ?a39 (by kernel_rfl) (by kernel_rfl) (by kernel_rfl) ?q39 (Or.inl ⟨?g39, ?y39⟩) (by assumption) ?r39; (case' a39 => (simp only [List.getElem?_toArray, List.getElem?_cons_zero, List.getElem?_cons_succ]; rfl)); (case' q39 => (exact fun _ _ _ h => h)); (case' g39 => rfl); (case' y39 => (intro w hSw; (try dsimp only at hSw); go_simp; try with_reducible rfl)); (case' r39 => (try simp only [Act.put, List.setIfInBounds_toArray, List.set_cons_zero, List.set_cons_succ]))
      refine wpAnyH_take (i := 7) (oi := ?o40) (v := ?v40) ?a40 (by kernel_rfl) (by kernel_rfl) (by kernel_rfl) ?q40 (Or.inl ⟨?g40, ?y40⟩) (by assumption) ?r40; (case' a40 => (simp only [List.getElem?_toArray, List.getElem?_cons_zero, List.getElem?_cons_succ]; rfl)); (case' q40 => (exact fun _ _ _ h => h)); (case' g40 => rfl); (case' y40 => (intro w hSw; (try dsimp only at hSw); go_simp; try with_reducible rfl)); (case' r40 => (try simp only [Act.put, List.setIfInBounds_toArray, List.set_cons_zero, List.set_cons_succ]))
      refine wpAnyH_take (i := 8) (oi := ?o41) (v := ?v41) ?a41 (by kernel_rfl) (by kernel_rfl) (by kernel_rfl) ?q41 (Or.inl ⟨?g41, ?y41⟩) (by assumption) ?r41; (case' a41 => (simp only [List.getElem?_toArray, List.getElem?_cons_zero, List.getElem?_cons_succ]; rfl)); (case' q41 => (exact fun _ _ _ h => h)); (case' g41 => rfl); (case' y41 => (intro w hSw; (try dsimp only at hSw); go_simp; try with_reducible rfl)); (case' r41 => (try simp only [Act.put, List.setIfInBounds_toArray, List.set_cons_zero, List.set_cons_succ]))
      refine wpAnyH_take (i := 9) (oi := ?o42) (v := ?v42) ?a42 (by kernel_rfl) (by kernel_rfl) (by kernel_rfl) ?q42 (Or.inl ⟨?g42, ?y42⟩) (by assumption) ?r42; (case' a42 => (simp only [List.getElem?_toArray, List.getElem?_cons_zero, List.getElem?_cons_succ]; rfl)); (case' q42 => (exact fun _ _ _ h => h)); (case' g42 => rfl); (case' y42 => (intro w hSw; (try dsimp only at hSw); go_simp; try with_reducible rfl)); (case' r42 => (try simp only [Act.put, List.setIfInBounds_toArray, List.set_cons_zero, List.set_cons_succ]))
      refine wpAnyH_take (i := 10) (oi := ?o43) (v := ?v43) ?a43 (by kernel_rfl) (by kernel_rfl) (by kernel_rfl) ?q43 (Or.inl ⟨?g43, ?y43⟩) (by assumption) ?r43; (case' a43 => (simp only [List.getElem?_toArray, List.getElem?_cons_zero, List.getElem?_cons_succ]; rfl)); (case' q43 => (exact fun _ _ _ h => h)); (case' g43 => rfl); (case' y43 => (intro w hSw; (try dsimp only at hSw); go_simp; try with_reducible rfl)); (case' r43 => (try simp only [Act.put, List.setIfInBounds_toArray, List.set_cons_zero, List.set_cons_succ]))
      refine wpAnyH_take (i := 11) (oi := ?o44) (v := ?v44) ?a44 (by kernel_rfl) (by kernel_rfl) (by kernel_rfl) ?q44 (Or.inl ⟨?g44, ?y44⟩) (by assumption) ?r44; (case' a44 => (simp only [List.getElem?_toArray, List.getElem?_cons_zero, List.getElem?_cons_succ]; rfl)); (case' q44 => (exact fun _ _ _ h => h)); (case' g44 => rfl); (case' y44 => (intro w hSw; (try dsimp only at hSw); go_simp; try with_reducible rfl)); (case' r44 => (try simp only [Act.put, List.setIfInBounds_toArray, List.set_cons_zero, List.set_cons_succ]))
      refine wpAnyH_take (i := 12) (oi := ?o45) (v := ?v45) ?a45 (by kernel_rfl) (by kernel_rfl) (by kernel_rfl) ?q45 (Or.inl ⟨?g45, ?y45⟩) (by assumption) ?r45; (case' a45 => (simp only [List.getElem?_toArray, List.getElem?_cons_zero, List.getElem?_cons_succ]; rfl)); (case' q45 => (exact fun _ _ _ h => h)); (case' g45 => rfl); (case' y45 => (intro w hSw; (try dsimp only at hSw); go_simp; try with_reducible rfl)); (case' r45 => (try simp only [Act.put, List.setIfInBounds_toArray, List.set_cons_zero, List.set_cons_succ]))
      refine wpAnyH_take (i := 13) (oi := ?o46) (v := ?v46) ?a46 (by kernel_rfl) (by kernel_rfl) (by kernel_rfl) ?q46 (Or.inl ⟨?g46, ?y46⟩) (by assumption) ?r46; (case' a46 => (simp only [List.getElem?_toArray, List.getElem?_cons_zero, List.getElem?_cons_succ]; rfl)); (case' q46 => (exact fun _ _ _ h => h)); (case' g46 => rfl); (case' y46 => (intro w hSw; (try dsimp only at hSw); go_simp; try with_reducible rfl)); (case' r46 => (try simp only [Act.put, List.setIfInBounds_toArray, List.set_cons_zero, List.set_cons_succ]))
      refine wpAnyH_take (i := 14) (oi := ?o47) (v := ?v47) ?a47 (by kernel_rfl) (by kernel_rfl) (by kernel_rfl) ?q47 (Or.inl ⟨?g47, ?y47⟩) (by assumption) ?r47; (case' a47 => (simp only [List.getElem?_toArray, List.getElem?_cons_zero, List.getElem?_cons_succ]; rfl)); (case' q47 => (exact fun _ _ _ h => h)); (case' g47 => rfl); (case' y47 => (intro w hSw; (try dsimp only at hSw); go_simp; try with_reducible rfl)); (case' r47 => (try simp only [Act.put, List.setIfInBounds_toArray, List.set_cons_zero, List.set_cons_succ]))
      refine wpAnyH_take (i := 15) (oi := ?o48) (v := ?v48) ?a48 (by kernel_rfl) (by kernel_rfl) (by kernel_rfl) ?q48 (Or.inl ⟨?g48, ?y48⟩) (by assumption) ?r48; (case' a48 => (simp only [List.getElem?_toArray, List.getElem?_cons_zero, List.getElem?_cons_succ]; rfl)); (case' q48 => (exact fun _ _ _ h => h)); (case' g48 => rfl); (case' y48 => (intro w hSw; (try dsimp only at hSw); go_simp; try with_reducible rfl)); (case' r48 => (try simp only [Act.put, List.setIfInBounds_toArray, List.set_cons_zero, List.set_cons_succ]))
      refine wpAnyH_take (i := 16) (oi := ?o49) (v := ?v49) ?a49 (by kernel_rfl) (by kernel_rfl) (by kernel_rfl) ?q49 (Or.inl ⟨?g49, ?y49⟩) (by assumption) ?r49; (case' a49 => (simp only [List.getElem?_toArray, List.getElem?_cons_zero, List.getElem?_cons_succ]; rfl)); (case' q49 => (exact fun _ _ _ h => h)); (case' g49 => rfl); (case' y49 => (intro w hSw; (try dsimp only at hSw); go_simp; try with_reducible rfl)); (case' r49 => (try simp only [Act.put, List.setIfInBounds_toArray, List.set_cons_zero, List.set_cons_succ]))
      refine wpAnyH_take (i := 17) (oi := ?o50) (v := ?v50) ?a50 (by kernel_rfl) (by kernel_rfl) (by kernel_rfl) ?q50 (Or.inl ⟨?g50, ?y50⟩) (by assumption) ?r50; (case' a50 => (simp only [List.getElem?_toArray, List.getElem?_cons_zero, List.getElem?_cons_succ]; rfl)); (case' q50 => (exact fun _ _ _ h => h)); (case' g50 => rfl); (case' y50 => (intro w hSw; (try dsimp only at hSw); go_simp; try with_reducible rfl)); (case' r50 => (try simp only [Act.put, List.setIfInBounds_toArray, List.set_cons_zero, List.set_cons_succ]))
      refine wpAnyH_ready (rs := [2, 18]) (by kernel_rfl) (by simp) ?_
      refine AllReadyH.cons (o := ?o51) ?a51 (fun K hK => ?s51) ?m51; (case' a51 => (simp only [List.getElem?_toArray, List.getElem?_cons_zero, List.getElem?_cons_succ]; rfl))
      case s51 =>
        go_simp
        refine hK.out _ _ (hHeld) (fun hHeld => ?_)
        clear hK K
        (try simp only [Act.put, List.setIfInBounds_toArray, List.set_cons_zero, List.set_cons_succ])
        refine wpAnyH_ready (rs := [18]) (by kernel_rfl) (by simp) ?_
        refine AllReadyH.cons (o := ?o52) ?a52 (fun K hK => ?s52) ?m52; (case' a52 => (simp only [List.getElem?_toArray, List.getElem?_cons_zero, List.getElem?_cons_succ]; rfl))
        case s52 =>
          go_simp
          refine hK.out _ _ (HT.out _ (hHeld.2.alloc _)) (fun hHeld => ?_)
          clear hK K
          (try simp only [Act.put, List.setIfInBounds_toArray, List.set_cons_zero, List.set_cons_succ])
          refine wpAnyH_ready (rs := [19]) (by kernel_rfl) (by simp) ?_
          refine AllReadyH.cons (o := ?o53) ?a53 (fun K hK => ?s53) ?m53; (case' a53 => (simp only [List.getElem?_toArray, List.getElem?_cons_zero, List.getElem?_cons_succ]; rfl))
          case s53 =>
            refine step_append_lies _ (by rfl) _ _ _ (by rfl) W3.heap.size 9 i1 _ 1 16 Try.underlying38 hi1 hy0 hy1 hy2 rfl (by omega) (.slice A3 q c3) q (((ts.take q).map cutS).map (fun x => Value.string x)) (by rfl) ((own_below HO.out (Below.refl _ _).drew).alloc _) ⟨wr.heap.size, 0, none⟩ 1 1 [.string s'] (by rfl) (by rfl) (World.news_of_block (cs := #[.string s']) (t := 9) (fr := (0, 0)) (heap_alloc_new wr.drew _)) (by simp [Value.oneCell']) (by omega) (by unfold maxLen; omega) (by omega) (by have := HBL.out; simp; omega) (wr.heap.size + 1) (by simp) ?_
            intro gg cc w2 hown2 hgrow hat hltg
            have hrow := HGR.out _ _ hgrow
            have x2 := (cell_of_row _ _ 1 _ _ _ hrow).trans rfl
            have y2 := frozen_of_row _ _ 1 _ _ hrow
            have HROW := Lib.hid hrow
            clear hrow
            refine hK.out _ _ (HT.out _ (only_grown hgrow)) (fun hHeld => ?_)
            clear hK K
            (try simp only [Act.put, List.setIfInBounds_toArray, List.set_cons_zero, List.set_cons_succ])
            refine wpAnyH_take (i := 20) (oi := ?o54) (v := ?v54) ?a54 (by kernel_rfl) (by kernel_rfl) (by kernel_rfl) ?q54 (Or.inl ⟨?g54, ?y54⟩) (by assumption) ?r54; (case' a54 => (simp only [List.getElem?_toArray, List.getElem?_cons_zero, List.getElem?_cons_succ]; rfl)); (case' q54 => (exact fun _ _ _ h => h)); (case' g54 => rfl); (case' y54 => (intro w hSw; (try dsimp only at hSw); go_simp; try with_reducible rfl)); (case' r54 => (try simp only [Act.put, List.setIfInBounds_toArray, List.set_cons_zero, List.set_cons_succ]))
            refine wpAnyH_take (i := 21) (oi := ?o55) (v := ?v55) ?a55 (by kernel_rfl) (by kernel_rfl) (by kernel_rfl) ?q55 (Or.inl ⟨?g55, ?y55⟩) (by assumption) ?r55; (case' a55 => (simp only [List.getElem?_toArray, List.getElem?_cons_zero, List.getElem?_cons_succ]; rfl)); (case' q55 => (exact fun _ _ _ h => h)); (case' g55 => rfl); (case' y55 => (intro w hSw; (try dsimp only at hSw); go_simp; try with_reducible rfl)); (case' r55 => (try simp only [Act.put, List.setIfInBounds_toArray, List.set_cons_zero, List.set_cons_succ]))
            refine wpAnyH_ready (rs := [22]) (by kernel_rfl) (by simp) ?_
            refine AllReadyH.cons (o := ?o56) ?a56 (fun K hK => ?s56) ?m56; (case' a56 => (simp only [List.getElem?_toArray, List.getElem?_cons_zero, List.getElem?_cons_succ]; rfl))
            case s56 =>
              go_simp
              refine hK.out _ _ (HT.out _ (hHeld.2.setCell (.inl (by simp)) _)) (fun hHeld => ?_)
              clear hK K
              (try simp only [Act.put, List.setIfInBounds_toArray, List.set_cons_zero, List.set_cons_succ])
              refine wpAnyH_done (by kernel_rfl) ?_ _
              have HH := Lib.hid hHeld.2
              clear hHeld
              go_wp2_with fail
              go_roundw
              case rel =>
                refine ⟨q + 1, _, by omega, by omega, by go_num, Lib.hid ?_, Lib.hid (heap_setCell_same _ _ 1 _ _ _ HROW.out), Lib.hid ?_⟩
                · exact HOQ.out.trans HH.out (fun j hj => by
                    rcases List.mem_cons.1 hj with e | e
                    · exact .inl (by simp [e])
                    · exact .inr (by obtain ⟨_, z, _⟩ := own_bk HO.out j e; exact z))
                · rw [HNQ.out]; exact own_at hown2 (fun j e => Below.heap_setCell _ _ _ _ (fun e' => by have h1 := (hown2.lt j e).1; have h2 := HL3.out; have e2 : j = b3 := e'; omega))
              case measure => simp [intOf]; omega
            exact AllReadyH.nil
          exact AllReadyH.nil
        exact AllReadyH.nil
      refine AllReadyH.cons (o := ?o57) ?a57 (fun K hK => ?s57) ?m57; (case' a57 => (simp only [List.getElem?_toArray, List.getElem?_cons_zero, List.getElem?_cons_succ]; rfl))
      case s57 =>
        go_simp
        refine hK.out _ _ (HT.out _ (hHeld.2.alloc _)) (fun hHeld => ?_)
        clear hK K
        (try simp only [Act.put, List.setIfInBounds_toArray, List.set_cons_zero, List.set_cons_succ])
        refine wpAnyH_ready (rs := [2]) (by kernel_rfl) (by simp) ?_
        refine AllReadyH.cons (o := ?o58) ?a58 (fun K hK => ?s58) ?m58; (case' a58 => (simp only [List.getElem?_toArray, List.getElem?_cons_zero, List.getElem?_cons_succ]; rfl))
        case s58 =>
          go_simp
          refine hK.out _ _ (hHeld) (fun hHeld => ?_)
          clear hK K
          (try simp only [Act.put, List.setIfInBounds_toArray, List.set_cons_zero, List.set_cons_succ])
          refine wpAnyH_ready (rs := [19]) (by kernel_rfl) (by simp) ?_
          refine AllReadyH.cons (o := ?o59) ?a59 (fun K hK => ?s59) ?m59; (case' a59 => (simp only [List.getElem?_toArray, List.getElem?_cons_zero, List.getElem?_cons_succ]; rfl))
          case s59 =>
            refine step_append_lies _ (by rfl) _ _ _ (by rfl) W3.heap.size 9 i1 _ 1 16 Try.underlying38 hi1 hy0 hy1 hy2 rfl (by omega) (.slice A3 q c3) q (((ts.take q).map cutS).map (fun x => Value.string x)) (by rfl) ((own_below HO.out (Below.refl _ _).drew).alloc _) ⟨wr.heap.size, 0, none⟩ 1 1 [.string s'] (by rfl) (by rfl) (World.news_of_block (cs := #[.string s']) (t := 9) (fr := (0, 0)) (heap_alloc_new wr.drew _)) (by simp [Value.oneCell']) (by omega) (by unfold maxLen; omega) (by omega) (by have := HBL.out; simp; omega) (wr.heap.size + 1) (by simp) ?_
            intro gg cc w2 hown2 hgrow hat hltg
            have hrow := HGR.out _ _ hgrow
            have x2 := (cell_of_row _ _ 1 _ _ _ hrow).trans rfl
            have y2 := frozen_of_row _ _ 1 _ _ hrow
            have HROW := Lib.hid hrow
            clear hrow
            refine hK.out _ _ (HT.out _ (only_grown hgrow)) (fun hHeld => ?_)
            clear hK K
            (try simp only [Act.put, List.setIfInBounds_toArray, List.set_cons_zero, List.set_cons_succ])
            refine wpAnyH_take (i := 20) (oi := ?o60) (v := ?v60) ?a60 (by kernel_rfl) (by kernel_rfl) (by kernel_rfl) ?q60 (Or.inl ⟨?g60, ?y60⟩) (by assumption) ?r60; (case' a60 => (simp only [List.getElem?_toArray, List.getElem?_cons_zero, List.getElem?_cons_succ]; rfl)); (case' q60 => (exact fun _ _ _ h => h)); (case' g60 => rfl); (case' y60 => (intro w hSw; (try dsimp only at hSw); go_simp; try with_reducible rfl)); (case' r60 => (try simp only [Act.put, List.setIfInBounds_toArray, List.set_cons_zero, List.set_cons_succ]))
            refine wpAnyH_take (i := 21) (oi := ?o61) (v := ?v61) ?a61 (by kernel_rfl) (by kernel_rfl) (by kernel_rfl) ?q61 (Or.inl ⟨?g61, ?y61⟩) (by assumption) ?r61; (case' a61 => (simp only [List.getElem?_toArray, List.getElem?_cons_zero, List.getElem?_cons_succ]; rfl)); (case' q61 => (exact fun _ _ _ h => h)); (case' g61 => rfl); (case' y61 => (intro w hSw; (try dsimp only at hSw); go_simp; try with_reducible rfl)); (case' r61 => (try simp only [Act.put, List.setIfInBounds_toArray, List.set_cons_zero, List.set_cons_succ]))
            refine wpAnyH_ready (rs := [22]) (by kernel_rfl) (by simp) ?_
            refine AllReadyH.cons (o := ?o62) ?a62 (fun K hK => ?s62) ?m62; (case' a62 => (simp only [List.getElem?_toArray, List.getElem?_cons_zero, List.getElem?_cons_succ]; rfl))
            case s62 =>
              go_simp
              refine hK.out _ _ (HT.out _ (hHeld.2.setCell (.inl (by simp)) _)) (fun hHeld => ?_)
              clear hK K
              (try simp only [Act.put, List.setIfInBounds_toArray, List.set_cons_zero, List.set_cons_succ])
              refine wpAnyH_done (by kernel_rfl) ?_ _
              have HH := Lib.hid hHeld.2
              clear hHeld
              go_wp2_with fail
              go_roundw
              case rel =>
                refine ⟨q + 1, _, by omega, by omega, by go_num, Lib.hid ?_, Lib.hid (heap_setCell_same _ _ 1 _ _ _ HROW.out), Lib.hid ?_⟩
                · exact HOQ.out.trans HH.out (fun j hj => by
                    rcases List.mem_cons.1 hj with e | e
                    · exact .inl (by simp [e])
                    · exact .inr (by obtain ⟨_, z, _⟩ := own_bk HO.out j e; exact z))
                · rw [HNQ.out]; exact own_at hown2 (fun j e => Below.heap_setCell _ _ _ _ (fun e' => by have h1 := (hown2.lt j e).1; have h2 := HL3.out; have e2 : j = b3 := e'; omega))
              case measure => simp [intOf]; omega
            exact AllReadyH.nil
          exact AllReadyH.nil
        exact AllReadyH.nil
      exact AllReadyH.nil
    · obtain ⟨hq1, hq2⟩ := cut10 (f := cutS) HTN.out hq hq10 hqt rfl
      have hos := HOS.out
      obtain ⟨A3, c3, rfl⟩ := own_len hos
      have hk : q = k := by rw [← hq2, ← HK.out, HCT.out]
      subst hk
      have HRT : Hid (RowT wr A3 c3 (cutSe s).m.ts) := Lib.hid (by rw [HCT.out, ← hq1]; exact RowT.own hos (by rw [hq1, hq2]))
      have HOWN := Lib.hid hos
      have r0 := (cell_of_row _ _ 0 _ _ _ HBQ.out).trans rfl
      have r1 := (cell_of_row _ _ 1 _ _ _ HBQ.out).trans rfl
      have r2 := (cell_of_row _ _ 2 _ _ _ HBQ.out).trans rfl
      have r3 := (cell_of_row _ _ 3 _ _ _ HBQ.out).trans rfl
      have y2 := (HOQ.out.block (b1 + 1) (by have := HL3.out; have := X3.out; omega) (hno _ X3.out)).trans X2.out
      have z0 := (cell_of_row _ _ 0 _ _ _ y2).trans rfl
      have z1 := (cell_of_row _ _ 1 _ _ _ y2).trans rfl
      have z2 := (cell_of_row _ _ 2 _ _ _ y2).trans rfl
      have z3 := (cell_of_row _ _ 3 _ _ _ y2).trans rfl
      have f0 := frozen_of_row _ _ 0 _ _ y2
      have f1 := frozen_of_row _ _ 1 _ _ y2
      have f2 := frozen_of_row _ _ 2 _ _ y2
      have f3 := frozen_of_row _ _ 3 _ _ y2
      have Y2 := Lib.hid y2
      have HBW : Hid (Below w.heap.size w wr) := Lib.hid (HBB3.out.trans (HOQ.out.below HBB3.out.size (fun k hk => by rw [show k = b3 by simpa using hk]; have := X3.out; have := HH1.out; omega)))
      have hqd : tn ≤ q ∨ (q < tn ∧ 10 ≤ q) := by omega
      clear hq1 hq2 hq hq10 hqt hos hno hi1 hy0 hy1 hy2 y2
      rcases hqd with hqd | ⟨hqd1, hqd2⟩
      all_goals
        go_wp2_with fail
        refine bodyPost_ret (v := .agg #[.string nm, .slice A3 q c3, .int .i64 tm, .int .i64 sn]) (results_cell_row (p := 2) (ty := 47) Try.results22 _ _ (b1 + 1) 47 #[.string nm, .slice A3 q c3, .int .i64 tm, .int .i64 sn] (0, 0) _ rfl (set4 Y2.out) Try.underlying47 rfl (by kernel_rfl)) rfl ?_
        have hbw : w.heap.size ≤ b1 + 1 := by have := HH1.out; omega
        obtain ⟨q1, q2⟩ := cut_end HBW.out Y2.out hbw HRT.out
        exact ⟨A3, c3, by rw [HNM.out, HTM.out.1, HTM.out.2], q1, q2⟩
end Go.Proofs.Ytidgifnnkaheeaa.L11
