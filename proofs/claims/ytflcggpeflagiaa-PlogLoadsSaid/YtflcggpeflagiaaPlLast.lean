/-
  Contracts: the offsets of the records that no later one of their key follows.
-/
import Derived.Test.YtflcggpeflagiaaPlBack
import Derived.Maps.OwnIn
import Derived.Maps.AppendAt
import Derived.StringKeys
namespace Go.Proofs.Ytflcggpeflagiaa.L6
open Go.RowKit Go.Shelf
open Go.Maps
open L3 L4 L5

attribute [local go_sem] Oper.semAt_some

theorem lawStr : Keyed Try.prog 9 := string_keyed Try.underlying9
/-- a text as a key -/
abbrev kb (x : ByteArray) : List UInt8 := x.data.toList
theorem kb_inj {a b : ByteArray} (h : kb a = kb b) : a = b := by
  cases a; cases b
  simp [kb] at h
  simp [h]
/-- a set of texts, as a map reads -/
def SetT (s : List (List UInt8)) : DataW Unit := setOf (.agg []) (s.map Lit.string)
theorem any_txt (x : List UInt8) : ∀ l : List (List UInt8), (l.map Lit.string).any (fun y : Lit => y.sameKey (.string x)) = decide (x ∈ l)
  | [] => rfl
  | a :: l => by
    rw [List.map_cons, List.any_cons, any_txt x l]
    by_cases h : x = a
    · subst h; simp [Lit.sameKey]
    · have h1 : ¬ a = x := fun e => h e.symm
      simp [Lit.sameKey, h1, h]
theorem hasT (s : List (List UInt8)) (x : List UInt8) : Maps.has (SetT s) (.string x) = decide (x ∈ s) := by
  unfold SetT
  rw [has_setOf _ _ _ (fun y hy => by obtain ⟨a, _, rfl⟩ := List.mem_map.1 hy; trivial), any_txt]
theorem setT_snoc (s : List (List UInt8)) (x : List UInt8) : SetT (s ++ [x]) = (SetT s).put (.string x) (.agg []) := by
  unfold SetT; rw [List.map_append]; exact setOf_snoc _ _ _
/-- a block is the set of these texts -/
def IsKeys (w : World) (b : Nat) (n : Nat) (s : List (List UInt8)) : Prop := w.ownsMap Try.prog 9 (unitElem (H := Unit)) b n (SetT s)
theorem IsKeys.map {w : World} {b n : Nat} {s : List (List UInt8)} (h : IsKeys w b n s) : ∃ es c, w.heap[b]? = some (.map es c) := by
  obtain ⟨es, clock, hb, _⟩ := h
  exact ⟨es, clock, hb⟩
theorem IsKeys.lt {w : World} {b n : Nat} {s : List (List UInt8)} (h : IsKeys w b n s) : b < w.heap.size := by
  obtain ⟨es, c, hb⟩ := h.map
  exact (Array.getElem?_eq_some_iff.1 hb).1
theorem IsKeys.at {w w' : World} {b n : Nat} {s : List (List UInt8)} (h : IsKeys w b n s) (hb : w'.heap[b]? = w.heap[b]?) : IsKeys w' b n s := by
  obtain ⟨es, clock, h1, F, hs, hD⟩ := h
  exact ⟨es, clock, hb.trans h1, F, hs, hD⟩
theorem cells_ne_map {w : World} {b b' n : Nat} {s : List (List UInt8)} {cs : Array Value} {T : TypeId} {fr : Nat × Nat} (h : IsKeys w b n s) (hc : w.heap[b']? = some (.cells cs T fr)) : b' ≠ b := fun e => by
  obtain ⟨es, c, hb⟩ := h.map
  rw [e, hb] at hc; cases hc
theorem ownFrom_only {β : Type} {B : Nat} {S : List Nat} {w : World} (hB : w.heap.size ≤ B) : OwnFrom B (fun (_ : β) W => Only S w W) := fun _ W W' row hs hg hr =>
  ⟨hg.os.trans hs.os, hg.tape.trans hs.tape, hg.output.trans hs.output, Nat.le_trans hs.size hg.size, fun k hk hn => (hg.block k (by have := hs.size; omega) (fun e => by have := (hr k e.symm).1; omega)).trans (hs.block k hk hn)⟩

/-! ### one record further -/
def stepL (d : List (List UInt8) × List Int) (f : L4.Fd) : List (List UInt8) × List Int :=
  if f.r.hk = true then if kb f.r.key ∈ d.1 then d else (d.1 ++ [kb f.r.key], d.2 ++ [f.o]) else (d.1, d.2 ++ [f.o])
def foldK (L : List L4.Fd) (keys : List (List UInt8)) (pre : List (Fin L.length)) : List (List UInt8) × List Int := pre.foldl (fun d x => stepL d L[x]) (keys, [])
theorem foldK_snoc (L : List L4.Fd) (keys : List (List UInt8)) (pre : List (Fin L.length)) (x : Fin L.length) : foldK L keys (pre ++ [x]) = stepL (foldK L keys pre) L[x] := by simp [foldK]
theorem stepL_len (d : List (List UInt8) × List Int) (f : L4.Fd) : (stepL d f).2.length ≤ d.2.length + 1 := by
  unfold stepL
  split
  · split <;> simp
  · simp
theorem foldK_len (L : List L4.Fd) (keys : List (List UInt8)) (pre : List (Fin L.length)) : (foldK L keys pre).2.length ≤ pre.length := by
  unfold foldK
  have h : ∀ (l : List (Fin L.length)) (d : List (List UInt8) × List Int), (l.foldl (fun d x => stepL d L[x]) d).2.length ≤ d.2.length + l.length := by
    intro l
    induction l with
    | nil => intro d; simp
    | cons a t ih =>
      intro d
      have h1 := ih (stepL d L[a])
      have h2 := stepL_len d L[a]
      simp only [List.foldl_cons, List.length_cons]
      omega
  simpa using h pre (keys, [])
/-- what lastOnes tells -/
def lastL (L : List L4.Fd) (keys : List (List UInt8)) : List (List UInt8) × List Int := L.reverse.foldl stepL (keys, [])
theorem foldK_all (L : List L4.Fd) (keys : List (List UInt8)) : foldK L keys (downF L) = lastL L keys := by
  unfold foldK lastL
  have h : (downF L).map (fun x => L[x]) = L.reverse := by
    have := downF_map L id
    simpa using this
  rw [← h, List.foldl_map]
theorem intInfo6 : (Try.prog.info? 3).map (fun i => (i.zero, i.size, i.bytes)) = some (some (.int .i64 0), 1, 8) := by kernel_rfl
theorem rowI_snoc (l : List Int) (o : Int) : rowI l ++ [.int .i64 o] = rowI (l ++ [o]) := by simp [rowI]

/-- what lies between two rounds -/
structure Mid (w W : World) (A : Option Addr) (m cap bm n : Nat) (ks : List (List UInt8)) (os : List Int) (v : Value) : Prop where
  bM : Boxed W w.heap.size 77 (.map (some bm))
  bS : Boxed W (w.heap.size + 1 + 1) 36 (.slice A m cap)
  bO : Boxed W (w.heap.size + 1) 81 v
  row : W.ownsRow w.heap.size 3 1 v os.length (rowI os)
  keys : IsKeys W bm n ks
  only : Only [bm] w W
/-- behind an append and the store of the longer slice -/
theorem Mid.appended {w W w1 : World} {A : Option Addr} {m cap bm n : Nat} {ks : List (List UInt8)} {os : List Int} {v v' : Value} {o : Int} {tmp : Obj} (h : Mid w W A m cap bm n ks os v) (hbm : bm < w.heap.size)
    (hown' : w1.ownsRow w.heap.size 3 1 v' (os.length + 1) (rowI os ++ [.int .i64 o])) (hgrow : (W.alloc tmp).grownBy w1 v.ownBlock) :
    Mid w (w1.setCell ⟨w.heap.size + 1, 0, none⟩ v') A m cap bm n ks (os ++ [o]) v' ∧ KeepsOthers W (w1.setCell ⟨w.heap.size + 1, 0, none⟩ v') ∧ Below w.heap.size W (w1.setCell ⟨w.heap.size + 1, 0, none⟩ v') := by
  obtain ⟨h1, h2, h3, h4, h5⟩ := h.bO.appended (by decide) h.row h.only.size (by omega) hown' hgrow
  have q1 := ((h.bM.alloc tmp).kept hgrow (h.bM.not_row (by decide) h.row)).kept (grownBy_setCell' w1 (w.heap.size + 1) v') (by simp)
  have q2 := ((h.bS.alloc tmp).kept hgrow (h.bS.not_row (by decide) h.row)).kept (grownBy_setCell' w1 (w.heap.size + 1) v') (by simp)
  refine ⟨⟨q1, q2, h2, ?_, h.keys.at (h5.block bm hbm), ⟨h5.os.trans h.only.os, h5.tape.trans h.only.tape, h5.output.trans h.only.output, Nat.le_trans h.only.size h5.size, fun k hk hn => (h5.block k hk).trans (h.only.block k hk hn)⟩⟩, h4, h5⟩
  rw [List.length_append, ← rowI_snoc]; exact h3
theorem mid_keeps {w W W' : World} {A : Option Addr} {m cap b : Nat} (h3 : Boxed W (w.heap.size + 1 + 1) 36 (.slice A m cap)) (h3' : Boxed W' (w.heap.size + 1 + 1) 36 (.slice A m cap)) (hA : A = some ⟨b, 0, none⟩) (hb : W'.heap[b]? = W.heap[b]?) : Keeps ((w.heap.size + 1 + 1) :: (blk A).toList) W W' := fun k hk => by
  subst hA
  rcases List.mem_cons.1 hk with rfl | hk
  · exact h3'.trans h3.symm
  · have : k = b := by simpa [blk] using hk
    subst this
    exact hb
theorem Only.ofGrown {W W' : World} {r : Nat} (h : W.grownBy W' (some r)) : Only [r] W W' := ⟨h.os, h.tape, h.output, h.size, fun k hk hn => h.block k hk (fun e => hn (by injection e with e; simp [e]))⟩
theorem Only.alloc {S : List Nat} {w W : World} (a : Only S w W) (o : Obj) : Only S w (W.alloc o) := a.trans (S' := []) (Only.ofBelow (one_box o)) (fun k hk => by cases hk)
theorem IsKeys.alloc {w : World} {b n : Nat} {s : List (List UInt8)} (h : IsKeys w b n s) (o : Obj) : IsKeys (w.alloc o) b n s := h.at (Below.heap_alloc _ _ _ h.lt)
theorem row_alloc {w : World} {b : Nat} {cs : Array Value} {T : TypeId} (h : w.heap[b]? = some (.cells cs T (0, 0))) (o : Obj) : (w.alloc o).heap[b]? = some (.cells cs T (0, 0)) := (Below.heap_alloc _ _ _ (Array.getElem?_eq_some_iff.1 h).1).trans h
theorem keeps_only {S Ks : List Nat} {W W' : World} (o : Only S W W') (h : ∀ k ∈ Ks, k < W.heap.size ∧ k ∉ S) : Keeps Ks W W' := fun k hk => o.block k (h k hk).1 (h k hk).2
theorem cell_ne_map {w : World} {b b' n o : Nat} {s : List (List UInt8)} {v : Value} (h : IsKeys w b n s) (hc : w.cell? ⟨b', o, none⟩ = some v) : b' ≠ b := fun e => by
  obtain ⟨es, c, hb⟩ := h.map
  rw [e] at hc
  simp [World.cell?, hb] at hc
theorem Mid.alloc {w W : World} {A : Option Addr} {m cap bm n : Nat} {ks : List (List UInt8)} {os : List Int} {v : Value} (h : Mid w W A m cap bm n ks os v) (o : Obj) : Mid w (W.alloc o) A m cap bm n ks os v :=
  ⟨h.bM.alloc o, h.bS.alloc o, h.bO.alloc o, h.row.alloc o, h.keys.alloc o, h.only.alloc o⟩
/-- behind a store into the set -/
theorem Mid.put {w W w1 : World} {A : Option Addr} {m cap bm n n' : Nat} {ks ks' : List (List UInt8)} {os : List Int} {v : Value} (h : Mid w W A m cap bm n ks os v) (hbm : bm < w.heap.size) (hk : IsKeys w1 bm n' ks') (hgrow : W.grownBy w1 (some bm)) : Mid w w1 A m cap bm n' ks' os v :=
  ⟨h.bM.kept hgrow (fun e => by injection e with e; omega), h.bS.kept hgrow (fun e => by injection e with e; omega), h.bO.kept hgrow (fun e => by injection e with e; omega),
    own_at h.row (fun k e => hgrow.block k (h.row.lt k e).2 (fun q => by injection q with q; have := (h.row.lt k e).1; omega)), hk, h.only.trans (Only.ofGrown hgrow) (fun k hk => .inl hk)⟩

set_option maxRecDepth 100000 in
set_option maxHeartbeats 4000000 in
theorem last_in (w : World) (A : Option Addr) (L : List L4.Fd) (m cap bm nn : Nat) (keys : List (List UInt8)) (hm : L.length = m) (hl : m ≤ 1000) (hnn : nn ≤ 1000000) (hR : ReadsF w w.heap.size A L) (hS : Hid (∀ f ∈ L, f.r.key.size ≤ maxLen)) (hK : IsKeys w bm nn keys) (hA : ∀ k, blk A = some k → k < w.heap.size) :
    CallsIn Fence.wide 6 Try.prog 40 #[.slice A m cap, .map (some bm)] w fun e W' => ∃ A' c', e = .returned (.slice A' (lastL L keys).2.length c') ∧ W'.ownsRow w.heap.size 3 1 (.slice A' (lastL L keys).2.length c') (lastL L keys).2.length (rowI (lastL L keys).2) ∧ (∃ n, n ≤ nn + m ∧ IsKeys W' bm n (lastL L keys).1) ∧ Only [bm] w W' := by
  subst hm
  obtain ⟨i0, hi0, hz0, hz1, hz2⟩ := info_parts intInfo6
  have hro : (Fence.wide).round = none := rfl
  have h1 : 1 ≤ 6 := by decide
  refine callsIn_of_wp_marks Try.func40 rfl trivial ?_ hro
  simp only [Try.ntmps40, List.size_toArray, List.length_cons, List.length_nil, Nat.reduceAdd, Nat.reduceSub, Array.replicate_succ, Array.replicate_zero, List.push_toArray, List.append_toArray, List.nil_append, List.cons_append]
  gi_wp2_with (refine ⟨trivial, ?_⟩; gi_at_call 59; refine (callsIn_wide.2 (backF_any A L.length cap _)).mono ?_; rintro e w' ⟨rfl, rfl⟩)
  have bM := Boxed.new w 77 (.map (some bm))
  have bO := Boxed.new (w.alloc (.cells #[.map (some bm)] 77)) 81 (.slice none 0 0)
  have bS := Boxed.new ((w.alloc (.cells #[.map (some bm)] 77)).alloc (.cells #[.slice none 0 0] 81)) 36 (.slice A L.length cap)
  simp only [World.size_alloc] at bO bS
  obtain ⟨W0, hW0⟩ : ∃ W0, ((w.alloc (.cells #[.map (some bm)] 77)).alloc (.cells #[.slice none 0 0] 81)).alloc (.cells #[.slice A L.length cap] 36) = W0 := ⟨_, rfl⟩
  have bM0 : Boxed W0 w.heap.size 77 (.map (some bm)) := by rw [← hW0]; exact (bM.alloc _).alloc _
  have bO0 : Boxed W0 (w.heap.size + 1) 81 (.slice none 0 0) := by rw [← hW0]; exact bO.alloc _
  have bS0 : Boxed W0 (w.heap.size + 1 + 1) 36 (.slice A L.length cap) := by rw [← hW0]; exact bS
  have hsz : W0.heap.size = w.heap.size + 1 + 1 + 1 := by rw [← hW0]; simp
  have hB0 : Below w.heap.size w W0 := by rw [← hW0]; exact (((Below.refl _ w).alloc (Nat.le_refl _) _).alloc (by simp) _).alloc (by simp; omega) _
  have hK0 : IsKeys W0 bm nn keys := hK.at (hB0.block bm hK.lt)
  have hbm := hK.lt
  rw [hW0]
  clear hW0 bM bO bS
  refine wpIn_rangeFunc_ownH hro h1 (gf := 70) (lb := #[.pointer (some ⟨w.heap.size + 1 + 1, 0, none⟩)]) rfl trivial (enters_of Try.func70 (by kernel_rfl) rfl)
    (backF_stops Fence.wide (6 - 1) trivial hro (by decide) (w.heap.size + 1 + 1) w.heap.size L.length cap A L rfl hl W0 (by omega) bS0.cell (by omega) (readsF_below hR hB0)) Keeps.trans (keeps_b (w := W0) (fun k hk => by
      rcases List.mem_cons.1 hk with rfl | hk
      · omega
      · have := hA k (by simpa [Option.mem_toList] using hk); omega)) (Below.refl _ _) (fun _ => rfl)
    (fun pre W => (((Boxed W w.heap.size 77 (.map (some bm)) ∧ Boxed W (w.heap.size + 1 + 1) 36 (.slice A L.length cap)) ∧ (∃ v, Boxed W (w.heap.size + 1) 81 v ∧ W.ownsRow w.heap.size 3 1 v (foldK L keys pre).2.length (rowI (foldK L keys pre).2) ∧ True)) ∧ (∃ n, n ≤ nn + pre.length ∧ IsKeys W bm n (foldK L keys pre).1)) ∧ Only [bm] w W)
    (fun _ _ _ => False)
    (OwnFrom.and (OwnFrom.and (OwnFrom.and (OwnFrom.and (Own.from (boxed_own _ _ _) _) (Own.from (boxed_own _ _ _) _)) (Own.from (holdsRow_own _ _ _ _ _ _ _ _) _)) (fun s X Y row hs hg hr => by obtain ⟨n, hn, hs⟩ := hs; exact ⟨n, hn, hs.kept hg (fun e => by have := (hr _ e.symm).1; omega)⟩)) (ownFrom_only (by omega)))
    (fun _ _ _ _ _ hs _ _ => hs)
    ⟨⟨⟨⟨bM0, bS0⟩, _, bO0, World.ownsRow_nil _ _ _ _, trivial⟩, nn, Nat.le_refl _, hK0⟩, Only.ofBelow hB0⟩
    (fun x a' W => ∃ Bx, w.heap.size + 1 + 1 < Bx ∧ W.heap[Bx]? = some (.cells #[.int .i64 L[x].o, .bool L[x].r.hk, .string L[x].r.key, .bool L[x].r.tb, .string L[x].r.val] 43 (0, 0)) ∧ a' = { tmps := #[.slice A L.length cap, .map (some bm), undef, .pointer (some ⟨w.heap.size, 0, none⟩), .slice none 0 0, .pointer (some ⟨w.heap.size + 1, 0, none⟩), undef, .pointer (some ⟨Bx, 0, none⟩), undef, undef, .slice A L.length cap, .func (.func 70) #[] #[.pointer (some ⟨w.heap.size + 1 + 1, 0, none⟩)], .int .i64 (x.1 : Int), .agg #[.int .i64 L[x].o, .bool L[x].r.hk, .string L[x].r.key, .bool L[x].r.tb, .string L[x].r.val], undef, undef, undef, undef, undef, undef, undef, undef, undef, undef, undef, undef, undef, undef, undef, undef, undef, undef, undef, undef, undef, undef, undef], defers := [] })
    (fun x a' _ X Y row hs hg hr => by obtain ⟨Bx, g1, g2, g3⟩ := hs; exact ⟨Bx, g1, (hg.block Bx (Array.getElem?_eq_some_iff.1 g2).1 (fun e => by obtain ⟨_, o, ho, hc⟩ := hr Bx e.symm; rw [g2] at ho; cases ho; cases hc)).trans g2, g3⟩)
    ?assign ?body ?done ?stop
  case assign =>
    rintro l pre x W K ⟨⟨⟨⟨bM1, bS1⟩, v, bO1, hrow, _⟩, n, hn1, hK1⟩, hO1⟩ hK
    gi_wp2
    have hz := hO1.size
    have hb1 := bS1.lt
    exact hK _ _ ((KeepsOthers.alloc _ _).from _) (keeps_only (S := []) (Only.ofBelow (one_box _)) (fun k hk => ⟨by
      rcases List.mem_cons.1 hk with rfl | hk
      · exact hb1
      · have := hA k (by simpa [Option.mem_toList] using hk); omega, by simp⟩)) ⟨⟨⟨⟨bM1.alloc _, bS1.alloc _⟩, v, bO1.alloc _, hrow.alloc _, trivial⟩, n, hn1, hK1.alloc _⟩, hO1.alloc _⟩ ⟨W.heap.size, hb1, heap_alloc_new _ _, rfl⟩
  case body =>
    rintro l pre x a' W hl' ⟨r, hr⟩ ⟨⟨⟨⟨bM1, bS1⟩, v, bO1, hrow, _⟩, n, hn1, hK1⟩, hO1⟩ ⟨Bx, hBx, rx, rfl⟩ hlt
    obtain ⟨b, hAb, hbw, hcells⟩ := hR (by omega)
    obtain ⟨⟨o, ⟨hk, key, tb, val⟩⟩, hel⟩ : ∃ f, L[x] = f := ⟨_, rfl⟩
    have hsn := foldK_snoc L keys pre x
    have hpl := foldK_len L keys pre
    have hks := hS.out L[x] (List.getElem_mem _)
    rw [hel] at rx hsn hks
    dsimp only at rx hks
    have c0 := (cell_of_row _ _ 0 _ _ _ rx).trans rfl
    have c1 := (cell_of_row _ _ 1 _ _ _ rx).trans rfl
    have c2 := (cell_of_row _ _ 2 _ _ _ rx).trans rfl
    have MD : Hid (Mid w W A L.length cap bm n (foldK L keys pre).1 (foldK L keys pre).2 v) := Lib.hid ⟨bM1, bS1, bO1, hrow, hK1, hO1⟩
    have cO := bO1.cell
    have lM := bM1.lt
    have lO := bO1.lt
    have lB : Bx < W.heap.size := (Array.getElem?_eq_some_iff.1 rx).1
    have cM := bM1.cell
    have hbne : b ≠ bm := cell_ne_map hK (hcells 0 _ (List.getElem?_eq_getElem (by omega))).1
    have HHS := Lib.hid hsn
    clear hsn hrow hK1 hO1 hr hl' hcells
    cases hk
    · have hst : stepL (foldK L keys pre) ⟨o, ⟨false, key, tb, val⟩⟩ = ((foldK L keys pre).1, (foldK L keys pre).2 ++ [o]) := by unfold stepL; simp
      have HST := Lib.hid hst
      clear hst
      gi_wp2_with (gi_at_builtin; refine wpListIn_append_own _ rfl _ _ 81 rfl w.heap.size 3 i0 _ 1 8 Try.underlying81 hi0 hz0 hz1 hz2 rfl (by decide) _ _ _ rfl (MD.out.row.alloc _) ⟨W.heap.size, 0, none⟩ 1 1 [.int .i64 o] rfl rfl (cell_one_new _ _ _) (by simp [Value.oneCell']) (by unfold maxLen; omega) (by omega) (by have := MD.out.only.size; simp; omega) ?_; intro v' w2 hown' hgrow _; obtain ⟨g', cap', rfl⟩ := ownsRow_succ hown'; obtain ⟨MD2, hk2, hb2⟩ := MD.out.appended hbm hown' hgrow; have hv1 := (MD.out.bO.alloc (.cells #[.int .i64 o] 3)).kept hgrow (MD.out.bO.not_row (by decide) MD.out.row); have hc1 := hv1.cell; have hf1 := hv1.frozen)
      refine ⟨hk2.from _, mid_keeps bS1 MD2.bS hAb (hb2.block b hbw), ?_⟩
      dsimp only
      rw [HHS.out, HST.out]
      exact ⟨⟨⟨⟨MD2.bM, MD2.bS⟩, _, MD2.bO, MD2.row, trivial⟩, n, by rw [List.length_append]; omega, MD2.keys⟩, MD2.only⟩
    · have hkey : keyOf Try.prog 9 (.string key) = some (.string key.data.toList) := WideMaps.keyOf_string_mk Try.underlying9 hks
      have HKEY := Lib.hid hkey
      by_cases hin : kb key ∈ (foldK L keys pre).1
      · have hst : stepL (foldK L keys pre) ⟨o, ⟨true, key, tb, val⟩⟩ = foldK L keys pre := by unfold stepL; simp [hin]
        have HST := Lib.hid hst
        have HAS : Hid (Maps.has (SetT (foldK L keys pre).1) (.string key.data.toList) = true) := Lib.hid (by rw [hasT]; simpa using hin)
        clear hst hin
        gi_wp2_with (gi_at_lookup; refine wpListIn_lookup_own_unit _ rfl _ _ 77 rfl 9 102 lawStr Try.underlying77 (zeroUnit _) bm n (SetT (foldK L keys pre).1) rfl MD.out.keys _ _ rfl hkey ?_; rw [HAS.out])
        refine ⟨(KeepsOthers.alloc _ _).from _, mid_keeps bS1 (bS1.alloc _) hAb (Below.heap_alloc _ _ _ (Nat.lt_of_lt_of_le hbw MD.out.only.size)), ?_⟩
        dsimp only
        rw [HHS.out, HST.out]
        exact ⟨⟨⟨⟨bM1.alloc _, bS1.alloc _⟩, v, bO1.alloc _, MD.out.row.alloc _, trivial⟩, n, by rw [List.length_append]; omega, MD.out.keys.alloc _⟩, MD.out.only.alloc _⟩
      · have hst : stepL (foldK L keys pre) ⟨o, ⟨true, key, tb, val⟩⟩ = ((foldK L keys pre).1 ++ [kb key], (foldK L keys pre).2 ++ [o]) := by unfold stepL; simp [hin]
        have HST := Lib.hid hst
        have HAS : Hid (Maps.has (SetT (foldK L keys pre).1) (.string key.data.toList) = false) := Lib.hid (by rw [hasT]; simpa using hin)
        clear hst hin
        gi_wp2_with (first
          | (gi_at_builtin; have _q := hgrow1; refine wpListIn_append_own _ rfl _ _ 81 rfl w.heap.size 3 i0 _ 1 8 Try.underlying81 hi0 hz0 hz1 hz2 rfl (by decide) _ _ _ rfl (MD1.out.row.alloc _) ⟨w1.heap.size, 0, none⟩ 1 1 [.int .i64 o] rfl rfl (cell_one_new _ _ _) (by simp [Value.oneCell']) (by unfold maxLen; omega) (by omega) (by have := MD1.out.only.size; simp; omega) ?_; intro v' w2 hown' hgrow _; obtain ⟨g', cap', rfl⟩ := ownsRow_succ hown'; obtain ⟨MD2, hk2, hb2⟩ := MD1.out.appended hbm hown' hgrow; have hv1 := (MD1.out.bO.alloc (.cells #[.int .i64 o] 3)).kept hgrow (MD1.out.bO.not_row (by decide) MD1.out.row); have hc1 := hv1.cell; have hf1 := hv1.frozen)
          | (gi_at_mapUpdate; refine wpListIn_mapUpdate_own _ rfl _ _ _ 77 rfl 9 102 lawStr Try.underlying77 _ bm n _ rfl (MD.out.keys.alloc (.cells #[] 102)) (by unfold maxLen; omega) _ _ _ rfl rfl HKEY.out _ [] unitElem_mk ?_; intro w1 hown1 hgrow1; have MD1 : Hid (Mid w w1 A L.length cap bm (n + 1) ((foldK L keys pre).1 ++ [kb key]) (foldK L keys pre).2 v) := Lib.hid ((MD.out.alloc (.cells #[] 102)).put hbm (by unfold IsKeys; rw [setT_snoc]; exact hown1) hgrow1); have cO1 := MD1.out.bO.cell; have rx1 := (hgrow1.block Bx (by have := (Array.getElem?_eq_some_iff.1 rx).1; simp; omega) (fun e => by injection e with e; omega)).trans (row_alloc rx (.cells #[] 102)); have cB1 := (cell_of_row _ _ 0 _ _ _ rx1).trans rfl)
          | (gi_at_lookup; refine wpListIn_lookup_own_unit _ rfl _ _ 77 rfl 9 102 lawStr Try.underlying77 (zeroUnit _) bm n (SetT (foldK L keys pre).1) rfl MD.out.keys _ _ rfl hkey ?_; rw [HAS.out]))
        have hB1 : w1.heap[b]? = W.heap[b]? := (hgrow1.block b (by have := MD.out.only.size; simp; omega) (fun e => hbne (by injection e))).trans (Below.heap_alloc _ _ _ (Nat.lt_of_lt_of_le hbw MD.out.only.size))
        refine ⟨((KeepsOthers.alloc W _).from _).trans ((KeepsFrom.of_grownBy hgrow1 (fun j e => by cases e; omega)).trans (hk2.from _)), mid_keeps bS1 MD2.bS hAb ((hb2.block b hbw).trans hB1), ?_⟩
        dsimp only
        rw [HHS.out, HST.out]
        exact ⟨⟨⟨⟨MD2.bM, MD2.bS⟩, _, MD2.bO, MD2.row, trivial⟩, n + 1, by rw [List.length_append]; simp; omega, MD2.keys⟩, MD2.only⟩
  case done =>
    rintro D ys W hD rfl ⟨⟨⟨⟨bM1, bS1⟩, v, bO1, hrow, _⟩, n, hn1, hK1⟩, hO1⟩ hKd
    have hc := bO1.cell
    gi_wp2
    refine ⟨by simp, .inl ⟨_, _, rfl, run_takeDeferred hKd, ?_⟩⟩
    rw [foldK_all] at hrow hK1
    rw [downF_len] at hn1
    obtain ⟨A', c', rfl⟩ := own_form hrow
    have hrow' := ownsRow_putObj hrow (.deferred none) hKd rfl
    have hz := hO1.size
    refine ⟨_, results_tmp rfl _ _ _, A', c', rfl, hrow', ⟨n, hn1, ?_⟩, ?_⟩
    · exact hK1.at ((grownBy_putObj' W D (.deferred none)).block bm hK1.lt (fun e => by injection e with e; omega))
    · have hg := grownBy_putObj' W D (.deferred none)
      exact ⟨hg.os.trans hO1.os, hg.tape.trans hO1.tape, hg.output.trans hO1.output, Nat.le_trans hO1.size hg.size, fun k hk hn => (hg.block k (by omega) (fun e => by injection e with e; omega)).trans (hO1.block k hk hn)⟩
  case stop =>
    rintro D c pre W _ _ h _
    exact h.elim
end Go.Proofs.Ytflcggpeflagiaa.L6
