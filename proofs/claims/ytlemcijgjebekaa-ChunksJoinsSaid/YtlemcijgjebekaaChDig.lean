/-
  Contract: a text's digest.
-/
import Derived.Test.YtlemcijgjebekaaChBack
import Derived.Lib.ConvBytes
import Derived.Lib.JoinLaws
namespace Go.Proofs.Ytlemcijgjebekaa.L7
open Go.RowKit Go.Shelf
open L3 L4 L5

attribute [local go_sem] Oper.semAt_some
theorem u8Info : (Try.prog.info? 5).map (fun i => (i.zero, i.size, i.bytes)) = some (some (.int .u8 0), 1, 1) := by kernel_rfl

/-- the bytes that came, from the end on -/
def backL (L : List Nat) (pre : List (Fin L.length)) : List Nat := pre.map fun x => L[x]
theorem backL_snoc (L : List Nat) (pre : List (Fin L.length)) (x : Fin L.length) : backL L (pre ++ [x]) = backL L pre ++ [L[x]] := by simp [backL]
theorem backL_all (L : List Nat) : backL L (downF L) = L.reverse := by
  have := downF_map L id
  simpa [backL] using this
theorem backL_len (L : List Nat) (pre : List (Fin L.length)) : (backL L pre).length = pre.length := by simp [backL]
def rowB (l : List Nat) : List Value := l.map fun n : Nat => Value.int .u8 (n : Int)
theorem rowB_snoc (l : List Nat) (n : Nat) : rowB (l ++ [n]) = rowB l ++ [.int .u8 (n : Int)] := by simp [rowB]
theorem one_alloc {w : World} (o : Obj) : Below w.heap.size w (w.alloc o) := (Below.refl _ w).alloc (Nat.le_refl _) _

/-- what lies between two rounds -/
structure DMid (w W : World) (m c : Nat) (cs : Array Value) (fr : Nat × Nat) (l : List Nat) (v : Value) : Prop where
  bO : Boxed W (w.heap.size + 1) 127 v
  bS : Boxed W (w.heap.size + 1 + 1 + 1) 127 (.slice (some ⟨w.heap.size + 1 + 1, 0, none⟩) m c)
  row : W.ownsRow w.heap.size 5 1 v l.length (rowB l)
  src : W.heap[w.heap.size + 1 + 1]? = some (.cells cs 5 fr)
  bel : Below w.heap.size w W
  ne : fr ≠ (0, 0)
theorem DMid.off {w W : World} {m c : Nat} {cs : Array Value} {fr : Nat × Nat} {l : List Nat} {v : Value} (h : DMid w W m c cs fr l v) : some (w.heap.size + 1 + 1) ≠ v.ownBlock := by
  rcases h.row.2 with ⟨e, _⟩ | ⟨g, cap, cur, e, _, hh, _⟩
  · rw [e]; simp [Value.ownBlock]
  · rw [e]
    intro q
    obtain rfl : w.heap.size + 1 + 1 = g := by simpa [Value.ownBlock] using q
    rw [h.src] at hh
    injection hh with hh; injection hh with _ _ hh
    exact h.ne hh
theorem DMid.alloc {w W : World} {m c : Nat} {cs : Array Value} {fr : Nat × Nat} {l : List Nat} {v : Value} (h : DMid w W m c cs fr l v) (o : Obj) : DMid w (W.alloc o) m c cs fr l v :=
  ⟨h.bO.alloc o, h.bS.alloc o, h.row.alloc o, (Below.heap_alloc _ _ _ (Array.getElem?_eq_some_iff.1 h.src).1).trans h.src, h.bel.alloc h.bel.size _, h.ne⟩
theorem DMid.kept {w W W' : World} {m c : Nat} {cs : Array Value} {fr : Nat × Nat} {l : List Nat} {v : Value} {row : Option Nat} (h : DMid w W m c cs fr l v) (hg : W.grownBy W' row) (hr : ∀ k, row = some k → w.heap.size ≤ k ∧ ∃ o : Obj, W.heap[k]? = some o ∧ o.isCells = false) : DMid w W' m c cs fr l v := by
  have key : ∀ k, (∃ cs T fr, W.heap[k]? = some (.cells cs T fr)) → some k ≠ row := fun k ⟨_, _, _, hk⟩ e => by
    obtain ⟨_, o, ho, hc⟩ := hr k e.symm
    rw [hk] at ho; cases ho; cases hc
  refine ⟨h.bO.kept hg (key _ ⟨_, _, _, h.bO⟩), h.bS.kept hg (key _ ⟨_, _, _, h.bS⟩), h.row.kept hg ?_, (hg.block _ (Array.getElem?_eq_some_iff.1 h.src).1 (key _ ⟨_, _, _, h.src⟩)).trans h.src, h.bel.grown hg h.bel.size (fun k e => (hr k e).1), h.ne⟩
  rcases h.row.2 with ⟨e, _⟩ | ⟨g, cap, cur, e, _, hh, _⟩
  · left; rw [e]; rfl
  · right; rw [e]; exact key g ⟨_, _, _, hh⟩
/-- behind an append and the store of the longer slice -/
theorem DMid.appended {w W w1 : World} {m c : Nat} {cs : Array Value} {fr : Nat × Nat} {l : List Nat} {v v' : Value} {n : Nat} {tmp : Obj} (h : DMid w W m c cs fr l v)
    (hown' : w1.ownsRow w.heap.size 5 1 v' (l.length + 1) (rowB l ++ [.int .u8 (n : Int)])) (hgrow : (W.alloc tmp).grownBy w1 v.ownBlock) :
    DMid w (w1.setCell ⟨w.heap.size + 1, 0, none⟩ v') m c cs fr (l ++ [n]) v' ∧ KeepsOthers W (w1.setCell ⟨w.heap.size + 1, 0, none⟩ v') := by
  obtain ⟨h1, h2, h3, h4, h5⟩ := h.bO.appended (by decide) h.row h.bel.size (by omega) hown' hgrow
  have q2 := ((h.bS.alloc tmp).kept hgrow (h.bS.not_row (by decide) h.row)).kept (grownBy_setCell' w1 (w.heap.size + 1) v') (by simp; omega)
  have hlt := (Array.getElem?_eq_some_iff.1 h.src).1
  refine ⟨⟨h2, q2, ?_, ?_, h.bel.trans h5, h.ne⟩, h4⟩
  · rw [List.length_append, rowB_snoc]; exact h3
  · have e1 := hgrow.block (w.heap.size + 1 + 1) (by simp; omega) h.off
    exact ((Below.heap_setCell _ _ _ _ (by simp)).trans e1).trans ((Below.heap_alloc _ _ _ hlt).trans h.src)
theorem DMid.keeps {w W W' : World} {m c : Nat} {cs : Array Value} {fr : Nat × Nat} {l l' : List Nat} {v v' : Value} (h : DMid w W m c cs fr l v) (h' : DMid w W' m c cs fr l' v') : Keeps ((w.heap.size + 1 + 1 + 1) :: (blk (some ⟨w.heap.size + 1 + 1, 0, none⟩)).toList) W W' := fun k hk => by
  rcases List.mem_cons.1 hk with rfl | hk
  · exact h'.bS.trans h.bS.symm
  · have : k = w.heap.size + 1 + 1 := by simpa [blk] using hk
    subst this
    exact h'.src.trans h.src.symm
theorem getD_nats {s : ByteArray} {i n : Nat} (h : (V.nats s)[i]? = some n) : i < s.size ∧ (s.data.toList.getD i 0).toNat = n := by
  have h2 : (s.data.toList.map UInt8.toNat)[i]? = some n := h
  obtain ⟨h1, _⟩ := List.getElem?_eq_some_iff.1 h
  rw [List.getElem?_map] at h2
  obtain ⟨x, hx, rfl⟩ := Option.map_eq_some_iff.1 h2
  exact ⟨by rw [V.nats_len] at h1; exact h1, by rw [List.getD_eq_getElem?_getD, hx]; rfl⟩
theorem or_join (p q : Nat) (p1 : (p : Int) ≤ 4294967295) (q1 : (q : Int) ≤ 4294967295) : bits .or .u64 (IntKind.u64.wrap (IntKind.u64.wrap (p : Int) * 4294967296)) (IntKind.u64.wrap (q : Int)) = ((p * 4294967296 + q : Nat) : Int) := by
  rw [IntWalk.u64_in (p : Int) (by omega), IntWalk.u64_in (q : Int) (by omega), IntWalk.u64_in ((p : Int) * 4294967296) (by omega), show (p : Int) * 4294967296 = ((p * 4294967296 : Nat) : Int) by omega, u64_or_nat _ _ (by omega) (by omega),
    nat_join 32 (p * 4294967296) q (by omega) (by omega)]
/-- no way out but these two -/
def ways (Q : Exit → Act → World → Prop) : Exit → Act → World → Prop
  | .normal, a, w => Q .normal a w
  | .ret, a, w => Q .ret a w
  | _, _, _ => False
theorem wpIn_ways {F : Fence} {n : Nat} {P : Program} {c : Code} {Q : Exit → Act → World → Prop} {a : Act} {w : World} (h : c.wpIn F n P (ways Q) a w) : c.wpIn F n P Q a w :=
  Code.wpIn_mono (fun e a w hq => by cases e <;> first | exact hq | exact hq.elim) h
theorem sum_is (s : ByteArray) (c : Int) (w : World) (hs : s.size ≤ 140737488355328) (h : Hid (((sumOf s : Nat) : Int) = c)) :
    Calls Try.prog 97 #[.string s] w fun e w' => e = .returned (.int .u32 c) ∧ Below w.heap.size w w' := by
  rw [← h.out]
  exact crcsum_any s w hs
theorem rev_row (s : ByteArray) : strOfNums ((V.nats s).reverse.map fun n : Nat => (n : Int)) = rev s := by
  unfold rev V.bytesOf strOfNums
  congr 1
  rw [List.map_map]
  rfl

set_option maxRecDepth 100000 in
set_option maxHeartbeats 4000000 in
theorem digest_in (s : ByteArray) (w : World) (hs : s.size ≤ 1000000) (d : Nat) (hd : Hid (digest s = d)) :
    CallsIn Fence.wide 6 Try.prog 40 #[.string s] w fun e W' => e = .returned (.int .u64 d) ∧ Below w.heap.size w W' := by
  obtain ⟨i0, hi0, hz0, hz1, hz2⟩ := info_parts u8Info
  have hro : (Fence.wide).round = none := rfl
  have h1 : 1 ≤ 6 := by decide
  have hcv := fun W => Lib.run_convert_string_bytes (P := Try.prog) W 9 127 5 s Try.underlying9 Try.underlying127 Try.underlying5
  have hmk := run_make_room (P := Try.prog) 127 5 (.int .u8 0) 1 Try.underlying127 u8Info rfl .i64 .i64 s.size (by omega) (by omega)
  refine callsIn_of_wp_marks Try.func40 rfl trivial ?_ hro
  simp only [Try.ntmps40, List.size_toArray, List.length_cons, List.length_nil, Nat.reduceAdd, Nat.reduceSub, Array.replicate_succ, Array.replicate_zero, List.push_toArray, List.append_toArray, List.nil_append, List.cons_append]
  gi_wp2_with (refine ⟨trivial, ?_⟩; gi_at_call 96; refine (callsIn_wide.2 (backB_any _ s.size _ _)).mono ?_; rintro e w' ⟨rfl, rfl⟩)
  obtain ⟨W1, hW1⟩ : ∃ W1, (w.alloc (.cells (madeCells #[.int .u8 0] s.size) 5)).alloc (.cells #[.slice (some ⟨w.heap.size, 0, none⟩) 0 s.size] 127) = W1 := ⟨_, rfl⟩
  have bO1 := Boxed.new (w.alloc (.cells (madeCells #[.int .u8 0] s.size) 5)) 127 (.slice (some ⟨w.heap.size, 0, none⟩) 0 s.size)
  have r0 : (w.alloc (.cells (madeCells #[.int .u8 0] s.size) 5)).ownsRow w.heap.size 5 1 (.slice (some ⟨w.heap.size, 0, none⟩) 0 s.size) 0 [] :=
    ⟨rfl, .inr ⟨w.heap.size, s.size, _, rfl, Nat.le_refl _, heap_alloc_new w _, Nat.zero_le _, by unfold maxLen; omega, by rw [size_madeCells, Nat.mul_one], by simp⟩⟩
  have r1 : W1.ownsRow w.heap.size 5 1 (.slice (some ⟨w.heap.size, 0, none⟩) 0 s.size) 0 [] := by rw [← hW1]; exact r0.alloc _
  have bel1 : Below w.heap.size w W1 := by rw [← hW1]; exact ((Below.refl _ w).alloc (Nat.le_refl _) _).alloc (by simp) _
  have z1 : W1.heap.size = w.heap.size + 1 + 1 := by rw [← hW1]; simp
  simp only [World.size_alloc] at bO1
  rw [hW1] at bO1
  rw [hW1]
  clear hW1 r0
  obtain ⟨c, hc⟩ : ∃ c, grownCap W1 s.size 0 5 = c := ⟨_, rfl⟩
  rw [hc]
  obtain ⟨WB, hWB⟩ : ∃ WB, Lib.bytesWorld W1 5 s = WB := ⟨_, rfl⟩
  have zB : WB.heap.size = w.heap.size + 1 + 1 + 1 := by rw [← hWB, Lib.bytesWorld_size, z1]
  have oldB : ∀ k, k < W1.heap.size → WB.heap[k]? = W1.heap[k]? := fun k hk => by rw [← hWB]; exact Lib.bytesWorld_at_old _ _ _ _ hk
  have newB : WB.heap[w.heap.size + 1 + 1]? = some (.cells (Lib.bytesCells W1 5 s) 5 ((Lib.bytesCells W1 5 s).size, (Lib.bytesCells W1 5 s).size + 1)) := by rw [← hWB, ← z1]; exact Lib.bytesWorld_at_new _ _ _
  have cellB : ∀ j, j < s.size → WB.cell? ⟨w.heap.size + 1 + 1, j, none⟩ = some (.int .u8 (s.data.toList.getD j 0).toNat) := fun j hj => by rw [← hWB, ← z1]; exact Lib.bytesWorld_cell _ _ _ _ hj
  have belB : Below w.heap.size w WB := by
    refine bel1.trans ?_
    rw [← hWB]
    exact ⟨rfl, rfl, rfl, by rw [Lib.bytesWorld_size]; omega, fun k hk => Lib.bytesWorld_at_old _ _ _ _ (by omega)⟩
  rw [hWB, zB]
  clear hWB
  have M0 : DMid w (WB.alloc (.cells #[.slice (some ⟨w.heap.size + 1 + 1, 0, none⟩) s.size c] 127)) s.size c (Lib.bytesCells W1 5 s) ((Lib.bytesCells W1 5 s).size, (Lib.bytesCells W1 5 s).size + 1) [] (.slice (some ⟨w.heap.size, 0, none⟩) 0 s.size) := by
    have bS := Boxed.new WB 127 (.slice (some ⟨w.heap.size + 1 + 1, 0, none⟩) s.size c)
    rw [zB] at bS
    have hx : ∀ k, k < W1.heap.size → (WB.alloc (.cells #[.slice (some ⟨w.heap.size + 1 + 1, 0, none⟩) s.size c] 127)).heap[k]? = W1.heap[k]? := fun k hk => (Below.heap_alloc _ _ _ (by omega)).trans (oldB k hk)
    refine ⟨(hx _ (by omega)).trans bO1, bS, ⟨r1.1, ?_⟩, (Below.heap_alloc _ _ _ (by omega)).trans newB, belB.alloc (by omega) _, by simp⟩
    rcases r1.2 with ⟨e, _⟩ | ⟨g, cap, cur, e, h1, hh, h2⟩
    · cases e
    · exact .inr ⟨g, cap, cur, e, h1, (hx g (Array.getElem?_eq_some_iff.1 hh).1).trans hh, h2⟩
  have hR : ReadsB (WB.alloc (.cells #[.slice (some ⟨w.heap.size + 1 + 1, 0, none⟩) s.size c] 127)) (w.heap.size + 1 + 1 + 1) (some ⟨w.heap.size + 1 + 1, 0, none⟩) (V.nats s) := fun _ => ⟨w.heap.size + 1 + 1, rfl, by omega, fun i n hi => by
    obtain ⟨q1, q2⟩ := getD_nats hi
    rw [← q2]
    exact (World.cell?_of_block (w := WB) (a := ⟨w.heap.size + 1 + 1, i, none⟩) (Below.heap_alloc _ _ _ (by show w.heap.size + 1 + 1 < _; omega))).trans (cellB i q1)⟩
  obtain ⟨W0, hW0⟩ : ∃ W0, WB.alloc (.cells #[.slice (some ⟨w.heap.size + 1 + 1, 0, none⟩) s.size c] 127) = W0 := ⟨_, rfl⟩
  have z0 : W0.heap.size = w.heap.size + 1 + 1 + 1 + 1 := by rw [← hW0]; simp; omega
  rw [hW0] at M0 hR
  rw [hW0]
  clear hW0 cellB belB oldB newB r1 bel1 bO1 zB z1 hc hcv hmk
  refine wpIn_rangeFunc_ownH hro h1 (gf := 131) (lb := #[.pointer (some ⟨w.heap.size + 1 + 1 + 1, 0, none⟩)]) rfl trivial (enters_of Try.func131 (by kernel_rfl) rfl)
    (backB_stops Fence.wide (6 - 1) trivial hro (by decide) (w.heap.size + 1 + 1 + 1) (w.heap.size + 1 + 1 + 1) s.size c (some ⟨w.heap.size + 1 + 1, 0, none⟩) (V.nats s) (V.nats_len s) hs W0 (by omega) M0.bS.cell (by omega) hR) Keeps.trans (keeps_b (w := W0) (fun k hk => by
      rcases List.mem_cons.1 hk with rfl | hk
      · omega
      · have : k = w.heap.size + 1 + 1 := by simpa [blk] using hk
        omega)) (Below.refl _ _) (fun _ => rfl)
    (fun pre W => ∃ v, DMid w W s.size c (Lib.bytesCells W1 5 s) ((Lib.bytesCells W1 5 s).size, (Lib.bytesCells W1 5 s).size + 1) (backL (V.nats s) pre) v)
    (fun _ _ _ => False)
    (fun pre X Y row hs hg hr => by obtain ⟨v, hs⟩ := hs; exact ⟨v, hs.kept hg (fun k e => ⟨by have := (hr k e).1; omega, (hr k e).2⟩)⟩)
    (fun _ _ _ _ _ hs _ _ => hs)
    ⟨_, M0⟩
    (fun x a' _ => a' = { tmps := #[.string s, undef, .int .u64 0, .pointer (some ⟨w.heap.size + 1, 0, none⟩), undef, .int .u8 ((V.nats s)[x] : Int), .string s, .int .i64 s.size, .slice (some ⟨w.heap.size, 0, none⟩) 0 s.size, .string s, .slice (some ⟨w.heap.size + 1 + 1, 0, none⟩) s.size c, .func (.func 131) #[] #[.pointer (some ⟨w.heap.size + 1 + 1 + 1, 0, none⟩)], .int .i64 (x.1 : Int), .int .u8 ((V.nats s)[x] : Int), undef, undef, undef, undef, undef, undef, undef, undef, undef, undef, undef, undef, undef], defers := [] })
    (fun x a' _ X Y row hs hg hr => hs)
    ?assign ?body ?done ?stop
  case assign =>
    rintro l pre x W K ⟨v, MD⟩ hK
    gi_wp2
    exact hK _ _ (KeepsFrom.refl _ _) (fun _ _ => rfl) ⟨v, MD⟩ rfl
  case body =>
    rintro l pre x a' W hl' ⟨r, hr⟩ ⟨v, MD⟩ rfl hlt
    have cO := MD.bO.cell
    have HMD := Lib.hid MD
    have hsn := Lib.hid (backL_snoc (V.nats s) pre x)
    obtain ⟨n, hn⟩ : ∃ n, (V.nats s)[x] = n := ⟨_, rfl⟩
    have hpl := Lib.hid (backL_len (V.nats s) pre)
    rw [hn] at hsn
    rw [hn]
    clear hl' hr MD hn
    gi_wp2_with (gi_at_builtin; refine wpListIn_append_own _ rfl _ _ 127 rfl w.heap.size 5 i0 _ 1 1 Try.underlying127 hi0 hz0 hz1 hz2 rfl (by decide) _ _ _ rfl (HMD.out.row.alloc _) ⟨W.heap.size, 0, none⟩ 1 1 [.int .u8 n] rfl rfl (cell_one_new _ _ _) (by simp [Value.oneCell']) (by have := hpl.out; unfold maxLen; omega) (by have := hpl.out; omega) (by have := HMD.out.bel.size; simp; omega) ?_; intro v' w2 hown' hgrow _; obtain ⟨g', cap', rfl⟩ := ownsRow_succ hown'; obtain ⟨MD2, hk2⟩ := HMD.out.appended hown' hgrow; have hv1 := (HMD.out.bO.alloc (.cells #[.int .u8 n] 5)).kept hgrow (HMD.out.bO.not_row (by decide) HMD.out.row); have hc1 := hv1.cell; have hf1 := hv1.frozen)
    refine ⟨hk2.from _, HMD.out.keeps MD2, ?_⟩
    dsimp only
    rw [hsn.out]
    exact ⟨_, MD2⟩
  case done =>
    rintro D ys W hD rfl ⟨v, MD⟩ hKd
    rw [backL_all] at MD
    have hc := MD.bO.cell
    have hl : (V.nats s).reverse.length = s.size := by rw [List.length_reverse, V.nats_len]
    have hrow := MD.row
    rw [hl] at hrow
    obtain ⟨A, c', rfl⟩ := own_form hrow
    have hconv : ∀ W', Below W.heap.size W W' → (convert 127 9 (.slice A s.size c')).run Try.prog W' = .ok (.string (rev s)) W' := fun W' hb => by
      rcases hrow.2 with ⟨e, e0⟩ | ⟨g, cap, cur, e, _, hh, _⟩
      · injection e with e1 e2 e3
        subst e1
        rw [run_convert_bytes_nil (P := Try.prog) W' 127 5 Try.underlying127 Try.underlying5 s.size c' 9 Try.underlying9]
        have : rev s = ByteArray.empty := ByteArray.size_eq_zero_iff.1 (by rw [rev_size]; exact e0)
        rw [this]
      · injection e with e1 e2 e3
        subst e1
        rw [run_convert_bytes_arg (P := Try.prog) W' 127 5 Try.underlying127 Try.underlying5 g 0 s.size c' ((V.nats s).reverse.map fun n : Nat => (n : Int)) (by rw [List.length_map, hl]) (fun i hi => ?_) 9 Try.underlying9, rev_row]
        have hlt : i < (V.nats s).reverse.length := by rw [hl]; exact hi
        have q := hrow.cells (g := g) rfl i (.int .u8 ((V.nats s).reverse[i] : Int)) (by unfold rowB; rw [List.getElem?_map, List.getElem?_eq_getElem hlt]; rfl)
        rw [addr_add] at q
        rw [Nat.zero_add]
        refine (World.cell?_of_block (w := W) (a := ⟨g, i, none⟩) (hb.block g (Array.getElem?_eq_some_iff.1 hh).1)).trans (q.trans ?_)
        rw [List.getD_eq_getElem?_getD, List.getElem?_map, List.getElem?_eq_getElem hlt]; rfl
    have g0 := hconv W (Below.refl _ _)
    have gd := hconv W.drew (Below.refl _ _).drew
    have HMD := Lib.hid MD
    have HCV := Lib.hid hconv
    have Z0 := Lib.hid z0
    clear MD hrow hconv hR z0 M0
    obtain ⟨p, hp⟩ : ∃ p : Nat, sumOf s = p := ⟨_, rfl⟩
    obtain ⟨q, hq⟩ : ∃ q : Nat, sumOf (rev s) = q := ⟨_, rfl⟩
    have p1 : (p : Int) ≤ 4294967295 := by have := sumOf_lt s; omega
    have q1 : (q : Int) ≤ 4294967295 := by have := sumOf_lt (rev s); omega
    have HP : Hid (((sumOf s : Nat) : Int) = (p : Int)) := Lib.hid (by rw [hp])
    have HQ : Hid (((sumOf (rev s) : Nat) : Int) = (q : Int)) := Lib.hid (by rw [hq])
    have rs : (rev s).size ≤ 1000000 := by rw [rev_size]; exact hs
    have HD2 : Hid (p * 4294967296 + q = d) := Lib.hid (by rw [← hd.out, ← hp, ← hq]; rfl)
    clear hp hq
    have HLT : Hid (w.heap.size + 1 < W.heap.size) := Lib.hid HMD.out.bO.lt
    gi_wp2
    refine wpIn_ways ?_
    gi_region_with (first
      | (refine ⟨trivial, ?_⟩; gi_at_call 97; refine (callsIn_wide.2 (sum_is s (p : Int) _ (by omega) HP)).mono ?_; rintro e w1 ⟨rfl, hb1⟩; have hx1 : Below W.heap.size W w1 := (Below.refl _ _).drew.trans hb1; have hc1 := (hx1.cell (p := ⟨w.heap.size + 1, 0, none⟩) HLT.out).trans hc; have g1 := HCV.out w1 hx1)
      | (refine ⟨trivial, ?_⟩; gi_at_call 97; refine (callsIn_wide.2 (sum_is (rev s) (q : Int) _ (by omega) HQ)).mono ?_; rintro e w2 ⟨rfl, hb2⟩))
    all_goals
      simp only [ways]
      have hx2 : Below W.heap.size W w2 := hx1.trans (hb2.mono hx1.size)
      have hKd2 : w2.heap[D]? = some (.deferred (some [])) := (hx2.block D (Array.getElem?_eq_some_iff.1 hKd).1).trans hKd
      have hjoin := or_join p q p1 q1
      rw [HD2.out] at hjoin
      rw [hjoin]
      gi_wp2
      refine ⟨by simp, .inl ⟨_, _, rfl, run_takeDeferred hKd2, ?_⟩⟩
      refine ⟨_, results_tmp rfl _ _ _, rfl, ?_⟩
      exact (HMD.out.bel.trans (hx2.mono HMD.out.bel.size)).grown (grownBy_putObj' w2 D (.deferred none)) (by have := HMD.out.bel.size; have := hx2.size; omega) (fun k e => by injection e with e; have := Z0.out; omega)
  case stop =>
    rintro D c pre W _ _ h _
    exact h.elim
theorem digest_is (s : ByteArray) (d : Nat) (w : World) (hs : s.size ≤ 1000000) (hd : Hid (digest s = d)) :
    Calls Try.prog 40 #[.string s] w fun e w' => e = .returned (.int .u64 d) ∧ Below w.heap.size w w' := callsIn_wide.1 (digest_in s w hs d hd)
end Go.Proofs.Ytlemcijgjebekaa.L7
