/-
  Contracts: a log of segments that are there already; an empty one.
-/
import Derived.Test.YtflcggpeflagiaaMPlMath
namespace Go.Proofs.Ytflcggpeflagiaa.L6
open Go.RowKit
open L3 L4 L5

/-- Load's error, from a segment on -/
def loadG (room : Nat) : Option Int → List Sg → Int
  | _, [] => 0
  | q, s :: t => if loadE s.b s.n s.L ≠ 0 then loadE s.b s.n s.L else if room < s.L.length ∨ (∃ x, q = some x ∧ s.b ≠ x) then 1 else loadG room (some s.n) t
/-- Load's error -/
def loadE6 (room : Int) (l : List Sg) : Int := if room < 1 ∨ 64 < room ∨ l = [] then 1 else loadG room.toNat none l
theorem loadG_good {room : Nat} : ∀ {q : Option Int} {l : List Sg}, loadG room q l = 0 → (∀ s ∈ l, L5.Good s.b s.n s.L) ∧ (∀ s ∈ l, s.L.length ≤ room) ∧ chained q l
  | _, [], _ => ⟨fun s hs => by simp at hs, fun s hs => by simp at hs, trivial⟩
  | q, s :: t, h => by
    unfold loadG at h
    split at h
    · rename_i hc; exact absurd h hc
    · rename_i hc
      split at h
      · simp at h
      · rename_i hd
        obtain ⟨h1, h2, h3⟩ := loadG_good h
        refine ⟨fun u hu => ?_, fun u hu => ?_, fun x hx => ?_, h3⟩
        · rcases List.mem_cons.1 hu with rfl | hu
          · exact load_good (by simpa using hc)
          · exact h1 u hu
        · rcases List.mem_cons.1 hu with rfl | hu
          · exact Nat.le_of_not_lt (fun q => hd (.inl q))
          · exact h2 u hu
        · cases Classical.em (s.b = x) with
          | inl e => exact e
          | inr e => exact absurd (.inr ⟨x, hx, e⟩) hd
/-- a segment that came in -/
structure Sa where
  b : Int
  n : Int
  A : Option Addr
  c : Nat
  L : List L4.Fd
def Sa.s (x : Sa) : Sg := ⟨x.b, x.n, x.L⟩
def ReadsS (w : World) (B : Nat) (X : Option Addr) (l : List Sa) : Prop :=
  (0 < l.length → ∃ g, X = some ⟨g, 0, none⟩ ∧ g < B ∧ ∀ i r, l[i]? = some r → w.cell? ⟨g, i * 3, none⟩ = some (.int .i64 r.b) ∧ w.cell? ⟨g, i * 3 + 1, none⟩ = some (.int .i64 r.n) ∧ w.cell? ⟨g, i * 3 + 2, none⟩ = some (.slice r.A r.L.length r.c)) ∧ ∀ r ∈ l, ReadsF w B r.A r.L
theorem readsF_below {w w' : World} {B : Nat} {A : Option Addr} {l : List L4.Fd} (h : ReadsF w B A l) (hb : Below B w w') : ReadsF w' B A l := fun h0 => by
  obtain ⟨g, e, hg, hc⟩ := h h0
  refine ⟨g, e, hg, fun i r hr => ?_⟩
  obtain ⟨c0, c1, c2, c3, c4⟩ := hc i r hr
  exact ⟨(hb.cell (p := ⟨g, i * 5, none⟩) hg).trans c0, (hb.cell (p := ⟨g, i * 5 + 1, none⟩) hg).trans c1, (hb.cell (p := ⟨g, i * 5 + 2, none⟩) hg).trans c2, (hb.cell (p := ⟨g, i * 5 + 3, none⟩) hg).trans c3, (hb.cell (p := ⟨g, i * 5 + 4, none⟩) hg).trans c4⟩
theorem ReadsS.below {w w' : World} {B : Nat} {X : Option Addr} {l : List Sa} (h : ReadsS w B X l) (hb : Below B w w') : ReadsS w' B X l := by
  refine ⟨fun h0 => ?_, fun r hr => readsF_below (h.2 r hr) hb⟩
  obtain ⟨g, e, hg, hc⟩ := h.1 h0
  refine ⟨g, e, hg, fun i r hr => ?_⟩
  obtain ⟨c0, c1, c2⟩ := hc i r hr
  exact ⟨(hb.cell (p := ⟨g, i * 3, none⟩) hg).trans c0, (hb.cell (p := ⟨g, i * 3 + 1, none⟩) hg).trans c1, (hb.cell (p := ⟨g, i * 3 + 2, none⟩) hg).trans c2⟩

/-! ### one segment more -/
theorem ptrInfo : (Try.prog.info? 67).map (fun i => (i.zero, i.size, i.bytes)) = some (some (.pointer none), 1, 8) := by kernel_rfl
section
variable {W w2 : World} {room g cap : Nat} {P : Option Addr} {ps : List Pl} {p : Pl} {gg cc : Nat} {o : Obj}
theorem blocks_snoc : blocks g P (ps ++ [p]) = blocks g P ps ++ p.bs := by
  unfold blocks
  simp [List.flatMap_append]
theorem PLog.grownRow {n : Nat} (hn : ps.length = n) (h : PLog W room g P cap ps) (hgrow : (W.alloc o).grownBy w2 (Value.slice P n cap).ownBlock) : w2.heap[g]? = some (.cells #[.int .i64 room, .slice P n cap] 65 (0, 0)) := by
  subst hn
  rw [ownBlock_blk] at hgrow
  have hg := h.lt g (mem_blocks.2 (.inl rfl))
  have hnd := h.nodup
  have hgP : blk P ≠ some g := fun e => by
    unfold blocks at hnd
    exact (List.nodup_cons.1 hnd).1 (by simp [e])
  exact (hgrow.block g (by rw [World.size_alloc]; omega) (fun e => hgP e.symm)).trans ((Below.heap_alloc _ _ _ hg).trans h.row)
/-- behind an append to the pointers and the store of the longer slice -/
theorem PLog.added {n : Nat} (hn : ps.length = n) (h : PLog W room g P cap ps) (hs : Seg 93 W p.g p.A p.c p.s.b p.s.n p.s.L) (hd : ∀ k ∈ p.bs, k ∉ blocks g P ps)
    (ho : w2.ownsRow 0 67 1 (.slice (some ⟨gg, 0, none⟩) (n + 1) cc) (n + 1) (ptrs ps ++ [.pointer (some ⟨p.g, 0, none⟩)])) (hgrow : (W.alloc o).grownBy w2 (Value.slice P n cap).ownBlock) (hat : (Value.slice P n cap).ownBlock = some gg ∨ gg = W.heap.size + 1) :
    PLog (w2.setCell ⟨g, 1, none⟩ (.slice (some ⟨gg, 0, none⟩) (n + 1) cc)) room g (some ⟨gg, 0, none⟩) cc (ps ++ [p]) ∧ Only (g :: (blk P).toList) W (w2.setCell ⟨g, 1, none⟩ (.slice (some ⟨gg, 0, none⟩) (n + 1) cc)) ∧ (blk P = some gg ∨ W.heap.size ≤ gg) := by
  subst hn
  rw [ownBlock_blk] at hgrow hat
  have hlt := h.lt
  have hg := hlt g (mem_blocks.2 (.inl rfl))
  have hnd := h.nodup
  have hgP : blk P ≠ some g := fun e => by
    unfold blocks at hnd
    exact (List.nodup_cons.1 hnd).1 (by simp [e])
  have hgg : gg ≠ g := fun e => by
    rcases hat with q | q
    · exact hgP (by rw [q, e])
    · omega
  have hon : Only (g :: (blk P).toList) W (w2.setCell ⟨g, 1, none⟩ (.slice (some ⟨gg, 0, none⟩) (ps.length + 1) cc)) := by
    have h0 : Only (g :: (blk P).toList) W w2 := by
      refine ⟨hgrow.os, hgrow.tape, hgrow.output, ?_, fun k hk hn => ?_⟩
      · have := hgrow.size; simp at this; omega
      · exact (hgrow.block k (by rw [World.size_alloc]; omega) (fun e => hn (by rw [← e]; simp))).trans (Below.heap_alloc _ _ _ hk)
    exact h0.setCell (p := ⟨g, 1, none⟩) (.inl List.mem_cons_self) _
  have hpt : ptrs (ps ++ [p]) = ptrs ps ++ [.pointer (some ⟨p.g, 0, none⟩)] := by simp [ptrs]
  have hl : (ps ++ [p]).length = ps.length + 1 := by simp
  refine ⟨⟨?_, ?_, fun q hq => ?_, ?_⟩, hon, ?_⟩
  · rw [hl]
    have hrow := (hgrow.block g (by rw [World.size_alloc]; omega) (fun e => hgP e.symm)).trans ((Below.heap_alloc _ _ _ hg).trans h.row)
    exact heap_setCell_same w2 g 1 _ _ _ hrow
  · rw [hl, hpt]
    exact own_at ho (fun k e => Below.heap_setCell _ _ _ _ (by
      have : gg = k := by injection e
      subst this; exact hgg))
  · rcases List.mem_append.1 hq with hq | hq
    · have hb := bs_sub (g := g) (P := P) hq
      have hqn : ∀ k ∈ q.bs, k ∉ g :: (blk P).toList := fun k hk hm => by
        unfold blocks at hnd
        rw [← List.cons_append] at hnd
        exact (List.nodup_append.1 hnd).2.2 k hm k (List.mem_flatMap.2 ⟨q, hq, hk⟩) rfl
      exact (h.segs q hq).kept (hon.block q.g (hlt q.g (hb q.g (by simp [Pl.bs]))) (hqn q.g (by simp [Pl.bs]))) (fun k e => hon.block k (hlt k (hb k (by simp [Pl.bs, e]))) (hqn k (by simp [Pl.bs, e])))
    · rw [List.mem_singleton.1 hq]
      have hpn : ∀ k ∈ p.bs, k ∉ g :: (blk P).toList := fun k hk hm => hd k hk (by
        unfold blocks
        rw [← List.cons_append]; exact List.mem_append_left _ hm)
      exact hs.kept (hon.block p.g hs.lt (hpn p.g (by simp [Pl.bs]))) (fun k e => hon.block k (hs.blkLt k e) (hpn k (by simp [Pl.bs, e])))
  · rw [blocks_snoc]
    have hgg' : gg ∉ ps.flatMap Pl.bs := fun hm => by
      rcases hat with q | q
      · unfold blocks at hnd
        have := (List.nodup_append.1 (List.nodup_cons.1 hnd).2).2.2 gg (by simp [q]) gg hm
        exact this rfl
      · have := hlt gg (by unfold blocks; simp [hm]); omega
    have hgp : gg ∉ p.bs := fun hm => by
      rcases hat with q | q
      · exact hd gg hm (mem_blocks.2 (.inr (.inl q)))
      · rcases List.mem_cons.1 hm with e | e
        · have := hs.lt; omega
        · have := hs.blkLt gg (by simpa [Option.mem_toList] using e); omega
    refine List.nodup_append.2 ⟨?_, ?_, fun x hx y hy e => ?_⟩
    · unfold blocks at hnd ⊢
      obtain ⟨n1, n2⟩ := List.nodup_cons.1 hnd
      refine List.nodup_cons.2 ⟨fun hm => ?_, ?_⟩
      · rcases List.mem_append.1 hm with hm | hm
        · have : g = gg := by simpa [blk] using hm
          exact hgg this.symm
        · exact n1 (List.mem_append_right _ hm)
      · refine List.nodup_append.2 ⟨by simp [blk], (List.nodup_append.1 n2).2.1, fun x hx y hy e => ?_⟩
        subst e
        have : x = gg := by simpa [blk] using hx
        subst this
        exact hgg' hy
    · unfold Pl.bs
      cases hA : blk p.A with
      | none => simp
      | some j =>
        have := hs.ne
        rw [hA] at this
        simp
        intro e; exact this (by rw [e])
    · subst e
      rcases mem_blocks.1 hx with rfl | e | ⟨q, hq, e⟩
      · exact hd _ hy (mem_blocks.2 (.inl rfl))
      · have : gg = x := by simpa [blk] using e
        subst this
        exact hgp hy
      · exact hd x hy (mem_blocks.2 (.inr (.inr ⟨q, hq, e⟩)))
  · rcases hat with q | q
    · exact .inl q
    · exact .inr (by omega)
theorem added_new (h : blk P = some gg ∨ W.heap.size ≤ gg) : ∀ k ∈ blocks g (some ⟨gg, 0, none⟩) (ps ++ [p]), k ∈ blocks g P ps ∨ k ∈ p.bs ∨ W.heap.size ≤ k := fun k hk => by
  rw [blocks_snoc] at hk
  rcases List.mem_append.1 hk with hk | hk
  · rcases mem_blocks.1 hk with rfl | e | e
    · exact .inl (mem_blocks.2 (.inl rfl))
    · have : gg = k := by simpa [blk] using e
      subst this
      rcases h with q | q
      · exact .inl (mem_blocks.2 (.inr (.inl q)))
      · exact .inr (.inr q)
    · exact .inl (mem_blocks.2 (.inr (.inr e)))
  · exact .inr (.inl hk)
end
end Go.Proofs.Ytflcggpeflagiaa.L6
/-
  Contracts: a log of segments that are there already; an empty one.
-/
namespace Go.Proofs.Ytflcggpeflagiaa.L6
open Go.RowKit
open L3 L4 L5

/-- what Load and New tell -/
def NewL (w : World) (room : Nat) (x : Int) (l : List Sg) (e : Ending) (w' : World) : Prop :=
  (x ≠ 0 ∧ e = .returned (.tuple #[.pointer none, .int .i64 x]) ∧ Below w.heap.size w w') ∨ (x = 0 ∧ ∃ g S, e = .returned (.tuple #[.pointer (some ⟨g, 0, none⟩), .int .i64 0]) ∧ LogAt w w' room g l S)
/-- the end of the one ahead -/
def prevN (l : List Sa) : Nat → Option Int
  | 0 => none
  | k + 1 => (l[k]?).map (·.n)
theorem loadG_next {rm : Nat} {l : List Sa} {k : Nat} {s : Sa} (h : l[k]? = some s) : loadG rm (prevN l k) ((l.drop k).map Sa.s) = if loadE s.b s.n s.L ≠ 0 then loadE s.b s.n s.L else if rm < s.L.length ∨ (∃ x, prevN l k = some x ∧ s.b ≠ x) then 1 else loadG rm (prevN l (k + 1)) ((l.drop (k + 1)).map Sa.s) := by
  obtain ⟨hlt, hl⟩ := List.getElem?_eq_some_iff.1 h
  have e : prevN l (k + 1) = some s.n := by show (l[k]?).map _ = _; rw [h]; rfl
  rw [List.drop_eq_getElem_cons hlt, hl, e, List.map_cons]
  rfl
structure LoadR (w : World) (rm : Nat) (l : List Sa) (x : Int) (k : Nat) (wr : World) (P : Option Addr) (cap : Nat) (ps : List Pl) : Prop where
  len : ps.length = k
  same : ps.map (·.s) = (l.take k).map Sa.s
  log : PLog wr rm w.heap.size P cap ps
  since : ∀ b ∈ blocks w.heap.size P ps, w.heap.size ≤ b
  old : Below w.heap.size w wr
  err : loadG rm (prevN l k) ((l.drop k).map Sa.s) = x
theorem LoadR.below {w wr w' : World} {rm k : Nat} {l : List Sa} {x : Int} {P : Option Addr} {cap : Nat} {ps : List Pl} (r : LoadR w rm l x k wr P cap ps) (b : Below wr.heap.size wr w') : LoadR w rm l x k w' P cap ps :=
  ⟨r.len, r.same, r.log.below b, r.since, acc r.old b, r.err⟩
theorem LoadR.more {w wr w1 w2 w3 : World} {rm k : Nat} {l : List Sa} {x : Int} {P : Option Addr} {cap : Nat} {ps : List Pl} {s : Sa} {g1 c1 gg cc : Nat} {A1 : Option Addr} {o : Obj} (r : LoadR w rm l x k wr P cap ps) (h : l[k]? = some s) (hb1 : Below wr.heap.size wr w1) (hf : Fresh 93 w1 g1 A1 c1 s.b s.n s.L w2) (hb2 : Below w1.heap.size w1 w2)
    (he : loadG rm (prevN l (k + 1)) ((l.drop (k + 1)).map Sa.s) = x)
    (ho : w3.ownsRow 0 67 1 (.slice (some ⟨gg, 0, none⟩) (k + 1) cc) (k + 1) (ptrs ps ++ [.pointer (some ⟨g1, 0, none⟩)])) (hgrow : (w2.alloc o).grownBy w3 (Value.slice P k cap).ownBlock) (hat : (Value.slice P k cap).ownBlock = some gg ∨ gg = w2.heap.size + 1) :
    LoadR w rm l x (k + 1) (w3.setCell ⟨w.heap.size, 1, none⟩ (.slice (some ⟨gg, 0, none⟩) (k + 1) cc)) (some ⟨gg, 0, none⟩) cc (ps ++ [⟨g1, A1, c1, s.s⟩]) := by
  have r2 := r.below (acc hb1 hb2)
  obtain ⟨f1, f2, f3⟩ := hf
  have hz := hb1.size
  have hlt := r.log.lt
  have hnew : ∀ b ∈ (⟨g1, A1, c1, s.s⟩ : Pl).bs, wr.heap.size ≤ b := fun b hb => by
    rcases List.mem_cons.1 hb with e | e
    · have : b = g1 := e
      omega
    · have := f3 b (by simpa [Option.mem_toList] using e); omega
  obtain ⟨q1, q2, q3⟩ := PLog.added (p := ⟨g1, A1, c1, s.s⟩) r.len r2.log f1 (fun b hb hm => by have := hlt b hm; have := hnew b hb; omega) ho hgrow hat
  have hzw := r.old.size
  have hz2 := (acc hb1 hb2).size
  refine ⟨by rw [List.length_append, r.len]; rfl, ?_, q1, fun b hb => ?_, r2.old.trans (q2.below r2.old.size (fun b hb => r.since b ?_)), he⟩
  · rw [List.map_append, r.same, List.take_add_one, h, List.map_append]; rfl
  · rcases added_new q3 b hb with e | e | e
    · exact r.since b e
    · have := hnew b e; omega
    · omega
  · unfold blocks
    rw [← List.cons_append]
    exact List.mem_append_left _ hb
theorem len6_is {T : TypeId} {w : World} {g : Nat} {A : Option Addr} {cap n : Nat} {base next : Int} {L : List L4.Fd} (h : Hid (Seg T w g A cap base next L)) (hn : L.length = n) :
    Calls Try.prog 27 #[.pointer (some ⟨g, 0, none⟩)] w fun e w' => e = .returned (.int .i64 n) ∧ w' = w := by
  subst hn; exact (len_is h).mono (fun _ _ ⟨a, b⟩ => ⟨a, b.symm⟩)
theorem loadseg_no {w : World} {A : Option Addr} {L : List L4.Fd} (b n : Int) (c B m : Nat) (y : Int) (hR : Hid (ReadsF w B A L)) (hB : B ≤ w.heap.size) (hm : L.length = m) (hl : m ≤ maxLen) (hs : Hid (∀ f ∈ L, f.r.key.size ≤ maxLen ∧ f.r.val.size ≤ maxLen)) (HX : Hid (loadE b n L = y)) (hy : y ≠ 0) :
    Calls Try.prog 49 #[.int .i64 b, .int .i64 n, .slice A m c] w fun e w' => e = .returned (.tuple #[.pointer none, .int .i64 y]) ∧ Below w.heap.size w w' := by
  subst hm
  refine (load_is b n A L c B y w hR hB hl hs HX).mono ?_
  rintro e W' ⟨h, ⟨_, rfl⟩ | ⟨h0, _⟩⟩
  · exact ⟨rfl, h⟩
  · exact absurd h0 hy
theorem loadseg_yes {w : World} {A : Option Addr} {L : List L4.Fd} (b n : Int) (c B m : Nat) (hR : Hid (ReadsF w B A L)) (hB : B ≤ w.heap.size) (hm : L.length = m) (hl : m ≤ maxLen) (hs : Hid (∀ f ∈ L, f.r.key.size ≤ maxLen ∧ f.r.val.size ≤ maxLen)) (HX : Hid (loadE b n L = 0)) :
    Calls Try.prog 49 #[.int .i64 b, .int .i64 n, .slice A m c] w fun e w' => ∃ g1 A1 c1, e = .returned (.tuple #[.pointer (some ⟨g1, 0, none⟩), .int .i64 0]) ∧ Fresh 93 w g1 A1 c1 b n L w' ∧ Below w.heap.size w w' := by
  subst hm
  refine (load_is b n A L c B 0 w hR hB hl hs HX).mono ?_
  rintro e W' ⟨h, ⟨hx, _⟩ | ⟨_, g, A, cap, rfl, hf⟩⟩
  · exact absurd rfl hx
  · exact ⟨g, A, cap, rfl, hf, h⟩

set_option maxRecDepth 100000 in
set_option maxHeartbeats 2000000 in
theorem load6_arg (room : Int) (X : Option Addr) (n xc : Nat) (w : World) (hbad : Hid (room < 1 ∨ 64 < room ∨ n = 0)) :
    Calls Try.prog 21 #[.int .i64 room, .slice X n xc] w fun e w' => e = .returned (.tuple #[.pointer none, .int .i64 1]) ∧ Below w.heap.size w w' := by
  go_enter Try.func21, Try.ntmps21
  by_cases h1 : room < 1
  · go_wp2_with fail
    go_ret2
    exact ⟨rfl, Below.refl _ _⟩
  · by_cases h2 : 64 < room
    · go_wp2_with fail
      go_ret2
      exact ⟨rfl, Below.refl _ _⟩
    · obtain rfl : n = 0 := by have := hbad.out; omega
      go_wp2_with fail
      go_ret2
      exact ⟨rfl, Below.refl _ _⟩

set_option maxRecDepth 100000 in
set_option maxHeartbeats 8000000 in
theorem load6_run (rm : Nat) (X : Option Addr) (l : List Sa) (n xc B : Nat) (x : Int) (w : World) (hR : Hid (ReadsS w B X l)) (hB : B ≤ w.heap.size) (hn : l.length = n) (h1 : 1 ≤ rm) (h64 : rm ≤ 64) (h0 : 0 < n) (hl : n ≤ 1000) (hs : Hid (∀ s ∈ l, s.L.length ≤ maxLen ∧ ∀ f ∈ s.L, f.r.key.size ≤ maxLen ∧ f.r.val.size ≤ maxLen)) (HX : Hid (loadG rm none (l.map Sa.s) = x)) :
    Calls Try.prog 21 #[.int .i64 rm, .slice X n xc] w (NewL w rm x (l.map Sa.s)) := by
  obtain ⟨i0, hi0, hz0, hz1, hz2⟩ := info_parts ptrInfo
  have HN := Lib.hid hn
  have hn0 : ((n : Int) == 0) = false := by simp; omega
  have r1 : ¬ (rm : Int) < 1 := by omega
  have r2 : ¬ (64 : Int) < (rm : Int) := by omega
  clear hn
  go_enter Try.func21, Try.ntmps21
  go_wp2_with fail
  go_loopw [27] (fun i wr => ∃ (k : Nat) (P : Option Addr) (cap : Nat) (ps : List Pl), k ≤ n ∧ i = .int .i64 k ∧ Hid (LoadR w rm l x k wr P cap ps)) (fun i _ => n - (intOf i).toNat)
  case atStart => exact ⟨0, none, 0, [], by omega, rfl, Lib.hid ⟨rfl, rfl, ⟨heap_alloc_new _ _, World.ownsRow_nil _ _ _ _, fun p hp => (by simp at hp), by simp [blocks, blk]⟩, fun b hb => by simp [blocks, blk] at hb; omega, one_box _, HX.out⟩⟩
  case round =>
    obtain ⟨k, P, cap, ps, hk, rfl, hr⟩ := hrel
    have hold := hr.out.old
    have hz := hold.size
    by_cases hlt : k < n
    · obtain ⟨xg, rfl, hxg, hcells⟩ := hR.out.1 (by rw [HN.out]; omega)
      obtain ⟨⟨sb, sn, sA, sc, sL⟩, hsg⟩ : ∃ s, l[k]? = some s := ⟨_, List.getElem?_eq_getElem (by rw [HN.out]; exact hlt)⟩
      obtain ⟨c0, c1, c2⟩ := hcells k _ hsg
      have hxw : xg < w.heap.size := Nat.lt_of_lt_of_le hxg hB
      have d0 := (hold.cell (p := ⟨xg, k * 3, none⟩) hxw).trans c0
      have d1 := (hold.cell (p := ⟨xg, k * 3 + 1, none⟩) hxw).trans c1
      have d2 := (hold.cell (p := ⟨xg, k * 3 + 2, none⟩) hxw).trans c2
      have hRF := hR.out.2 _ (List.mem_of_getElem? hsg)
      obtain ⟨hlm, hsm⟩ := hs.out _ (List.mem_of_getElem? hsg)
      dsimp only at d0 d1 d2 hRF hlm hsm
      obtain ⟨m, hm⟩ : ∃ m, sL.length = m := ⟨_, rfl⟩
      rw [hm] at d2 hlm
      have HM := Lib.hid hm
      have HSM := Lib.hid hsm
      have HRF := Lib.hid (readsF_below (hRF) ((hold.mono hB).trans ((one_box (w := wr) (.cells #[.int .i64 sb, .int .i64 sn, .slice sA m sc] 53)).mono (by omega))))
      have hBz : B ≤ (wr.alloc (.cells #[.int .i64 sb, .int .i64 sn, .slice sA m sc] 53)).heap.size := by rw [World.size_alloc]; omega
      have HBZ := Lib.hid hBz
      have HSG := Lib.hid hsg
      have k0 : (0 : Int) ≤ (k : Int) := by omega
      have k1 : (k : Int) < (n : Int) := by omega
      obtain ⟨y, hy⟩ : ∃ y, loadE sb sn sL = y := ⟨_, rfl⟩
      have hnx := loadG_next (rm := rm) hsg
      rw [hr.out.err] at hnx
      dsimp only at hnx
      rw [hy] at hnx
      have HY := Lib.hid hy
      have HNX := Lib.hid hnx
      have HLM := Lib.hid hlm
      have HCL := Lib.hid hcells
      clear c0 c1 c2 hcells hm hsm hRF hBz hsg hy hnx hlm hold
      by_cases hy0 : y = 0
      · subst hy0
        have HNX2 : Hid (x = if rm < sL.length ∨ (∃ x, prevN l k = some x ∧ sb ≠ x) then 1 else loadG rm (prevN l (k + 1)) ((l.drop (k + 1)).map Sa.s)) := Lib.hid (by have := HNX.out; rwa [if_neg (by simp)] at this)
        clear HNX
        by_cases hlr : rm < m
        · have hx : x = 1 := by have := HNX2.out; rwa [if_pos (.inl (by rw [HM.out]; exact hlr))] at this
          subst hx
          have t1 : decide ((rm : Int) < (m : Int)) = true := decide_eq_true (by omega)
          have t2 : decide (rm < m) = true := decide_eq_true hlr
          clear HNX2
          go_wp2_with (go_at_call 49; refine (loadseg_yes sb sn sc B m HRF HBZ.out HM.out HLM.out HSM HY).mono ?_; rintro e w1 ⟨g1, A1, c1, rfl, hf1, hb1⟩; have q0 := hb1.cell (p := ⟨wr.heap.size, 0, none⟩) (by simp); simp at q0; skip; have SG := Lib.hid hf1.1; have HF := Lib.hid hf1; have HB1 := Lib.hid hb1; clear hf1 hb1)
          go_quiet ((go_at_call 27; exact Calls.quiet_of_same (len6_is (Lib.hid (SG.out.below (drewN_below (Below.refl _ _) _))) HM.out)))
          go_wp2_with fail
          go_ret2
          exact .inl ⟨by decide, rfl, drewN_below (acc (acc hr.out.old (one_box _)) HB1.out) _⟩
        · have t1 : decide ((rm : Int) < (m : Int)) = false := decide_eq_false (by omega)
          have t2 : decide (rm < m) = false := decide_eq_false hlr
          by_cases hk0 : k = 0
          · have u1 : decide ((0 : Int) < (k : Int)) = false := decide_eq_false (by omega)
            have u2 : decide (0 < k) = false := decide_eq_false (by omega)
            have hx : loadG rm (prevN l (k + 1)) ((l.drop (k + 1)).map Sa.s) = x := by
              have := HNX2.out
              rw [if_neg (by rw [HM.out, hk0]; rintro (q | ⟨z, q, _⟩); exact hlr q; cases q)] at this
              exact this.symm
            have HE := Lib.hid hx
            clear HNX2 hx hk0
            go_wp2_with (go_at_call 49; refine (loadseg_yes sb sn sc B m HRF HBZ.out HM.out HLM.out HSM HY).mono ?_; rintro e w1 ⟨g1, A1, c1, rfl, hf1, hb1⟩; have q0 := hb1.cell (p := ⟨wr.heap.size, 0, none⟩) (by simp); simp at q0; skip; have SG := Lib.hid hf1.1; have HF := Lib.hid hf1; have HB1 := Lib.hid hb1; clear hf1 hb1)
            go_quiet ((go_at_call 27; exact Calls.quiet_of_same (len6_is (Lib.hid (SG.out.below (drewN_below (Below.refl _ _) _))) HM.out)))
            generalize hW2 : w1.drewN _ = W2
            have HB2 : Below w1.heap.size w1 W2 := by rw [← hW2]; exact drewN_below (Below.refl _ _) _
            have hr2 := (hr.out.below (one_box (.cells #[.int .i64 sb, .int .i64 sn, .slice sA m sc] 53))).below (HB1.out.trans (HB2.mono HB1.out.size))
            have HF2 : Hid (Fresh 93 (wr.alloc (.cells #[.int .i64 sb, .int .i64 sn, .slice sA m sc] 53)) g1 A1 c1 sb sn sL W2) := Lib.hid ⟨HF.out.1.below HB2, HF.out.2⟩
            have x1 := hr2.log.c1
            rw [hr2.len] at x1
            have HO := Lib.hid (hr2.log.own)
            rw [hr2.len] at HO
            have HL2 := Lib.hid hr2.log
            have HLEN := Lib.hid hr2.len
            have hk2 := hr2.len
            clear hW2 hr2 hk2
            go_wp2_with (at_builtin; refine wpList_append_lies _ rfl _ _ 63 (by rfl) 0 67 i0 _ 1 8 Try.underlying63 hi0 hz0 hz1 hz2 rfl (by omega) (.slice P k cap) k (ptrs ps) (by rfl) (HO.out.alloc _) ⟨W2.heap.size, 0, none⟩ 1 1 [.pointer (some ⟨g1, 0, none⟩)] (by rfl) (by rfl) (World.news_of_block (cs := #[.pointer (some ⟨g1, 0, none⟩)]) (t := 67) (fr := (0, 0)) (heap_alloc_new W2 _)) (by simp [Value.oneCell']) (by omega) (by unfold maxLen; omega) (by omega) (Nat.zero_le _) (W2.heap.size + 1) (by simp) ?_; intro gg cc w3 hown3 hgrow hat hltg; have hrow := HL2.out.grownRow HLEN.out hgrow; have y2 := (cell_of_row _ _ 1 _ _ _ hrow).trans rfl; have y3 := frozen_of_row _ _ 1 _ _ hrow; clear hrow)
            go_roundw
            case rel => exact ⟨k + 1, some ⟨gg, 0, none⟩, cc, _, by omega, by go_num, Lib.hid (hr.out.more HSG.out (one_box _) HF2.out (HB1.out.trans (HB2.mono HB1.out.size)) HE.out hown3 hgrow hat)⟩
            case measure => simp [intOf]; omega
          · obtain ⟨q, hq⟩ : ∃ q, k = q + 1 := ⟨k - 1, by omega⟩
            obtain ⟨⟨pb, pn, pA, pc, pL⟩, hp⟩ : ∃ s, l[q]? = some s := ⟨_, List.getElem?_eq_getElem (by rw [HN.out]; omega)⟩
            have d4 := (hr.out.old.cell (p := ⟨xg, q * 3 + 1, none⟩) hxw).trans (HCL.out q _ hp).2.1
            dsimp only at d4
            have u1 : decide ((0 : Int) < (k : Int)) = true := decide_eq_true (by omega)
            have u2 : decide (0 < k) = true := decide_eq_true (by omega)
            have u3 : IntKind.i64.wrap ((k : Int) - 1) = (q : Int) := by rw [IntKind.wrap_i64]; omega
            have u4 : (k : Int) - 1 = (q : Int) := by omega
            have u5 : (0 : Int) ≤ (q : Int) := by omega
            have u6 : (q : Int) < (n : Int) := by omega
            have hprev : prevN l k = some pn := by rw [hq]; show (l[q]?).map _ = _; rw [hp]; rfl
            by_cases hpn : sb = pn
            · have v1 : (sb == pn) = true := by simpa using hpn
              have v2 : (sb != pn) = false := by simpa using hpn
              have hx : loadG rm (prevN l (k + 1)) ((l.drop (k + 1)).map Sa.s) = x := by
                have := HNX2.out
                rw [if_neg (by rw [HM.out, hprev]; rintro (q | ⟨z, q, q'⟩); exact hlr q; cases q; exact q' hpn)] at this
                exact this.symm
              have HE := Lib.hid hx
              clear HNX2 hx hprev hp hq hpn
              go_wp2_with (go_at_call 49; refine (loadseg_yes sb sn sc B m HRF HBZ.out HM.out HLM.out HSM HY).mono ?_; rintro e w1 ⟨g1, A1, c1, rfl, hf1, hb1⟩; have q0 := hb1.cell (p := ⟨wr.heap.size, 0, none⟩) (by simp); simp at q0; have q4 := (hb1.cell (p := ⟨xg, q * 3 + 1, none⟩) (by simp; omega)).trans ((World.cell?_alloc_lt _ _ _ (Nat.lt_of_lt_of_le hxw hz)).trans d4); have SG := Lib.hid hf1.1; have HF := Lib.hid hf1; have HB1 := Lib.hid hb1; clear hf1 hb1)
              go_quiet ((go_at_call 27; exact Calls.quiet_of_same (len6_is (Lib.hid (SG.out.below (drewN_below (Below.refl _ _) _))) HM.out)))
              generalize hW2 : w1.drewN _ = W2
              have HB2 : Below w1.heap.size w1 W2 := by rw [← hW2]; exact drewN_below (Below.refl _ _) _
              have hr2 := (hr.out.below (one_box (.cells #[.int .i64 sb, .int .i64 sn, .slice sA m sc] 53))).below (HB1.out.trans (HB2.mono HB1.out.size))
              have HF2 : Hid (Fresh 93 (wr.alloc (.cells #[.int .i64 sb, .int .i64 sn, .slice sA m sc] 53)) g1 A1 c1 sb sn sL W2) := Lib.hid ⟨HF.out.1.below HB2, HF.out.2⟩
              have x1 := hr2.log.c1
              rw [hr2.len] at x1
              have HO := Lib.hid (hr2.log.own)
              rw [hr2.len] at HO
              have HL2 := Lib.hid hr2.log
              have HLEN := Lib.hid hr2.len
              have hk2 := hr2.len
              clear hW2 hr2 hk2
              go_wp2_with (at_builtin; refine wpList_append_lies _ rfl _ _ 63 (by rfl) 0 67 i0 _ 1 8 Try.underlying63 hi0 hz0 hz1 hz2 rfl (by omega) (.slice P k cap) k (ptrs ps) (by rfl) (HO.out.alloc _) ⟨W2.heap.size, 0, none⟩ 1 1 [.pointer (some ⟨g1, 0, none⟩)] (by rfl) (by rfl) (World.news_of_block (cs := #[.pointer (some ⟨g1, 0, none⟩)]) (t := 67) (fr := (0, 0)) (heap_alloc_new W2 _)) (by simp [Value.oneCell']) (by omega) (by unfold maxLen; omega) (by omega) (Nat.zero_le _) (W2.heap.size + 1) (by simp) ?_; intro gg cc w3 hown3 hgrow hat hltg; have hrow := HL2.out.grownRow HLEN.out hgrow; have y2 := (cell_of_row _ _ 1 _ _ _ hrow).trans rfl; have y3 := frozen_of_row _ _ 1 _ _ hrow; clear hrow)
              go_roundw
              case rel => exact ⟨k + 1, some ⟨gg, 0, none⟩, cc, _, by omega, by go_num, Lib.hid (hr.out.more HSG.out (one_box _) HF2.out (HB1.out.trans (HB2.mono HB1.out.size)) HE.out hown3 hgrow hat)⟩
              case measure => simp [intOf]; omega
            · have v1 : (sb == pn) = false := by simpa using hpn
              have v2 : (sb != pn) = true := by simpa using hpn
              have hx : x = 1 := by have := HNX2.out; rwa [if_pos (.inr ⟨pn, hprev, hpn⟩)] at this
              subst hx
              clear HNX2 hprev hp hq hpn
              go_wp2_with (go_at_call 49; refine (loadseg_yes sb sn sc B m HRF HBZ.out HM.out HLM.out HSM HY).mono ?_; rintro e w1 ⟨g1, A1, c1, rfl, hf1, hb1⟩; have q0 := hb1.cell (p := ⟨wr.heap.size, 0, none⟩) (by simp); simp at q0; have q4 := (hb1.cell (p := ⟨xg, q * 3 + 1, none⟩) (by simp; omega)).trans ((World.cell?_alloc_lt _ _ _ (Nat.lt_of_lt_of_le hxw hz)).trans d4); have SG := Lib.hid hf1.1; have HF := Lib.hid hf1; have HB1 := Lib.hid hb1; clear hf1 hb1)
              go_quiet ((go_at_call 27; exact Calls.quiet_of_same (len6_is (Lib.hid (SG.out.below (drewN_below (Below.refl _ _) _))) HM.out)))
              go_wp2_with fail
              go_ret2
              exact .inl ⟨by decide, rfl, drewN_below (acc (acc hr.out.old (one_box _)) HB1.out) _⟩
      · have hy1 : (y != 0) = true := by simpa using hy0
        have hx : x = y := by have := HNX.out; rwa [if_pos hy0] at this
        subst hx
        have HY0 := Lib.hid hy0
        clear hy0 HNX
        go_wp2_with (go_at_call 49; refine (loadseg_no sb sn sc B m x HRF HBZ.out HM.out HLM.out HSM HY HY0.out).mono ?_; rintro e w1 ⟨rfl, hb1⟩)
        go_ret2
        exact .inl ⟨HY0.out, rfl, acc (acc hr.out.old (one_box _)) hb1⟩
    · obtain rfl : k = n := by omega
      go_wp2_with fail
      go_ret2
      have hx0 : x = 0 := by have := hr.out.err; rw [List.drop_of_length_le (by rw [HN.out]; omega)] at this; exact this.symm
      subst hx0
      obtain ⟨g1, g2, g3⟩ := loadG_good HX.out
      have hsame := hr.out.same
      rw [List.take_of_length_le (by rw [HN.out]; omega)] at hsame
      exact .inr ⟨rfl, _, _, rfl, hr.out.old, hr.out.since, ⟨h1, h64, by rw [List.length_map, HN.out]; exact h0, g1, g2, g3⟩, _, _, _, rfl, hsame, hr.out.log⟩

theorem load6_is (room : Int) (X : Option Addr) (l : List Sa) (n xc B : Nat) (x : Int) (w : World) (hR : Hid (ReadsS w B X l)) (hB : B ≤ w.heap.size) (hn : l.length = n) (hl : n ≤ 1000) (hs : Hid (∀ s ∈ l, s.L.length ≤ maxLen ∧ ∀ f ∈ s.L, f.r.key.size ≤ maxLen ∧ f.r.val.size ≤ maxLen)) (HX : Hid (loadE6 room (l.map Sa.s) = x)) :
    Calls Try.prog 21 #[.int .i64 room, .slice X n xc] w (NewL w room.toNat x (l.map Sa.s)) := by
  have hx := HX.out
  unfold loadE6 at hx
  by_cases hb : room < 1 ∨ 64 < room ∨ n = 0
  · rw [if_pos (by rcases hb with h | h | h; exact .inl h; exact .inr (.inl h); exact .inr (.inr (by rw [List.map_eq_nil_iff]; exact List.eq_nil_of_length_eq_zero (by omega))))] at hx
    subst hx
    refine (load6_arg room X n xc w (Lib.hid hb)).mono ?_
    rintro e w' ⟨rfl, hb'⟩
    exact .inl ⟨by decide, rfl, hb'⟩
  · rw [if_neg (by rintro (h | h | h); exact hb (.inl h); exact hb (.inr (.inl h)); exact hb (.inr (.inr (by rw [List.map_eq_nil_iff] at h; rw [← hn, h]; rfl))))] at hx
    have e : ((room.toNat : Nat) : Int) = room := by omega
    have := load6_run room.toNat X l n xc B x w hR hB hn (by omega) (by omega) (by omega) hl hs (Lib.hid hx)
    rwa [e] at this
/-- an empty segment at 0 -/
def sg0 : Sg := ⟨0, 0, []⟩
def newE6 (room : Int) : Int := if room < 1 ∨ 64 < room then 1 else 0
theorem newE6_is (room : Int) : loadE6 room [sg0] = newE6 room := by
  unfold loadE6 newE6
  by_cases h : room < 1 ∨ 64 < room
  · rw [if_pos h, if_pos (by rcases h with h | h; exact .inl h; exact .inr (.inl h))]
  · rw [if_neg h, if_neg (by rintro (q | q | q); exact h (.inl q); exact h (.inr q); cases q)]
    have e : loadE 0 0 [] = 0 := by decide
    show (if loadE 0 0 [] ≠ 0 then _ else if _ then _ else _) = (0 : Int)
    rw [if_neg (by rw [e]; simp), if_neg (by rintro (q | ⟨x, q, _⟩); simp [sg0] at q; cases q)]
    rfl
set_option maxRecDepth 100000 in
set_option maxHeartbeats 1000000 in
theorem new6_is (room x : Int) (w : World) (HX : Hid (newE6 room = x)) :
    Calls Try.prog 5 #[.int .i64 room] w (NewL w room.toNat x [sg0]) := by
  have hl := load6_is room (some ⟨w.heap.size, 0, none⟩) [⟨0, 0, none, 0, []⟩] 1 1 (w.heap.size + 1) x (w.alloc (.cells #[.int .i64 0, .int .i64 0, .slice none 0 0] 53)) (Lib.hid ⟨fun _ => ⟨w.heap.size, rfl, by omega, fun i r hr => ?_⟩, fun r hr => ?_⟩) (by simp) rfl (by decide) (Lib.hid (fun s hs => ?_)) (Lib.hid ((newE6_is room).trans HX.out))
  · have HLD := Lib.hid hl
    clear hl
    go_enter Try.func5, Try.ntmps5
    go_wp2_with (go_at_call 21; refine HLD.out.mono ?_; rintro e w1 (⟨hx, rfl, hb⟩ | ⟨hx, g, S, rfl, hL⟩))
    · go_ret2
      exact .inl ⟨hx, rfl, acc (one_box _) hb⟩
    · go_ret2
      have hz : w.heap.size < (w.alloc (.cells #[.int .i64 0, .int .i64 0, .slice none 0 0] 53)).heap.size := by simp
      exact .inr ⟨hx, g, S, rfl, acc (one_box _) hL.old, fun k hk => by have := hL.since k hk; omega, hL.good, hL.log⟩
  · have hi : i = 0 := by have := (List.getElem?_eq_some_iff.1 hr).1; simp at this; omega
    subst hi
    have : r = ⟨0, 0, none, 0, []⟩ := by simpa using hr.symm
    subst this
    have hrow := heap_alloc_new w (.cells #[.int .i64 0, .int .i64 0, .slice none 0 0] 53)
    exact ⟨(cell_of_row _ _ 0 _ _ _ hrow).trans rfl, (cell_of_row _ _ 1 _ _ _ hrow).trans rfl, (cell_of_row _ _ 2 _ _ _ hrow).trans rfl⟩
  · rw [List.mem_singleton.1 hr]
    exact fun h0 => absurd h0 (by simp)
  · rw [List.mem_singleton.1 hs]
    exact ⟨by simp, fun f hf => by simp at hf⟩
end Go.Proofs.Ytflcggpeflagiaa.L6
