/-
  A segment as plain data, and where it lies in memory.
-/
import Derived.Test.YtflcggpeflagiaaRepRow0
import Derived.Test.YtflcggpeflagiaaRecBound
namespace Go.Proofs.Ytflcggpeflagiaa.L5
open Go.RowKit
open L3 L4

/-! ### plain -/
/-- do offsets rise, from one on and below another one? -/
def riseB : Int → Int → List L4.Fd → Bool
  | _, _, [] => true
  | a, n, f :: t => decide (a ≤ f.o) && decide (f.o < n) && riseB (f.o + 1) n t
theorem rise_cons {a n : Int} {f : L4.Fd} {t : List L4.Fd} : riseB a n (f :: t) = true ↔ a ≤ f.o ∧ f.o < n ∧ riseB (f.o + 1) n t = true := by
  simp [riseB, and_assoc]
theorem rise_mono {a b n m : Int} : ∀ {l : List L4.Fd}, riseB a n l = true → b ≤ a → n ≤ m → riseB b m l = true
  | [], _, _, _ => rfl
  | f :: t, h, hb, hm => by
    obtain ⟨h1, h2, h3⟩ := rise_cons.1 h
    exact rise_cons.2 ⟨by omega, by omega, rise_mono h3 (Int.le_refl _) hm⟩
theorem rise_mem {a n : Int} : ∀ {l : List L4.Fd}, riseB a n l = true → ∀ f ∈ l, a ≤ f.o ∧ f.o < n
  | [], _, f, hf => by simp at hf
  | g :: t, h, f, hf => by
    obtain ⟨h1, h2, h3⟩ := rise_cons.1 h
    rcases List.mem_cons.1 hf with rfl | hf
    · exact ⟨h1, h2⟩
    · have := rise_mem h3 f hf; omega
theorem rise_next {a n : Int} {l : List L4.Fd} {k : Nat} {f : L4.Fd} (h : l[k]? = some f) : riseB a n (l.drop k) = (decide (a ≤ f.o) && decide (f.o < n) && riseB (f.o + 1) n (l.drop (k + 1))) := by
  obtain ⟨hlt, hl⟩ := List.getElem?_eq_some_iff.1 h
  rw [List.drop_eq_getElem_cons hlt, hl]; rfl
theorem rise_app {n m : Int} : ∀ {a : Int} {l t : List L4.Fd}, riseB a n l = true → a ≤ n → n ≤ m → riseB n m t = true → riseB a m (l ++ t) = true
  | _, [], t, h, ha, hm, ht => rise_mono ht ha (Int.le_refl _)
  | _, f :: l, t, h, ha, hm, ht => by
    obtain ⟨h1, h2, h3⟩ := rise_cons.1 h
    exact rise_cons.2 ⟨h1, by omega, rise_app h3 (by omega) hm ht⟩
theorem rise_filter {a n : Int} (p : L4.Fd → Bool) : ∀ {l : List L4.Fd}, riseB a n l = true → riseB a n (l.filter p) = true
  | [], _ => rfl
  | f :: t, h => by
    obtain ⟨h1, h2, h3⟩ := rise_cons.1 h
    have k := rise_filter p h3
    rw [List.filter_cons]
    by_cases hp : p f
    · rw [if_pos hp]; exact rise_cons.2 ⟨h1, h2, k⟩
    · rw [if_neg hp]; exact rise_mono k (by omega) (Int.le_refl _)
/-- records with offsets from one on -/
def numbered : Int → List R → List L4.Fd
  | _, [] => []
  | o, r :: t => ⟨o, r⟩ :: numbered (o + 1) t
theorem numbered_len : ∀ (o : Int) (l : List R), (numbered o l).length = l.length
  | _, [] => rfl
  | o, _ :: t => by simp [numbered, numbered_len (o + 1) t]
theorem numbered_app : ∀ (o : Int) (a b : List R), numbered o (a ++ b) = numbered o a ++ numbered (o + a.length) b
  | o, [], b => by simp [numbered]
  | o, r :: t, b => by
    have e : o + 1 + (t.length : Int) = o + ((r :: t).length : Int) := by simp; omega
    show _ :: numbered (o + 1) (t ++ b) = _ :: (_ ++ _)
    rw [numbered_app (o + 1) t b, e]
theorem numbered_take {o : Int} {l : List R} {k : Nat} {r : R} (h : l[k]? = some r) : numbered o (l.take (k + 1)) = numbered o (l.take k) ++ [⟨o + k, r⟩] := by
  have hlt := (List.getElem?_eq_some_iff.1 h).1
  rw [List.take_add_one, h, numbered_app, List.length_take, Nat.min_eq_left (Nat.le_of_lt hlt)]; rfl
theorem numbered_rise : ∀ (o : Int) (l : List R), riseB o (o + l.length) (numbered o l) = true
  | _, [] => rfl
  | o, r :: t => by
    refine rise_cons.2 ⟨Int.le_refl _, by simp; omega, ?_⟩
    have := numbered_rise (o + 1) t
    rwa [show o + 1 + (t.length : Int) = o + ((r :: t).length : Int) by simp; omega] at this
theorem numbered_mem : ∀ (o : Int) (l : List R), ∀ f ∈ numbered o l, f.r ∈ l
  | _, [], f, h => by simp [numbered] at h
  | o, r :: t, f, h => by
    rcases List.mem_cons.1 h with rfl | h
    · simp
    · exact List.mem_cons_of_mem _ (numbered_mem (o + 1) t f h)

/-- what a segment is -/
structure Good (base next : Int) (L : List L4.Fd) : Prop where
  b0 : 0 ≤ base
  bn : base ≤ next
  n1 : next ≤ 1099511627776
  len : L.length ≤ 64
  rise : riseB base next L = true
  chk : ∀ f ∈ L, f.r.chk = 0
theorem Good.small {base next : Int} {L : List L4.Fd} (h : Good base next L) : ∀ f ∈ L, f.r.key.size ≤ 64 ∧ f.r.val.size ≤ 512 := fun f hf => by
  have := chk_parts (h.chk f hf); exact ⟨this.1, this.2.1⟩
theorem chkL_all : ∀ {l : List R}, chkL l = 0 → ∀ r ∈ l, r.chk = 0
  | [], _, r, h => by simp at h
  | q :: t, e, r, h => by
    have e' : (if q.chk ≠ 0 then q.chk else chkL t) = 0 := e
    by_cases hq : q.chk = 0
    · rw [if_neg (by simpa using hq)] at e'
      rcases List.mem_cons.1 h with rfl | h
      · exact hq
      · exact chkL_all e' r h
    · rw [if_pos hq] at e'; exact absurd e' hq

/-- Load's error -/
def loadE (base next : Int) (l : List L4.Fd) : Int :=
  if (numB base && numB next && decide (base ≤ next) && decide (l.length ≤ 64) && riseB base next l) = true then chkL (l.map (·.r)) else 1
theorem load_good {base next : Int} {l : List L4.Fd} (h : loadE base next l = 0) : Good base next l := by
  unfold loadE at h
  split at h
  · rename_i hc
    simp only [Bool.and_eq_true, decide_eq_true_eq] at hc
    obtain ⟨⟨⟨⟨h1, h2⟩, h3⟩, h4⟩, h5⟩ := hc
    have hb : 0 ≤ base ∧ base ≤ 1099511627776 := by simpa [numB] using h1
    have hn : 0 ≤ next ∧ next ≤ 1099511627776 := by simpa [numB] using h2
    exact ⟨hb.1, h3, hn.2, h4, h5, fun f hf => chkL_all h _ (List.mem_map_of_mem hf)⟩
  · simp at h
/-- Append's error -/
def appE (next : Int) (n : Nat) (rs : List R) : Int :=
  if chkL rs ≠ 0 then chkL rs else if 64 < n + rs.length ∨ 1099511627776 < next + rs.length then 50 else 0
theorem app_good {base next : Int} {L : List L4.Fd} {rs : List R} (g : Good base next L) (h : appE next L.length rs = 0) : Good base (next + rs.length) (L ++ numbered next rs) := by
  unfold appE at h
  split at h
  · rename_i hc; exact absurd h hc
  · rename_i hc
    split at h
    · simp at h
    · rename_i hd
      have hb := g.bn
      have h0 := g.b0
      refine ⟨g.b0, by omega, by omega, by rw [List.length_append, numbered_len]; omega, rise_app g.rise g.bn (by omega) (numbered_rise _ _), fun f hf => ?_⟩
      rcases List.mem_append.1 hf with hf | hf
      · exact g.chk f hf
      · exact chkL_all (by simpa using hc) _ (numbered_mem _ _ f hf)
/-- what is read -/
def readL (L : List L4.Fd) (a n : Int) : List L4.Fd := (L.filter fun f => decide (a ≤ f.o)).take n.toNat
/-- what is kept -/
def keepL (L : List L4.Fd) (s : List Int) : List L4.Fd := L.filter fun f => decide (f.o ∈ s)
theorem keep_good {base next : Int} {L : List L4.Fd} (g : Good base next L) (s : List Int) : Good base next (keepL L s) :=
  ⟨g.b0, g.bn, g.n1, Nat.le_trans (List.length_filter_le _ _) g.len, rise_filter _ g.rise, fun f hf => g.chk f (List.mem_filter.1 hf).1⟩
/-- how many are behind none -/
def posF (L : List L4.Fd) (a : Int) : Nat := L.countP fun f => decide (f.o < a)
theorem rise_split {a n m : Int} : ∀ {l : List L4.Fd}, riseB m n l = true → (l.filter fun f => decide (a ≤ f.o)) = l.drop (posF l a)
  | [], _ => rfl
  | f :: t, h => by
    obtain ⟨h1, h2, h3⟩ := rise_cons.1 h
    unfold posF
    by_cases hf : a ≤ f.o
    · have hall : ∀ g ∈ t, a ≤ g.o := fun g hg => by have := rise_mem h3 g hg; omega
      rw [List.countP_cons_of_neg (by simpa using hf), List.countP_eq_zero.2 (fun g hg => by have := hall g hg; simpa using this), List.drop_zero]
      exact List.filter_eq_self.2 (fun g hg => by
        rcases List.mem_cons.1 hg with rfl | hg
        · simpa using hf
        · simpa using hall g hg)
    · rw [List.countP_cons_of_pos (by simp; omega), List.filter_cons_of_neg (by simpa using hf), rise_split h3]; rfl
theorem posF_le (L : List L4.Fd) (a : Int) : posF L a ≤ L.length := List.countP_le_length
/-- offsets ahead of the place are lower, the others aren't -/
theorem pos_low {a n m : Int} : ∀ {l : List L4.Fd}, riseB m n l = true → ∀ (i : Nat) (f : L4.Fd), l[i]? = some f → (f.o < a ↔ i < posF l a)
  | [], _, i, f, h => by simp at h
  | g :: t, h, i, f, hi => by
    obtain ⟨h1, h2, h3⟩ := rise_cons.1 h
    unfold posF
    by_cases hg : g.o < a
    · rw [List.countP_cons_of_pos (by simpa using hg)]
      cases i with
      | zero => have : g = f := by simpa using hi
                subst this; exact ⟨fun _ => by omega, fun _ => hg⟩
      | succ i =>
        have := pos_low (a := a) h3 i f (by simpa using hi)
        unfold posF at this
        omega
    · have hall : ∀ q ∈ t, ¬ q.o < a := fun q hq => by have := rise_mem h3 q hq; omega
      rw [List.countP_cons_of_neg (by simpa using hg), List.countP_eq_zero.2 (fun q hq => by simpa using hall q hq)]
      refine ⟨fun hlt => ?_, fun h => by omega⟩
      rcases List.mem_of_getElem? hi |> List.mem_cons.1 with rfl | hq
      · exact absurd hlt hg
      · exact absurd hlt (hall f hq)
theorem read_is {base next : Int} {L : List L4.Fd} (g : riseB base next L = true) (a n : Int) : readL L a n = (L.drop (posF L a)).take n.toNat := by
  unfold readL; rw [rise_split g]
/-- all bytes -/
def bytesL : List L4.Fd → Nat
  | [] => 0
  | f :: t => f.r.put.size + bytesL t
/-- each eighth one's offset -/
def indexL (L : List L4.Fd) : List Int := (List.range ((L.length + 7) / 8)).map fun i => ((L[8 * i]?).map (·.o)).getD 0

/-! ### in memory -/
/-- all that was stays, but a block and perhaps another one -/
structure But (g : Nat) (h : Option Nat) (w w' : World) : Prop where
  os : w'.os = w.os
  tape : w'.tape = w.tape
  output : w'.output = w.output
  size : w.heap.size ≤ w'.heap.size
  block : ∀ k, k < w.heap.size → k ≠ g → some k ≠ h → w'.heap[k]? = w.heap[k]?
theorem But.refl (g : Nat) (h : Option Nat) (w : World) : But g h w w := ⟨rfl, rfl, rfl, Nat.le_refl _, fun _ _ _ _ => rfl⟩
theorem But.ofBelow {g : Nat} {h : Option Nat} {w w' : World} (b : Below w.heap.size w w') : But g h w w' := ⟨b.os, b.tape, b.output, b.size, fun k hk _ _ => b.block k hk⟩
theorem But.ofGrown {g : Nat} {h : Option Nat} {w w' : World} (b : w.grownBy w' h) : But g h w w' := ⟨b.os, b.tape, b.output, b.size, fun k hk _ hh => b.block k hk hh⟩
/-- one step behind another; what the second one turns is what the first one may, or new -/
theorem But.trans {g : Nat} {h h' : Option Nat} {w w1 w2 : World} (a : But g h w w1) (b : But g h' w1 w2) (hh : ∀ k, h' = some k → h = some k ∨ w.heap.size ≤ k) : But g h w w2 :=
  ⟨b.os.trans a.os, b.tape.trans a.tape, b.output.trans a.output, Nat.le_trans a.size b.size, fun k hk hg hn =>
    (b.block k (Nat.lt_of_lt_of_le hk a.size) hg (fun e => by rcases hh k e.symm with e' | e'; exact hn e'.symm; omega)).trans (a.block k hk hg hn)⟩
theorem But.setCell {g : Nat} {h : Option Nat} {w w1 : World} (a : But g h w w1) {p : Addr} (hp : p.block = g ∨ w.heap.size ≤ p.block) (u : Value) : But g h w (w1.setCell p u) :=
  ⟨a.os, a.tape, a.output, by simp [World.setCell]; exact a.size, fun k hk hg hn => (Below.heap_setCell _ _ _ _ (by omega)).trans (a.block k hk hg hn)⟩
theorem But.cell {g : Nat} {h : Option Nat} {w w' : World} (a : But g h w w') {p : Addr} {v : Value} (hc : w.cell? p = some v) (hg : p.block ≠ g) (hh : some p.block ≠ h) : w'.cell? p = some v :=
  (World.cell?_of_block (w := w) (a.block p.block (World.block_lt_of_cell? w p hc) hg hh)).trans hc
/-- where a segment's blocks begin, all below stays -/
theorem But.below {g : Nat} {h : Option Nat} {w w' : World} {B : Nat} (a : But g h w w') (hB : B ≤ w.heap.size) (hg : B ≤ g) (hh : ∀ k, h = some k → B ≤ k) : Below B w w' :=
  ⟨a.os, a.tape, a.output, a.size, fun k hk => a.block k (by omega) (by omega) (fun e => by have := hh k e.symm; omega)⟩

def blk (A : Option Addr) : Option Nat := A.map (·.block)
theorem ownBlock_blk (A : Option Addr) (n c : Nat) : (Value.slice A n c).ownBlock = blk A := by cases A <;> rfl

/-- a segment: its own row in a block, its records in another one -/
structure Seg (T : TypeId) (w : World) (g : Nat) (A : Option Addr) (cap : Nat) (base next : Int) (L : List L4.Fd) : Prop where
  row : w.heap[g]? = some (.cells #[.int .i64 base, .int .i64 next, .slice A L.length cap] T (0, 0))
  own : w.ownsRow 0 43 5 (.slice A L.length cap) L.length (rowF L)
  ne : blk A ≠ some g
section
variable {T : TypeId} {w w' : World} {g : Nat} {A : Option Addr} {cap : Nat} {base next : Int} {L : List L4.Fd}
theorem Seg.lt (h : Seg T w g A cap base next L) : g < w.heap.size := (Array.getElem?_eq_some_iff.1 h.row).1
theorem Seg.blkLt (h : Seg T w g A cap base next L) : ∀ k, blk A = some k → k < w.heap.size := fun k e => (h.own.lt k (by rw [ownBlock_blk]; exact e)).2
theorem Seg.c0 (h : Seg T w g A cap base next L) : w.cell? ⟨g, 0, none⟩ = some (.int .i64 base) := (cell_of_row _ _ 0 _ _ _ h.row).trans rfl
theorem Seg.c1 (h : Seg T w g A cap base next L) : w.cell? ⟨g, 1, none⟩ = some (.int .i64 next) := (cell_of_row _ _ 1 _ _ _ h.row).trans rfl
theorem Seg.c2 (h : Seg T w g A cap base next L) : w.cell? ⟨g, 2, none⟩ = some (.slice A L.length cap) := (cell_of_row _ _ 2 _ _ _ h.row).trans rfl
theorem Seg.froz (h : Seg T w g A cap base next L) (i : Nat) : w.frozen? ⟨g, i, none⟩ = false := frozen_of_row _ _ _ _ _ h.row
theorem Seg.reads (h : Seg T w g A cap base next L) : ReadsF w w.heap.size A L := ReadsF.own h.own
/-- what a segment is stays where its blocks stay -/
theorem Seg.kept (h : Seg T w g A cap base next L) (hr : w'.heap[g]? = w.heap[g]?) (hb : ∀ k, blk A = some k → w'.heap[k]? = w.heap[k]?) : Seg T w' g A cap base next L := by
  refine ⟨hr.trans h.row, ⟨h.own.1, ?_⟩, h.ne⟩
  rcases h.own.2 with e | ⟨b, c, cur, e, h1, h2, h3⟩
  · exact .inl e
  · injection e with e1 e2 e3
    exact .inr ⟨b, c, cur, by rw [e1, e3], h1, (hb b (by rw [e1]; rfl)).trans h2, h3⟩
theorem Seg.below (h : Seg T w g A cap base next L) (b : Below w.heap.size w w') : Seg T w' g A cap base next L :=
  h.kept (b.block g h.lt) (fun k e => b.block k (h.blkLt k e))
theorem Seg.but {g' : Nat} {h' : Option Nat} (h : Seg T w g A cap base next L) (b : But g' h' w w') (h1 : g ≠ g') (h2 : h' ≠ some g) (h3 : blk A ≠ some g') (h4 : ∀ k, blk A = some k → h' ≠ some k) : Seg T w' g A cap base next L :=
  h.kept (b.block g h.lt h1 (fun e => h2 e.symm)) (fun k e => b.block k (h.blkLt k e) (fun q => h3 (by rw [e, q])) (fun q => h4 k e q.symm))
theorem Seg.setNext (h : Seg T w g A cap base next L) (n : Int) : Seg T (w.setCell ⟨g, 1, none⟩ (.int .i64 n)) g A cap base n L := by
  refine ⟨heap_setCell_same w g 1 _ _ _ h.row, ⟨h.own.1, ?_⟩, h.ne⟩
  rcases h.own.2 with e | ⟨b, c, cur, e, h1, h2, h3⟩
  · exact .inl e
  · injection e with e1 e2 e3
    refine .inr ⟨b, c, cur, by rw [e1, e3], h1, (Below.heap_setCell _ _ _ _ ?_).trans h2, h3⟩
    intro q
    refine h.ne ?_
    show blk A = some g
    rw [e1, ← show b = g from q]; rfl
/-- a segment's new row and new records, behind an append or a sieve -/
theorem Seg.setL {w1 : World} {A' : Option Addr} {cap' : Nat} {L' : List L4.Fd} (h : Seg T w g A cap base next L) (hrow : w1.heap[g]? = w.heap[g]?) (ho : w1.ownsRow 0 43 5 (.slice A' L'.length cap') L'.length (rowF L')) (hne : blk A' ≠ some g) :
    Seg T (w1.setCell ⟨g, 2, none⟩ (.slice A' L'.length cap')) g A' cap' base next L' := by
  refine ⟨heap_setCell_same w1 g 2 _ _ _ (hrow.trans h.row), ⟨ho.1, ?_⟩, hne⟩
  rcases ho.2 with e | ⟨b, c, cur, e, h1, h2, h3⟩
  · exact .inl e
  · injection e with e1 e2 e3
    refine .inr ⟨b, c, cur, by rw [e1, e3], h1, (Below.heap_setCell _ _ _ _ ?_).trans h2, h3⟩
    intro q
    refine hne ?_
    rw [e1, ← show b = g from q]; rfl
end

/-- a call turned a segment into this one, and nothing else -/
def Step (T : TypeId) (w : World) (g : Nat) (A : Option Addr) (base next : Int) (L : List L4.Fd) (w' : World) : Prop :=
  ∃ A' cap', Seg T w' g A' cap' base next L ∧ But g (blk A) w w' ∧ ∀ k, blk A' = some k → blk A = some k ∨ w.heap.size ≤ k
theorem Step.comp {T : TypeId} {w w1 w2 : World} {g : Nat} {A A1 : Option Addr} {base next : Int} {L : List L4.Fd} (b : But g (blk A) w w1) (n : ∀ k, blk A1 = some k → blk A = some k ∨ w.heap.size ≤ k) (h : Step T w1 g A1 base next L w2) : Step T w g A base next L w2 := by
  obtain ⟨A', c', h1, h2, h3⟩ := h
  refine ⟨A', c', h1, b.trans h2 n, fun k e => ?_⟩
  rcases h3 k e with e' | e'
  · exact n k e'
  · have := b.size; exact .inr (by omega)
theorem Step.same {T : TypeId} {w w' : World} {g : Nat} {A : Option Addr} {cap : Nat} {base next : Int} {L : List L4.Fd} (h : Seg T w g A cap base next L) (b : Below w.heap.size w w') : Step T w g A base next L w' :=
  ⟨A, cap, h.below b, .ofBelow b, fun _ e => .inl e⟩
/-- a new segment -/
def Fresh (T : TypeId) (w : World) (g : Nat) (A : Option Addr) (cap : Nat) (base next : Int) (L : List L4.Fd) (w' : World) : Prop :=
  Seg T w' g A cap base next L ∧ w.heap.size ≤ g ∧ ∀ k, blk A = some k → w.heap.size ≤ k
/-- what New and Load tell -/
def NewP (T : TypeId) (w : World) (x base next : Int) (L : List L4.Fd) (e : Ending) (w' : World) : Prop :=
  Below w.heap.size w w' ∧ ((x ≠ 0 ∧ e = .returned (.tuple #[.pointer none, .int .i64 x])) ∨
    (x = 0 ∧ ∃ g A cap, e = .returned (.tuple #[.pointer (some ⟨g, 0, none⟩), .int .i64 0]) ∧ Fresh T w g A cap base next L w'))
/-- no block of a segment's is this slice's -/
def Apart (g : Nat) (A X : Option Addr) : Prop := ∀ k, blk X = some k → k ≠ g ∧ some k ≠ blk A
theorem reads_but {g : Nat} {h : Option Nat} {w w' : World} {B : Nat} {X : Option Addr} {l : List R} (r : Reads w B X l) (b : But g h w w') (hX : ∀ k, blk X = some k → k ≠ g ∧ some k ≠ h) : Reads w' B X l := fun h0 => by
  obtain ⟨x, e, hx, hc⟩ := r h0
  have hk := hX x (by rw [e]; rfl)
  refine ⟨x, e, hx, fun i q hq => ?_⟩
  obtain ⟨c0, c1, c2, c3⟩ := hc i q hq
  exact ⟨b.cell c0 hk.1 hk.2, b.cell c1 hk.1 hk.2, b.cell c2 hk.1 hk.2, b.cell c3 hk.1 hk.2⟩
theorem readsF_but {g : Nat} {h : Option Nat} {w w' : World} {B : Nat} {X : Option Addr} {l : List L4.Fd} (r : ReadsF w B X l) (b : But g h w w') (hX : ∀ k, blk X = some k → k ≠ g ∧ some k ≠ h) : ReadsF w' B X l := fun h0 => by
  obtain ⟨x, e, hx, hc⟩ := r h0
  have hk := hX x (by rw [e]; rfl)
  refine ⟨x, e, hx, fun i q hq => ?_⟩
  obtain ⟨c0, c1, c2, c3, c4⟩ := hc i q hq
  exact ⟨b.cell c0 hk.1 hk.2, b.cell c1 hk.1 hk.2, b.cell c2 hk.1 hk.2, b.cell c3 hk.1 hk.2, b.cell c4 hk.1 hk.2⟩
end Go.Proofs.Ytflcggpeflagiaa.L5
