/-
  Contracts: the program's own Parse.
-/
import Derived.Test.YtijofikpdhapoaaGreatMReqRead
import Derived.Test.YtijofikpdhapoaaGreatReqRdRec
import Derived.Test.YtijofikpdhapoaaGreatReqGet
namespace Go.Proofs.YtijofikpdhapoaaGreat.L4
open Go.RowKit
open L3

theorem foundInfo : (Tryz.prog.info? 95).map (fun i => (i.zero, i.size, i.bytes)) = some (some (.agg #[.int .i64 0, .bool false, .string ⟨#[]⟩, .bool false, .string ⟨#[]⟩]), 5, 56) := by kernel_rfl
theorem partInfo : (Tryz.prog.info? 23).map (fun i => (i.zero, i.size, i.bytes)) = some (some (.agg #[.string ⟨#[]⟩, .int .i64 0]), 2, 24) := by kernel_rfl
def zeroF : Array Value := #[.int .i64 0, .bool false, .string ⟨#[]⟩, .bool false, .string ⟨#[]⟩]
def zeroP : Array Value := #[.string ⟨#[]⟩, .int .i64 0]
theorem make_found (n : Nat) (hn : n ≤ 64) (W : World) :
    (Instr.makeSlice 57 (.int .i64 (n : Int)) (.int .i64 (n : Int))).run Tryz.prog W = .ok (.slice (some ⟨W.heap.size, 0, none⟩) n n) (W.alloc (.cells (madeCells zeroF (n * 5)) 95)) := by
  obtain ⟨i0, hi0, hz0, hz1, hz2⟩ := info_parts foundInfo
  have hr := run_make (P := Tryz.prog) W 57 95 i0 _ Tryz.underlying57 hi0 hz0 .i64 .i64 n n (by omega) (Int.le_refl _) (by rw [hz2]; omega) (by omega)
  simp only [Int.toNat_natCast] at hr
  rw [hr, hz1]
  rfl
theorem make_parts (n : Nat) (hn : n ≤ 64) (W : World) :
    (Instr.makeSlice 56 (.int .i64 (n : Int)) (.int .i64 (n : Int))).run Tryz.prog W = .ok (.slice (some ⟨W.heap.size, 0, none⟩) n n) (W.alloc (.cells (madeCells zeroP (n * 2)) 23)) := by
  obtain ⟨i0, hi0, hz0, hz1, hz2⟩ := info_parts partInfo
  have hr := run_make (P := Tryz.prog) W 56 23 i0 _ Tryz.underlying56 hi0 hz0 .i64 .i64 n n (by omega) (Int.le_refl _) (by rw [hz2]; omega) (by omega)
  simp only [Int.toNat_natCast] at hr
  rw [hr, hz1]
  rfl
theorem rowF_next {W : World} {G k n : Nat} {row : Array Value} {T : TypeId} {l : List Fd} {f : Fd} (hrow : W.heap[G]? = some (.cells row T (0, 0))) (hsz : row.size = n * 5) (ht : row.toList.take (k * 5) = rowF l) (hk : k < n) :
    ∃ row', (((((W.setCell ⟨G, k * 5, none⟩ (.int .i64 f.o)).setCell ⟨G, k * 5 + 1, none⟩ (.bool f.r.hk)).setCell ⟨G, k * 5 + 2, none⟩ (.string f.r.key)).setCell ⟨G, k * 5 + 3, none⟩ (.bool f.r.tb)).setCell ⟨G, k * 5 + 4, none⟩ (.string f.r.val)).heap[G]? = some (.cells row' T (0, 0)) ∧ row'.size = n * 5 ∧ row'.toList.take ((k + 1) * 5) = rowF (l ++ [f]) := by
  refine ⟨_, heap_setCell_same _ _ _ _ _ _ (heap_setCell_same _ _ _ _ _ _ (heap_setCell_same _ _ _ _ _ _ (heap_setCell_same _ _ _ _ _ _ (heap_setCell_same _ _ _ _ _ _ hrow)))), by simpa using hsz, ?_⟩
  have e1 := take_set (v := .int .i64 f.o) (by omega : k * 5 < row.size) ht
  have e2 := take_set (v := .bool f.r.hk) (by simp; omega : k * 5 + 1 < _) e1
  have e3 := take_set (v := .string f.r.key) (by simp; omega : k * 5 + 2 < _) e2
  have e4 := take_set (v := .bool f.r.tb) (by simp; omega : k * 5 + 3 < _) e3
  have e5 := take_set (v := .string f.r.val) (by simp; omega : k * 5 + 4 < _) e4
  rw [show (k + 1) * 5 = k * 5 + 4 + 1 by omega, e5, rowF_app]
  simp [rowF]
theorem rowP_next {W : World} {G k n : Nat} {row : Array Value} {T : TypeId} {l : List Pt} {f : Pt} (hrow : W.heap[G]? = some (.cells row T (0, 0))) (hsz : row.size = n * 2) (ht : row.toList.take (k * 2) = rowP l) (hk : k < n) :
    ∃ row', ((W.setCell ⟨G, k * 2, none⟩ (.string f.t)).setCell ⟨G, k * 2 + 1, none⟩ (.int .i64 f.n)).heap[G]? = some (.cells row' T (0, 0)) ∧ row'.size = n * 2 ∧ row'.toList.take ((k + 1) * 2) = rowP (l ++ [f]) := by
  refine ⟨_, heap_setCell_same _ _ _ _ _ _ (heap_setCell_same _ _ _ _ _ _ hrow), by simpa using hsz, ?_⟩
  have e1 := take_set (v := .string f.t) (by omega : k * 2 < row.size) ht
  have e2 := take_set (v := .int .i64 f.n) (by simp; omega : k * 2 + 1 < _) e1
  rw [show (k + 1) * 2 = k * 2 + 1 + 1 by omega, e2, rowP_app]
  simp [rowP]
theorem own_rowF {W : World} {G n base : Nat} {row : Array Value} {l : List Fd} (hrow : W.heap[G]? = some (.cells row 95 (0, 0))) (hsz : row.size = n * 5) (ht : row.toList.take (n * 5) = rowF l) (hl : l.length = n) (hn : n ≤ 65) (hb : base ≤ G) :
    W.ownsRow base 95 5 (.slice (some ⟨G, 0, none⟩) l.length n) l.length (rowF l) := by
  subst hl
  exact ⟨rowF_len l, .inr ⟨G, l.length, row, rfl, hb, hrow, Nat.le_refl _, by unfold maxLen; omega, hsz, ht⟩⟩
theorem own_rowP {W : World} {G n base : Nat} {row : Array Value} {l : List Pt} (hrow : W.heap[G]? = some (.cells row 23 (0, 0))) (hsz : row.size = n * 2) (ht : row.toList.take (n * 2) = rowP l) (hl : l.length = n) (hn : n ≤ 65) (hb : base ≤ G) :
    W.ownsRow base 23 2 (.slice (some ⟨G, 0, none⟩) l.length n) l.length (rowP l) := by
  subst hl
  exact ⟨rowP_len l, .inr ⟨G, l.length, row, rfl, hb, hrow, Nat.le_refl _, by unfold maxLen; omega, hsz, ht⟩⟩

/-- what is told of a reply that was read: its lists lie in memory of the call's own -/
def GotR (r : Rp) (e : Int) (w : World) (x : Ending) (w' : World) : Prop :=
  ∃ FA PA fc pc, x = .returned (.tuple #[.agg #[.int .i64 r.e, .int .i64 r.off, .int .i64 r.n, .int .i64 r.gen, .slice FA r.found.length fc, .slice PA r.parts.length pc], .int .i64 e]) ∧
    w'.ownsRow w.heap.size 95 5 (.slice FA r.found.length fc) r.found.length (rowF r.found) ∧ w'.ownsRow w.heap.size 23 2 (.slice PA r.parts.length pc) r.parts.length (rowP r.parts) ∧ Below w.heap.size w w'

/-- a block that is not the reader's stays as the reader reads -/
theorem g_row {w w' : World} {P b : Nat} {x : Obj} (h : w.grownBy w' (some P)) (hx : w.heap[b]? = some x) (hb : b ≠ P) : w'.heap[b]? = some x := (h.block b (at_lt hx) (fun e => hb (Option.some.inj e))).trans hx
theorem g_bel {B P : Nat} {w w1 w2 : World} (h : Below B w w1) (hg : w1.grownBy w2 (some P)) (hB : B ≤ w1.heap.size) (hP : B ≤ P) : Below B w w2 := h.grown hg hB (fun j e => by have := Option.some.inj e; omega)
theorem new_set (w : World) (a : Addr) (v : Value) {o : Obj} : ((w.setCell a v).alloc o).heap[w.heap.size]? = some o := by
  have := heap_alloc_new (w.setCell a v) o
  rwa [show (w.setCell a v).heap.size = w.heap.size by simp] at this
theorem setF_other {W : World} {G j b : Nat} {v0 v1 v2 v3 v4 : Value} (hb : b ≠ G) : (((((W.setCell ⟨G, j, none⟩ v0).setCell ⟨G, j + 1, none⟩ v1).setCell ⟨G, j + 2, none⟩ v2).setCell ⟨G, j + 3, none⟩ v3).setCell ⟨G, j + 4, none⟩ v4).heap[b]? = W.heap[b]? := by
  rw [heap_setCell_other _ ⟨G, j + 4, none⟩ b _ hb, heap_setCell_other _ ⟨G, j + 3, none⟩ b _ hb, heap_setCell_other _ ⟨G, j + 2, none⟩ b _ hb, heap_setCell_other _ ⟨G, j + 1, none⟩ b _ hb, heap_setCell_other _ ⟨G, j, none⟩ b _ hb]
theorem setF_below {w W : World} {B G j : Nat} {v0 v1 v2 v3 v4 : Value} (h : Below B w W) (hG : B ≤ G) : Below B w (((((W.setCell ⟨G, j, none⟩ v0).setCell ⟨G, j + 1, none⟩ v1).setCell ⟨G, j + 2, none⟩ v2).setCell ⟨G, j + 3, none⟩ v3).setCell ⟨G, j + 4, none⟩ v4) :=
  ((((h.setCell (p := ⟨G, j, none⟩) hG v0).setCell (p := ⟨G, j + 1, none⟩) hG v1).setCell (p := ⟨G, j + 2, none⟩) hG v2).setCell (p := ⟨G, j + 3, none⟩) hG v3).setCell (p := ⟨G, j + 4, none⟩) hG v4
theorem rdr_other {w w' : World} {P : Nat} {s : ByteArray} {p : Option Int} (h : Rdr P s p w) (hk : w'.heap[P]? = w.heap[P]?) : Rdr P s p w' := by
  obtain ⟨a, h1, h2⟩ := h
  exact ⟨a, hk.trans h1, h2⟩
theorem rdr_set {w : World} {P H k : Nat} {s : ByteArray} {p : Option Int} {v : Value} (h : Rdr P s p w) (hH : P ≠ H) : Rdr P s p (w.setCell ⟨H, k, none⟩ v) := by
  obtain ⟨a, h1, h2⟩ := h
  exact ⟨a, (heap_setCell_other _ ⟨H, k, none⟩ P v hH).trans h1, h2⟩
theorem setP_other {W : World} {G j b : Nat} {v0 v1 : Value} (hb : b ≠ G) : ((W.setCell ⟨G, j, none⟩ v0).setCell ⟨G, j + 1, none⟩ v1).heap[b]? = W.heap[b]? := by
  rw [heap_setCell_other _ ⟨G, j + 1, none⟩ b _ hb, heap_setCell_other _ ⟨G, j, none⟩ b _ hb]
theorem setF_cell {W : World} {G H i j : Nat} {v v0 v1 v2 v3 v4 : Value} (hb : H ≠ G) (h : W.cell? ⟨H, i, none⟩ = some v) : (((((W.setCell ⟨G, j, none⟩ v0).setCell ⟨G, j + 1, none⟩ v1).setCell ⟨G, j + 2, none⟩ v2).setCell ⟨G, j + 3, none⟩ v3).setCell ⟨G, j + 4, none⟩ v4).cell? ⟨H, i, none⟩ = some v := (World.cell?_of_block (a := ⟨H, i, none⟩) (setF_other hb)).trans h
theorem setP_cell {W : World} {G H i j : Nat} {v v0 v1 : Value} (hb : H ≠ G) (h : W.cell? ⟨H, i, none⟩ = some v) : ((W.setCell ⟨G, j, none⟩ v0).setCell ⟨G, j + 1, none⟩ v1).cell? ⟨H, i, none⟩ = some v := (World.cell?_of_block (a := ⟨H, i, none⟩) (setP_other hb)).trans h
/-- what stands behind the reading of a reply -/
structure MidR (s : ByteArray) (n1 n2 n3 n4 : Nat) (l6 : List Fd) (l8 : List Pt) (n5 n7 : Nat) (q : Option Int) (w : World) (H F G : Nat) (row rowp : Array Value) (wr : World) : Prop where
  r : Rdr (w.heap.size + 1) s q wr
  h : wr.heap[H]? = some (.cells #[.int .i64 n1, .int .i64 n2, .int .i64 n3, .int .i64 n4, .slice (some ⟨F, 0, none⟩) n5 n5, .slice (some ⟨G, 0, none⟩) n7 n7] 59 (0, 0))
  z : wr.heap[w.heap.size]? = some (.cells #[.int .i64 0, .int .i64 0, .int .i64 0, .int .i64 0, .slice none 0 0, .slice none 0 0] 59 (0, 0))
  f : wr.heap[F]? = some (.cells row 95 (0, 0))
  p : wr.heap[G]? = some (.cells rowp 23 (0, 0))
  b : Below w.heap.size w wr
theorem MidR.below {s : ByteArray} {n1 n2 n3 n4 : Nat} {l6 : List Fd} {l8 : List Pt} {n5 n7 : Nat} {q : Option Int} {w : World} {H F G : Nat} {row rowp : Array Value} {wr w' : World} (h : MidR s n1 n2 n3 n4 l6 l8 n5 n7 q w H F G row rowp wr) (hb : Below wr.heap.size wr w') : MidR s n1 n2 n3 n4 l6 l8 n5 n7 q w H F G row rowp w' :=
  ⟨h.r.below hb, (hb.block _ (at_lt h.h)).trans h.h, (hb.block _ (at_lt h.z)).trans h.z, (hb.block _ (at_lt h.f)).trans h.f, (hb.block _ (at_lt h.p)).trans h.p, h.b.trans (hb.mono h.b.size)⟩
theorem set6 {w : World} {H : Nat} {a0 a1 a2 a3 a4 a5 v0 v1 v2 v3 v4 v5 : Value} {T : TypeId} (h : w.heap[H]? = some (.cells #[a0, a1, a2, a3, a4, a5] T (0, 0))) :
    ((((((w.setCell ⟨H, 0, none⟩ v0).setCell ⟨H, 1, none⟩ v1).setCell ⟨H, 2, none⟩ v2).setCell ⟨H, 3, none⟩ v3).setCell ⟨H, 4, none⟩ v4).setCell ⟨H, 5, none⟩ v5).heap[H]? = some (.cells #[v0, v1, v2, v3, v4, v5] T (0, 0)) :=
  heap_setCell_same _ H 5 _ _ v5 (heap_setCell_same _ H 4 _ _ v4 (heap_setCell_same _ H 3 _ _ v3 (heap_setCell_same _ H 2 _ _ v2 (heap_setCell_same _ H 1 _ _ v1 (heap_setCell_same _ H 0 _ _ v0 h)))))
theorem set6_own {w : World} {base k G : Nat} {T : TypeId} {m : Nat} {V : Value} {xs : List Value} (h : w.ownsRow base T m V k xs) (hG : G < base) (v0 v1 v2 v3 v4 v5 : Value) :
    ((((((w.setCell ⟨G, 0, none⟩ v0).setCell ⟨G, 1, none⟩ v1).setCell ⟨G, 2, none⟩ v2).setCell ⟨G, 3, none⟩ v3).setCell ⟨G, 4, none⟩ v4).setCell ⟨G, 5, none⟩ v5).ownsRow base T m V k xs :=
  ownsRow_setCell_below (ownsRow_setCell_below (ownsRow_setCell_below (ownsRow_setCell_below (ownsRow_setCell_below (ownsRow_setCell_below h (a := ⟨G, 0, none⟩) hG v0) (a := ⟨G, 1, none⟩) hG v1) (a := ⟨G, 2, none⟩) hG v2) (a := ⟨G, 3, none⟩) hG v3) (a := ⟨G, 4, none⟩) hG v4) (a := ⟨G, 5, none⟩) hG v5
theorem set6_below {w w1 : World} {B H : Nat} (h : Below B w w1) (hH : B ≤ H) (v0 v1 v2 v3 v4 v5 : Value) :
    Below B w ((((((w1.setCell ⟨H, 0, none⟩ v0).setCell ⟨H, 1, none⟩ v1).setCell ⟨H, 2, none⟩ v2).setCell ⟨H, 3, none⟩ v3).setCell ⟨H, 4, none⟩ v4).setCell ⟨H, 5, none⟩ v5) :=
  (((((h.setCell (p := ⟨H, 0, none⟩) hH v0).setCell (p := ⟨H, 1, none⟩) hH v1).setCell (p := ⟨H, 2, none⟩) hH v2).setCell (p := ⟨H, 3, none⟩) hH v3).setCell (p := ⟨H, 4, none⟩) hH v4).setCell (p := ⟨H, 5, none⟩) hH v5


theorem get_rdr6 (w : World) (s : ByteArray) : Rdr (w.heap.size + 1) s (some 0) ((w.alloc (.cells #[.int .i64 0, .int .i64 0, .int .i64 0, .int .i64 0, .slice none 0 0, .slice none 0 0] 59 (0, 0))).alloc (.cells #[.string s, .int .i64 0, .bool false] 47 (0, 0))) :=
  ⟨0, heap_alloc2_new w _ _, fun _ q => Option.some.inj q⟩

set_option maxRecDepth 100000 in
set_option maxHeartbeats 16000000 in
theorem parse_in (s : ByteArray) (r : Rp) (q : Option Int) (w : World) (hs : s.size ≤ 140737488355328) (HO : Hid (readR s 64 = (r, q))) :
    Calls Tryz.prog 20 #[.string s] w (GotR (if q = some (s.size : Int) ∧ r.chk = 0 then r else Rp.zero) (if q = some (s.size : Int) ∧ r.chk = 0 then 0 else 40) w) := by
  have HSZ := Lib.hid hs
  have HSM : Hid (s.size ≤ maxLen) := Lib.hid (by unfold maxLen; omega)
  obtain ⟨n1, p1, h1⟩ : ∃ n p, rNum s 1099511627776 (some 0) = (n, p) := ⟨_, _, rfl⟩
  obtain ⟨n2, p2, h2⟩ : ∃ n p, rNum s 1099511627776 p1 = (n, p) := ⟨_, _, rfl⟩
  obtain ⟨n3, p3, h3⟩ : ∃ n p, rNum s 1099511627776 p2 = (n, p) := ⟨_, _, rfl⟩
  obtain ⟨n4, p4, h4⟩ : ∃ n p, rNum s 1099511627776 p3 = (n, p) := ⟨_, _, rfl⟩
  obtain ⟨n5, p5, h5⟩ : ∃ n p, rNum s 64 p4 = (n, p) := ⟨_, _, rfl⟩
  obtain ⟨l6, p6, h6⟩ : ∃ n p, rMany (rFd s) p5 n5 = (n, p) := ⟨_, _, rfl⟩
  obtain ⟨n7, p7, h7⟩ : ∃ n p, rNum s 64 p6 = (n, p) := ⟨_, _, rfl⟩
  obtain ⟨l8, p8, h8⟩ : ∃ n p, rMany (rPt s) p7 n7 = (n, p) := ⟨_, _, rfl⟩
  have n5l := num_le h5
  have n7l := num_le h7
  have hO := HO.out
  unfold readR at hO
  simp only [rFds, rPts, h1, h2, h3, h4, h5, show min n5 65 = n5 by omega, h6, h7, show min n7 65 = n7 by omega, h8] at hO
  obtain ⟨hre, hqe⟩ := Prod.mk.inj hO
  have HSMALL : Hid (SmallR r) := Lib.hid (by have := readR_small s 64; rw [HO.out] at this; exact this)
  have L6 : Hid (l6.length = n5) := Lib.hid (by have := many_len (rFd s) p5 n5; rw [h6] at this; exact this)
  have L8 : Hid (l8.length = n7) := Lib.hid (by have := many_len (rPt s) p7 n7; rw [h8] at this; exact this)
  have HN1 := Lib.hid h1
  have HN2 := Lib.hid h2
  have HN3 := Lib.hid h3
  have HN4 := Lib.hid h4
  have HN5 := Lib.hid h5
  have HN6 := Lib.hid h6
  have HN7 := Lib.hid h7
  have HN8 := Lib.hid h8
  subst hre
  subst hqe
  have hmk1 := make_found n5 n5l
  have hmk2 := make_parts n7 n7l
  obtain ⟨rr, hrr⟩ : ∃ x : Rp, x = ⟨n1, n2, n3, n4, l6, l8⟩ := ⟨_, rfl⟩
  rw [← hrr] at HSMALL ⊢
  obtain ⟨R', hR'⟩ : ∃ x, (if p8 = some (s.size : Int) ∧ rr.chk = 0 then rr else Rp.zero) = x := ⟨_, rfl⟩
  obtain ⟨E', hE'⟩ : ∃ x : Int, (if p8 = some (s.size : Int) ∧ rr.chk = 0 then 0 else 40) = x := ⟨_, rfl⟩
  rw [hR', hE']
  have HRRR := Lib.hid hrr
  clear hrr
  have HRR := Lib.hid hR'
  have HEE := Lib.hid hE'
  clear h1 h2 h3 h4 h5 h6 h7 h8 hO hs HO hR' hE'
  go_enter Tryz.func20, Tryz.ntmps20
  go_wp2_with (first
    | (go_at_call 12; refine (get_num (w.heap.size + 1) s 64 p4 p5 n5 _ HSM.out (by omega) HN5 (HR4.out.below (one_box _))).mono ?_; rintro e w5 ⟨rfl, hr, hg⟩; have HR5 := Lib.hid hr; have HG5 := Lib.hid hg; have row5 := g_row hg (heap_alloc_new w4 (.cells #[.int .i64 n1, .int .i64 n2, .int .i64 n3, .int .i64 n4, .slice none 0 0, .slice none 0 0] 59 (0, 0))) (by have := HR4.out.lt; omega); have y4 := row_of (j := 4) row5 rfl; have f4 := frozen_of_row _ _ 4 _ _ row5; have hz5 : w4.heap.size < w5.heap.size := at_lt row5; have ROW5 := Lib.hid row5; clear hr hg row5)
    | (go_at_call 12; refine (get_num (w.heap.size + 1) s 1099511627776 p3 p4 n4 _ HSM.out (by omega) HN4 HR3.out).mono ?_; rintro e w4 ⟨rfl, hr, hg⟩; have HR4 := Lib.hid hr; have HG4 := Lib.hid hg; clear hr hg)
    | (go_at_call 12; refine (get_num (w.heap.size + 1) s 1099511627776 p2 p3 n3 _ HSM.out (by omega) HN3 HR2.out).mono ?_; rintro e w3 ⟨rfl, hr, hg⟩; have HR3 := Lib.hid hr; have HG3 := Lib.hid hg; clear hr hg)
    | (go_at_call 12; refine (get_num (w.heap.size + 1) s 1099511627776 p1 p2 n2 _ HSM.out (by omega) HN2 HR1.out).mono ?_; rintro e w2 ⟨rfl, hr, hg⟩; have HR2 := Lib.hid hr; have HG2 := Lib.hid hg; clear hr hg)
    | (go_at_call 12; refine (get_num (w.heap.size + 1) s 1099511627776 (some 0) p1 n1 _ HSM.out (by omega) HN1 (get_rdr6 w s)).mono ?_; rintro e w1 ⟨rfl, hr, hg⟩; have HR1 := Lib.hid hr; have HG1 := Lib.hid hg; clear hr hg))
  clear hmk1 y4 f4
  have hP1 : w.heap.size + 1 < w1.heap.size := HR1.out.lt
  have hz14 : w1.heap.size ≤ w4.heap.size := Nat.le_trans HG2.out.size (Nat.le_trans HG3.out.size HG4.out.size)
  have B4 : Hid (Below w.heap.size w w4) := Lib.hid (g_bel (g_bel (g_bel (g_bel (two_box (.cells #[.int .i64 0, .int .i64 0, .int .i64 0, .int .i64 0, .slice none 0 0, .slice none 0 0] 59 (0, 0)) _) HG1.out (by simp; omega) (by omega)) HG2.out (by omega) (by omega)) HG3.out (by have := HG2.out.size; omega) (by omega)) HG4.out (by have := HG2.out.size; have := HG3.out.size; omega) (by omega))
  have Z4 : Hid (w4.heap[w.heap.size]? = some (.cells #[.int .i64 0, .int .i64 0, .int .i64 0, .int .i64 0, .slice none 0 0, .slice none 0 0] 59 (0, 0))) := Lib.hid (g_row HG4.out (g_row HG3.out (g_row HG2.out (g_row HG1.out (heap_alloc2_old w _ _) (by omega)) (by omega)) (by omega)) (by omega))
  have B5 : Hid (Below w.heap.size w w5) := Lib.hid (g_bel (B4.out.alloc B4.out.size (.cells #[.int .i64 n1, .int .i64 n2, .int .i64 n3, .int .i64 n4, .slice none 0 0, .slice none 0 0] 59 (0, 0))) HG5.out (by have := B4.out.size; simp; omega) (by omega))
  have Z5 : Hid (w5.heap[w.heap.size]? = some (.cells #[.int .i64 0, .int .i64 0, .int .i64 0, .int .i64 0, .slice none 0 0, .slice none 0 0] 59 (0, 0))) := Lib.hid (g_row HG5.out ((Below.heap_alloc w4 (.cells #[.int .i64 n1, .int .i64 n2, .int .i64 n3, .int .i64 n4, .slice none 0 0, .slice none 0 0] 59 (0, 0)) _ (at_lt Z4.out)).trans Z4.out) (by omega))
  have r5 : Hid (((w5.setCell ⟨w4.heap.size, 4, none⟩ (.slice (some ⟨w5.heap.size, 0, none⟩) n5 n5)).alloc (.cells (madeCells zeroF (n5 * 5)) 95 (0, 0))).heap[w4.heap.size]? = some (.cells #[.int .i64 n1, .int .i64 n2, .int .i64 n3, .int .i64 n4, .slice (some ⟨w5.heap.size, 0, none⟩) n5 n5, .slice none 0 0] 59 (0, 0))) := Lib.hid ((Below.heap_alloc _ _ _ (by simp; omega)).trans (heap_setCell_same w5 w4.heap.size 4 _ _ (.slice (some ⟨w5.heap.size, 0, none⟩) n5 n5) ROW5.out))
  have fL : Hid (((w5.setCell ⟨w4.heap.size, 4, none⟩ (.slice (some ⟨w5.heap.size, 0, none⟩) n5 n5)).alloc (.cells (madeCells zeroF (n5 * 5)) 95 (0, 0))).heap[w5.heap.size]? = some (.cells (madeCells zeroF (n5 * 5)) 95 (0, 0))) := Lib.hid (new_set _ _ _)
  have zL : Hid (((w5.setCell ⟨w4.heap.size, 4, none⟩ (.slice (some ⟨w5.heap.size, 0, none⟩) n5 n5)).alloc (.cells (madeCells zeroF (n5 * 5)) 95 (0, 0))).heap[w.heap.size]? = some (.cells #[.int .i64 0, .int .i64 0, .int .i64 0, .int .i64 0, .slice none 0 0, .slice none 0 0] 59 (0, 0))) := Lib.hid ((Below.heap_alloc _ _ _ (by have := at_lt Z5.out; simp; omega)).trans ((heap_setCell_other _ ⟨w4.heap.size, 4, none⟩ w.heap.size _ (by show w.heap.size ≠ w4.heap.size; omega)).trans Z5.out))
  have rL : Hid (Rdr (w.heap.size + 1) s p5 ((w5.setCell ⟨w4.heap.size, 4, none⟩ (.slice (some ⟨w5.heap.size, 0, none⟩) n5 n5)).alloc (.cells (madeCells zeroF (n5 * 5)) 95 (0, 0)))) := Lib.hid ((rdr_set HR5.out (by omega)).below (one_box _))
  have bL : Hid (Below w.heap.size w ((w5.setCell ⟨w4.heap.size, 4, none⟩ (.slice (some ⟨w5.heap.size, 0, none⟩) n5 n5)).alloc (.cells (madeCells zeroF (n5 * 5)) 95 (0, 0)))) := Lib.hid ((B5.out.setCell (p := ⟨w4.heap.size, 4, none⟩) B4.out.size _).alloc (by have := B5.out.size; simp; omega) _)
  go_loopw [21] (fun i wr => ∃ (k : Nat) (row : Array Value), k ≤ n5 ∧ i = .int .i64 k ∧ Hid (Rdr (w.heap.size + 1) s (rMany (rFd s) p5 k).2 wr) ∧ Hid (wr.heap[w5.heap.size]? = some (.cells row 95 (0, 0))) ∧ row.size = n5 * 5 ∧ Hid (row.toList.take (k * 5) = rowF (rMany (rFd s) p5 k).1) ∧ Hid (wr.heap[w4.heap.size]? = some (.cells #[.int .i64 n1, .int .i64 n2, .int .i64 n3, .int .i64 n4, .slice (some ⟨w5.heap.size, 0, none⟩) n5 n5, .slice none 0 0] 59 (0, 0))) ∧ Hid (wr.heap[w.heap.size]? = some (.cells #[.int .i64 0, .int .i64 0, .int .i64 0, .int .i64 0, .slice none 0 0, .slice none 0 0] 59 (0, 0))) ∧ Hid (Below w.heap.size w wr)) (fun i _ => n5 - (intOf i).toNat)
  case atStart => exact ⟨0, _, by omega, rfl, rL, fL, size_madeCells _ _, Lib.hid (by simp [rMany, rowF]), r5, zL, bL⟩
  clear r5 fL zL rL bL B4 Z4 B5 Z5
  case round =>
    obtain ⟨k, row, hk, rfl, HRK, hrow, hsz, htk, HH, HZ, HB⟩ := hrel
    by_cases hlt : k < n5
    · obtain ⟨n, pa, ha⟩ : ∃ n p, rNum s 1099511627776 (rMany (rFd s) p5 k).2 = (n, p) := ⟨_, _, rfl⟩
      obtain ⟨⟨hk', key, tb, val⟩, pb, hb⟩ : ∃ x p, rRec s pa = (x, p) := ⟨_, _, rfl⟩
      have HA := Lib.hid ha
      have HBB := Lib.hid hb
      have HNX : Hid (rMany (rFd s) p5 (k + 1) = ((rMany (rFd s) p5 k).1 ++ [⟨(n : Int), ⟨hk', key, tb, val⟩⟩], pb)) := Lib.hid (by simp only [rMany, rFd, ha, hb])
      have HSZR := Lib.hid hsz
      have hLr : w5.heap.size < wr.heap.size := at_lt hrow.out
      have x4 : wr.cell? ⟨w4.heap.size, 4, none⟩ = some (.slice (some ⟨w5.heap.size, 0, none⟩) n5 n5) := row_of HH.out rfl
      have k0 : (0 : Int) ≤ (k : Int) := by omega
      have kl : (k : Int) < (n5 : Int) := by omega
      have HNE : Hid (w4.heap.size ≠ w5.heap.size) := Lib.hid (by omega)
      clear ha hb hmk2
      go_wp2_with fail
      go_region_held3 (fun w' => w'.cell? ⟨w4.heap.size, 4, none⟩ = some (.slice (some ⟨w5.heap.size, 0, none⟩) n5 n5))
        (first | with_reducible assumption | with_reducible exact drew_cell x4 | with_reducible exact setF_cell HNE.out y4)
        (first
          | (go_at_call 40; refine (get_rec (w.heap.size + 1) s pa pb _ _ HSZ.out HBB HR6.out).mono ?_; rintro e w7 ⟨rfl, hr, hg⟩; have hH7 := g_row hg HH6.out (by omega); have hL7 := g_row hg HL6.out (by omega); have y4 : w7.cell? ⟨w4.heap.size, 4, none⟩ = some (.slice (some ⟨w5.heap.size, 0, none⟩) n5 n5) := row_of hH7 rfl; obtain ⟨v0, hv0⟩ := cell_in hL7 (by omega : k * 5 < row.size); obtain ⟨v1, hv1⟩ := cell_in hL7 (by omega : k * 5 + 1 < row.size); obtain ⟨v2, hv2⟩ := cell_in hL7 (by omega : k * 5 + 2 < row.size); obtain ⟨v3, hv3⟩ := cell_in hL7 (by omega : k * 5 + 3 < row.size); obtain ⟨v4, hv4⟩ := cell_in hL7 (by omega : k * 5 + 4 < row.size); have f0 := frozen_of_row _ _ (k * 5) _ _ hL7; have f1 := frozen_of_row _ _ (k * 5 + 1) _ _ hL7; have f2 := frozen_of_row _ _ (k * 5 + 2) _ _ hL7; have f3 := frozen_of_row _ _ (k * 5 + 3) _ _ hL7; have f4 := frozen_of_row _ _ (k * 5 + 4) _ _ hL7; have HR7 := Lib.hid hr; have HG7 := Lib.hid hg; have HL7 := Lib.hid hL7; have HH7 := Lib.hid hH7; clear hr hg hH7 hL7)
          | (go_at_call 12; refine (get_num (w.heap.size + 1) s 1099511627776 _ pa n _ HSM.out (by omega) HA (HRK.out.below (Below.refl _ _).drew)).mono ?_; rintro e w6 ⟨rfl, hr, hg⟩; have hH6 := g_row hg (show wr.drew.heap[w4.heap.size]? = _ from HH.out) (by omega); have x6 : w6.cell? ⟨w4.heap.size, 4, none⟩ = some (.slice (some ⟨w5.heap.size, 0, none⟩) n5 n5) := row_of hH6 rfl; have HH6 := Lib.hid hH6; have HL6 := Lib.hid (g_row hg (show wr.drew.heap[w5.heap.size]? = _ from hrow.out) (by omega)); have HR6 := Lib.hid hr; have HG6 := Lib.hid hg; clear hr hg hH6))
      obtain ⟨row', q1, q2, q3⟩ := rowF_next (f := ⟨(n : Int), ⟨hk', key, tb, val⟩⟩) HL7.out HSZR.out htk.out hlt
      have B7 := Lib.hid (g_bel (g_bel HB.out.drew HG6.out HB.out.size (by omega)) HG7.out (Nat.le_trans HB.out.size HG6.out.size) (by omega))
      have HZ7 := Lib.hid (g_row HG7.out (g_row HG6.out (show wr.drew.heap[w.heap.size]? = _ from HZ.out) (by omega)) (by omega))
      go_wp2_with fail
      go_roundw
      case rel => exact ⟨k + 1, row', by omega, by go_num, Lib.hid (by rw [HNX.out]; exact rdr_other HR7.out (setF_other (by omega))), Lib.hid q1, q2, Lib.hid (by rw [HNX.out]; exact q3), Lib.hid ((setF_other (by omega)).trans HH7.out), Lib.hid ((setF_other (by omega)).trans HZ7.out), Lib.hid (setF_below B7.out (by omega))⟩
      case measure => simp [intOf]; omega
    · obtain rfl : n5 = k := by omega
      rw [HN6.out] at HRK htk
      have y5 : wr.cell? ⟨w4.heap.size, 5, none⟩ = some (.slice none 0 0) := row_of HH.out rfl
      have hsz4 : w4.heap.size < wr.heap.size := at_lt HH.out
      have HSZ1 := Lib.hid hsz
      have hw54 : w5.heap.size < wr.heap.size := at_lt hrow.out
      have hwP : w.heap.size + 1 < wr.heap.size := HRK.out.lt
      clear y5 hsz
      go_wp2_with (go_at_call 12; refine (get_num (w.heap.size + 1) s 64 p6 p7 n7 _ HSM.out (by omega) HN7 HRK.out).mono ?_; rintro e w8 ⟨rfl, hr, hg⟩; have HR8 := Lib.hid hr; have HG8 := Lib.hid hg; have row8 := g_row hg HH.out (by omega); have y5 := row_of (j := 5) row8 rfl; have f5 := frozen_of_row _ _ 5 _ _ row8; have hz8 : w4.heap.size < w8.heap.size := at_lt row8; have ROW8 := Lib.hid row8; clear hr hg row8)
      clear hmk2 y5 f5
      have hz88 : wr.heap.size ≤ w8.heap.size := HG8.out.size
      have B8 := Lib.hid (g_bel HB.out HG8.out HB.out.size (by omega))
      have Z8 := Lib.hid (g_row HG8.out HZ.out (by omega))
      have F8 := Lib.hid (g_row HG8.out hrow.out (by omega))
      have rH : Hid (((w8.setCell ⟨w4.heap.size, 5, none⟩ (.slice (some ⟨w8.heap.size, 0, none⟩) n7 n7)).alloc (.cells (madeCells zeroP (n7 * 2)) 23 (0, 0))).heap[w4.heap.size]? = some (.cells #[.int .i64 n1, .int .i64 n2, .int .i64 n3, .int .i64 n4, .slice (some ⟨w5.heap.size, 0, none⟩) n5 n5, .slice (some ⟨w8.heap.size, 0, none⟩) n7 n7] 59 (0, 0))) := Lib.hid ((Below.heap_alloc _ _ _ (by simp; omega)).trans (heap_setCell_same w8 w4.heap.size 5 _ _ (.slice (some ⟨w8.heap.size, 0, none⟩) n7 n7) ROW8.out))
      have rP : Hid (((w8.setCell ⟨w4.heap.size, 5, none⟩ (.slice (some ⟨w8.heap.size, 0, none⟩) n7 n7)).alloc (.cells (madeCells zeroP (n7 * 2)) 23 (0, 0))).heap[w8.heap.size]? = some (.cells (madeCells zeroP (n7 * 2)) 23 (0, 0))) := Lib.hid (new_set _ _ _)
      have rF : Hid (((w8.setCell ⟨w4.heap.size, 5, none⟩ (.slice (some ⟨w8.heap.size, 0, none⟩) n7 n7)).alloc (.cells (madeCells zeroP (n7 * 2)) 23 (0, 0))).heap[w5.heap.size]? = some (.cells row 95 (0, 0))) := Lib.hid ((Below.heap_alloc _ _ _ (by simp; omega)).trans ((heap_setCell_other _ ⟨w4.heap.size, 5, none⟩ w5.heap.size _ (by show w5.heap.size ≠ w4.heap.size; omega)).trans F8.out))
      have rZ : Hid (((w8.setCell ⟨w4.heap.size, 5, none⟩ (.slice (some ⟨w8.heap.size, 0, none⟩) n7 n7)).alloc (.cells (madeCells zeroP (n7 * 2)) 23 (0, 0))).heap[w.heap.size]? = some (.cells #[.int .i64 0, .int .i64 0, .int .i64 0, .int .i64 0, .slice none 0 0, .slice none 0 0] 59 (0, 0))) := Lib.hid ((Below.heap_alloc _ _ _ (by simp; omega)).trans ((heap_setCell_other _ ⟨w4.heap.size, 5, none⟩ w.heap.size _ (by show w.heap.size ≠ w4.heap.size; omega)).trans Z8.out))
      have rR : Hid (Rdr (w.heap.size + 1) s p7 ((w8.setCell ⟨w4.heap.size, 5, none⟩ (.slice (some ⟨w8.heap.size, 0, none⟩) n7 n7)).alloc (.cells (madeCells zeroP (n7 * 2)) 23 (0, 0)))) := Lib.hid ((rdr_set HR8.out (by omega)).below (one_box _))
      have rB : Hid (Below w.heap.size w ((w8.setCell ⟨w4.heap.size, 5, none⟩ (.slice (some ⟨w8.heap.size, 0, none⟩) n7 n7)).alloc (.cells (madeCells zeroP (n7 * 2)) 23 (0, 0)))) := Lib.hid ((B8.out.setCell (p := ⟨w4.heap.size, 5, none⟩) (by show w.heap.size ≤ w4.heap.size; omega) _).alloc (by have := B8.out.size; simp; omega) _)
      clear HRK HB HZ HH hrow
      go_loopw [38] (fun i wq => ∃ (k : Nat) (rowp : Array Value), k ≤ n7 ∧ i = .int .i64 k ∧ Hid (Rdr (w.heap.size + 1) s (rMany (rPt s) p7 k).2 wq) ∧ Hid (wq.heap[w8.heap.size]? = some (.cells rowp 23 (0, 0))) ∧ rowp.size = n7 * 2 ∧ Hid (rowp.toList.take (k * 2) = rowP (rMany (rPt s) p7 k).1) ∧ Hid (wq.heap[w4.heap.size]? = some (.cells #[.int .i64 n1, .int .i64 n2, .int .i64 n3, .int .i64 n4, .slice (some ⟨w5.heap.size, 0, none⟩) n5 n5, .slice (some ⟨w8.heap.size, 0, none⟩) n7 n7] 59 (0, 0))) ∧ Hid (wq.heap[w.heap.size]? = some (.cells #[.int .i64 0, .int .i64 0, .int .i64 0, .int .i64 0, .slice none 0 0, .slice none 0 0] 59 (0, 0))) ∧ Hid (wq.heap[w5.heap.size]? = some (.cells row 95 (0, 0))) ∧ Hid (Below w.heap.size w wq)) (fun i _ => n7 - (intOf i).toNat)
      case atStart => exact ⟨0, _, by omega, rfl, rR, rP, size_madeCells _ _, Lib.hid (by simp [rMany, rowP]), rH, rZ, rF, rB⟩
      clear rH rP rF rZ rR rB B8 Z8 F8
      case round =>
        obtain ⟨k, rowp, hk, rfl, HRK, hrow, hsz, htkp, HH, HZ, HF, HB⟩ := hrel
        by_cases hlt2 : k < n7
        · obtain ⟨t, pa, ha⟩ : ∃ n p, rTxt s (rMany (rPt s) p7 k).2 = (n, p) := ⟨_, _, rfl⟩
          obtain ⟨n, pb, hb⟩ : ∃ n p, rNum s 1099511627776 pa = (n, p) := ⟨_, _, rfl⟩
          have HA := Lib.hid ha
          have HBB := Lib.hid hb
          have HNX : Hid (rMany (rPt s) p7 (k + 1) = ((rMany (rPt s) p7 k).1 ++ [⟨t, (n : Int)⟩], pb)) := Lib.hid (by simp only [rMany, rPt, ha, hb])
          have HSZR := Lib.hid hsz
          have hLr : w8.heap.size < wr.heap.size := at_lt hrow.out
          have x5 : wr.cell? ⟨w4.heap.size, 5, none⟩ = some (.slice (some ⟨w8.heap.size, 0, none⟩) n7 n7) := row_of HH.out rfl
          have k0 : (0 : Int) ≤ (k : Int) := by omega
          have kl : (k : Int) < (n7 : Int) := by omega
          have HNE2 : Hid (w4.heap.size ≠ w8.heap.size) := Lib.hid (by omega)
          clear ha hb
          go_wp2_with fail
          go_region_held3 (fun w' => w'.cell? ⟨w4.heap.size, 5, none⟩ = some (.slice (some ⟨w8.heap.size, 0, none⟩) n7 n7))
            (first | with_reducible assumption | with_reducible exact drew_cell x5 | with_reducible exact setP_cell HNE2.out y5)
            (first
              | (go_at_call 12; refine (get_num (w.heap.size + 1) s 1099511627776 pa pb n _ HSM.out (by omega) HBB HR9.out).mono ?_; rintro e w10 ⟨rfl, hr, hg⟩; have hH7 := g_row hg HH9.out (by omega); have hL7 := g_row hg HL9.out (by omega); have y5 : w10.cell? ⟨w4.heap.size, 5, none⟩ = some (.slice (some ⟨w8.heap.size, 0, none⟩) n7 n7) := row_of hH7 rfl; obtain ⟨v0, hv0⟩ := cell_in hL7 (by omega : k * 2 < rowp.size); obtain ⟨v1, hv1⟩ := cell_in hL7 (by omega : k * 2 + 1 < rowp.size); have f0 := frozen_of_row _ _ (k * 2) _ _ hL7; have f1 := frozen_of_row _ _ (k * 2 + 1) _ _ hL7; have HR10 := Lib.hid hr; have HG10 := Lib.hid hg; have HL10 := Lib.hid hL7; have HH10 := Lib.hid hH7; clear hr hg hH7 hL7)
              | (go_at_call 41; refine (get_txt (w.heap.size + 1) s _ pa t _ (by have := HSZ.out; omega) HA (HRK.out.below (Below.refl _ _).drew)).mono ?_; rintro e w9 ⟨rfl, hr, hg⟩; have hH6 := g_row hg (show wr.drew.heap[w4.heap.size]? = _ from HH.out) (by omega); have x6 : w9.cell? ⟨w4.heap.size, 5, none⟩ = some (.slice (some ⟨w8.heap.size, 0, none⟩) n7 n7) := row_of hH6 rfl; have HH9 := Lib.hid hH6; have HL9 := Lib.hid (g_row hg (show wr.drew.heap[w8.heap.size]? = _ from hrow.out) (by omega)); have HR9 := Lib.hid hr; have HG9 := Lib.hid hg; clear hr hg hH6))
          obtain ⟨row', q1, q2, q3⟩ := rowP_next (f := ⟨t, (n : Int)⟩) HL10.out HSZR.out htkp.out hlt2
          have B10 := Lib.hid (g_bel (g_bel HB.out.drew HG9.out HB.out.size (by omega)) HG10.out (Nat.le_trans HB.out.size HG9.out.size) (by omega))
          have HZ10 := Lib.hid (g_row HG10.out (g_row HG9.out (show wr.drew.heap[w.heap.size]? = _ from HZ.out) (by omega)) (by omega))
          have HF10 := Lib.hid (g_row HG10.out (g_row HG9.out (show wr.drew.heap[w5.heap.size]? = _ from HF.out) (by omega)) (by omega))
          go_wp2_with fail
          go_roundw
          case rel => exact ⟨k + 1, row', by omega, by go_num, Lib.hid (by rw [HNX.out]; exact rdr_set (rdr_set HR10.out (by omega)) (by omega)), Lib.hid q1, q2, Lib.hid (by rw [HNX.out]; exact q3), Lib.hid ((setP_other (by omega)).trans HH10.out), Lib.hid ((setP_other (by omega)).trans HZ10.out), Lib.hid ((setP_other (by omega)).trans HF10.out), Lib.hid ((B10.out.setCell (p := ⟨w8.heap.size, k * 2, none⟩) (by show w.heap.size ≤ w8.heap.size; omega) _).setCell (p := ⟨w8.heap.size, k * 2 + 1, none⟩) (by show w.heap.size ≤ w8.heap.size; omega) _)⟩
          case measure => simp [intOf]; omega
        · obtain rfl : n7 = k := by omega
          rw [HN8.out] at HRK htkp
          have HSZ2 := Lib.hid hsz
          have HM : Hid (MidR s n1 n2 n3 n4 l6 l8 n5 n7 p8 w w4.heap.size w5.heap.size w8.heap.size row rowp wr) := Lib.hid ⟨HRK.out, HH.out, HZ.out, HF.out, hrow.out, HB.out⟩
          have HLT : Hid (w.heap.size < w5.heap.size ∧ w.heap.size < w8.heap.size) := Lib.hid (by omega)
          clear hsz HRK HH HZ HF HB hrow
          obtain ⟨v, hv⟩ : ∃ v, decide (p8 = some (s.size : Int)) = v := ⟨_, rfl⟩
          obtain ⟨x, hx⟩ : ∃ x, rr.chk = x := ⟨_, rfl⟩
          have HV := Lib.hid hv
          have HX := Lib.hid hx
          have e6 := L6.out
          have e8 := L8.out
          subst e6
          subst e8
          have HSML : Hid (SmallR ⟨n1, n2, n3, n4, l6, l8⟩) := Lib.hid (by rw [← HRRR.out]; exact HSMALL.out)
          have HXL : Hid (Rp.chk ⟨n1, n2, n3, n4, l6, l8⟩ = x) := Lib.hid (by rw [← HRRR.out]; exact HX.out)
          cases v with
          | false =>
            have hq : ¬ (p8 = some (s.size : Int) ∧ rr.chk = 0) := fun h => of_decide_eq_false hv h.1
            have hR := HRR.out
            have hE := HEE.out
            rw [if_neg hq] at hR hE
            subst hR
            subst hE
            clear hv hx hq
            go_wp2_with (go_at_call 14; refine (get_done (w.heap.size + 1) s p8 _ HM.out.r).mono ?_; rintro e w9 ⟨rfl, hb9⟩; rw [HV.out]; have HM3 := Lib.hid (HM.out.below hb9); clear hb9; have rh := HM3.out.h; have rz := HM3.out.z; have y0 := row_of (j := 0) rh rfl; have y1 := row_of (j := 1) rh rfl; have y2 := row_of (j := 2) rh rfl; have y3 := row_of (j := 3) rh rfl; have y4 := row_of (j := 4) rh rfl; have y5 := row_of (j := 5) rh rfl; have z0 := row_of (j := 0) rz rfl; have z1 := row_of (j := 1) rz rfl; have z2 := row_of (j := 2) rz rfl; have z3 := row_of (j := 3) rz rfl; have z4 := row_of (j := 4) rz rfl; have z5 := row_of (j := 5) rz rfl; have f0 := frozen_of_row _ _ 0 _ _ rz; have f1 := frozen_of_row _ _ 1 _ _ rz; have f2 := frozen_of_row _ _ 2 _ _ rz; have f3 := frozen_of_row _ _ 3 _ _ rz; have f4 := frozen_of_row _ _ 4 _ _ rz; have f5 := frozen_of_row _ _ 5 _ _ rz; clear rh rz)
            refine bodyPost_ret (v := .tuple #[.agg #[.int .i64 0, .int .i64 0, .int .i64 0, .int .i64 0, .slice none 0 0, .slice none 0 0], .int .i64 40]) (results_row2 (p := 2) (t1 := 3) (ty := 59) Tryz.results20 _ _ w.heap.size 59 #[.int .i64 0, .int .i64 0, .int .i64 0, .int .i64 0, .slice none 0 0, .slice none 0 0] (0, 0) _ rfl (set6 HM3.out.z) Tryz.underlying59 rfl (by kernel_rfl)) rfl ?_
            exact ⟨none, none, 0, 0, rfl, World.ownsRow_nil _ _ _ _, World.ownsRow_nil _ _ _ _, set6_below HM3.out.b (Nat.le_refl _) _ _ _ _ _ _⟩
          | true =>
            by_cases hx0 : x = 0
            · subst hx0
              have hq : p8 = some (s.size : Int) ∧ Rp.chk _ = 0 := ⟨of_decide_eq_true hv, hx⟩
              have hR := HRR.out
              have hE := HEE.out
              rw [if_pos hq, HRRR.out] at hR
              rw [if_pos hq] at hE
              subst hR
              subst hE
              clear hv hx hq
              go_wp2_with (first | (go_at_call 14; refine (get_done (w.heap.size + 1) s p8 _ HM.out.r).mono ?_; rintro e w9 ⟨rfl, hb9⟩; rw [HV.out]; have HM3 := Lib.hid (HM.out.below hb9); clear hb9; have rh := HM3.out.h; have rz := HM3.out.z; have y0 := row_of (j := 0) rh rfl; have y1 := row_of (j := 1) rh rfl; have y2 := row_of (j := 2) rh rfl; have y3 := row_of (j := 3) rh rfl; have y4 := row_of (j := 4) rh rfl; have y5 := row_of (j := 5) rh rfl; have z0 := row_of (j := 0) rz rfl; have z1 := row_of (j := 1) rz rfl; have z2 := row_of (j := 2) rz rfl; have z3 := row_of (j := 3) rz rfl; have z4 := row_of (j := 4) rz rfl; have z5 := row_of (j := 5) rz rfl; have f0 := frozen_of_row _ _ 0 _ _ rz; have f1 := frozen_of_row _ _ 1 _ _ rz; have f2 := frozen_of_row _ _ 2 _ _ rz; have f3 := frozen_of_row _ _ 3 _ _ rz; have f4 := frozen_of_row _ _ 4 _ _ rz; have f5 := frozen_of_row _ _ 5 _ _ rz; clear rh rz) | (go_at_call 37; refine (checkr_is ⟨n1, n2, n3, n4, l6, l8⟩ (some ⟨w5.heap.size, 0, none⟩) (some ⟨w8.heap.size, 0, none⟩) l6.length l8.length w9.heap.size _ (Nat.le_refl _) (Lib.hid (ReadsF.own (own_rowF (base := 0) HM3.out.f HSZ1.out htk.out rfl (by have := HSML.out.lf; exact this) (Nat.zero_le _)))) (Lib.hid (ReadsP.own (own_rowP (base := 0) HM3.out.p HSZ2.out htkp.out rfl (by have := HSML.out.lp; exact this) (Nat.zero_le _)))) (Lib.hid (by have h : l6.length ≤ 65 := HSML.out.lf; show l6.length ≤ maxLen; unfold maxLen; omega)) (Lib.hid (by have h : l8.length ≤ 65 := HSML.out.lp; show l8.length ≤ maxLen; unfold maxLen; omega)) (Lib.hid (fun f hf => by have := HSML.out.fs f hf; unfold maxLen; omega)) (Lib.hid (fun f hf => by have := HSML.out.ps f hf; unfold maxLen; omega)) _ HXL).mono ?_; rintro e w10 ⟨rfl, hb10⟩; have HM4 := Lib.hid (HM3.out.below hb10); clear hb10; clear y0 y1 y2 y3 y4 y5; clear z0 z1 z2 z3 z4 z5; clear f0 f1 f2 f3 f4 f5; have rh := HM4.out.h; have rz := HM4.out.z; have y0 := row_of (j := 0) rh rfl; have y1 := row_of (j := 1) rh rfl; have y2 := row_of (j := 2) rh rfl; have y3 := row_of (j := 3) rh rfl; have y4 := row_of (j := 4) rh rfl; have y5 := row_of (j := 5) rh rfl; have z0 := row_of (j := 0) rz rfl; have z1 := row_of (j := 1) rz rfl; have z2 := row_of (j := 2) rz rfl; have z3 := row_of (j := 3) rz rfl; have z4 := row_of (j := 4) rz rfl; have z5 := row_of (j := 5) rz rfl; have f0 := frozen_of_row _ _ 0 _ _ rz; have f1 := frozen_of_row _ _ 1 _ _ rz; have f2 := frozen_of_row _ _ 2 _ _ rz; have f3 := frozen_of_row _ _ 3 _ _ rz; have f4 := frozen_of_row _ _ 4 _ _ rz; have f5 := frozen_of_row _ _ 5 _ _ rz; clear rh rz))
              refine bodyPost_ret (v := .tuple #[.agg #[.int .i64 n1, .int .i64 n2, .int .i64 n3, .int .i64 n4, .slice (some ⟨w5.heap.size, 0, none⟩) l6.length l6.length, .slice (some ⟨w8.heap.size, 0, none⟩) l8.length l8.length], .int .i64 0]) (results_row2 (p := 2) (t1 := 3) (ty := 59) Tryz.results20 _ _ w.heap.size 59 #[.int .i64 n1, .int .i64 n2, .int .i64 n3, .int .i64 n4, .slice (some ⟨w5.heap.size, 0, none⟩) l6.length l6.length, .slice (some ⟨w8.heap.size, 0, none⟩) l8.length l8.length] (0, 0) _ rfl (set6 HM4.out.z) Tryz.underlying59 rfl (by kernel_rfl)) rfl ?_
              exact ⟨some ⟨w5.heap.size, 0, none⟩, some ⟨w8.heap.size, 0, none⟩, l6.length, l8.length, rfl, own_mono (set6_own (own_rowF (base := w.heap.size + 1) HM4.out.f HSZ1.out htk.out rfl (by have := HSML.out.lf; exact this) HLT.out.1) (Nat.lt_succ_self _) _ _ _ _ _ _) (Nat.le_succ _), own_mono (set6_own (own_rowP (base := w.heap.size + 1) HM4.out.p HSZ2.out htkp.out rfl (by have := HSML.out.lp; exact this) HLT.out.2) (Nat.lt_succ_self _) _ _ _ _ _ _) (Nat.le_succ _), set6_below HM4.out.b (Nat.le_refl _) _ _ _ _ _ _⟩
            · have hq : ¬ (p8 = some (s.size : Int) ∧ rr.chk = 0) := fun h => hx0 (by rw [← hx]; exact h.2)
              have hxn : (x != 0) = true := by simpa using hx0
              have hR := HRR.out
              have hE := HEE.out
              rw [if_neg hq] at hR hE
              subst hR
              subst hE
              clear hv hx hq hx0
              go_wp2_with (first | (go_at_call 14; refine (get_done (w.heap.size + 1) s p8 _ HM.out.r).mono ?_; rintro e w9 ⟨rfl, hb9⟩; rw [HV.out]; have HM3 := Lib.hid (HM.out.below hb9); clear hb9; have rh := HM3.out.h; have rz := HM3.out.z; have y0 := row_of (j := 0) rh rfl; have y1 := row_of (j := 1) rh rfl; have y2 := row_of (j := 2) rh rfl; have y3 := row_of (j := 3) rh rfl; have y4 := row_of (j := 4) rh rfl; have y5 := row_of (j := 5) rh rfl; have z0 := row_of (j := 0) rz rfl; have z1 := row_of (j := 1) rz rfl; have z2 := row_of (j := 2) rz rfl; have z3 := row_of (j := 3) rz rfl; have z4 := row_of (j := 4) rz rfl; have z5 := row_of (j := 5) rz rfl; have f0 := frozen_of_row _ _ 0 _ _ rz; have f1 := frozen_of_row _ _ 1 _ _ rz; have f2 := frozen_of_row _ _ 2 _ _ rz; have f3 := frozen_of_row _ _ 3 _ _ rz; have f4 := frozen_of_row _ _ 4 _ _ rz; have f5 := frozen_of_row _ _ 5 _ _ rz; clear rh rz) | (go_at_call 37; refine (checkr_is ⟨n1, n2, n3, n4, l6, l8⟩ (some ⟨w5.heap.size, 0, none⟩) (some ⟨w8.heap.size, 0, none⟩) l6.length l8.length w9.heap.size _ (Nat.le_refl _) (Lib.hid (ReadsF.own (own_rowF (base := 0) HM3.out.f HSZ1.out htk.out rfl (by have := HSML.out.lf; exact this) (Nat.zero_le _)))) (Lib.hid (ReadsP.own (own_rowP (base := 0) HM3.out.p HSZ2.out htkp.out rfl (by have := HSML.out.lp; exact this) (Nat.zero_le _)))) (Lib.hid (by have h : l6.length ≤ 65 := HSML.out.lf; show l6.length ≤ maxLen; unfold maxLen; omega)) (Lib.hid (by have h : l8.length ≤ 65 := HSML.out.lp; show l8.length ≤ maxLen; unfold maxLen; omega)) (Lib.hid (fun f hf => by have := HSML.out.fs f hf; unfold maxLen; omega)) (Lib.hid (fun f hf => by have := HSML.out.ps f hf; unfold maxLen; omega)) _ HXL).mono ?_; rintro e w10 ⟨rfl, hb10⟩; have HM4 := Lib.hid (HM3.out.below hb10); clear hb10; clear y0 y1 y2 y3 y4 y5; clear z0 z1 z2 z3 z4 z5; clear f0 f1 f2 f3 f4 f5; have rh := HM4.out.h; have rz := HM4.out.z; have y0 := row_of (j := 0) rh rfl; have y1 := row_of (j := 1) rh rfl; have y2 := row_of (j := 2) rh rfl; have y3 := row_of (j := 3) rh rfl; have y4 := row_of (j := 4) rh rfl; have y5 := row_of (j := 5) rh rfl; have z0 := row_of (j := 0) rz rfl; have z1 := row_of (j := 1) rz rfl; have z2 := row_of (j := 2) rz rfl; have z3 := row_of (j := 3) rz rfl; have z4 := row_of (j := 4) rz rfl; have z5 := row_of (j := 5) rz rfl; have f0 := frozen_of_row _ _ 0 _ _ rz; have f1 := frozen_of_row _ _ 1 _ _ rz; have f2 := frozen_of_row _ _ 2 _ _ rz; have f3 := frozen_of_row _ _ 3 _ _ rz; have f4 := frozen_of_row _ _ 4 _ _ rz; have f5 := frozen_of_row _ _ 5 _ _ rz; clear rh rz))
              refine bodyPost_ret (v := .tuple #[.agg #[.int .i64 0, .int .i64 0, .int .i64 0, .int .i64 0, .slice none 0 0, .slice none 0 0], .int .i64 40]) (results_row2 (p := 2) (t1 := 3) (ty := 59) Tryz.results20 _ _ w.heap.size 59 #[.int .i64 0, .int .i64 0, .int .i64 0, .int .i64 0, .slice none 0 0, .slice none 0 0] (0, 0) _ rfl (set6 HM4.out.z) Tryz.underlying59 rfl (by kernel_rfl)) rfl ?_
              exact ⟨none, none, 0, 0, rfl, World.ownsRow_nil _ _ _ _, World.ownsRow_nil _ _ _ _, set6_below HM4.out.b (Nat.le_refl _) _ _ _ _ _ _⟩


end Go.Proofs.YtijofikpdhapoaaGreat.L4
