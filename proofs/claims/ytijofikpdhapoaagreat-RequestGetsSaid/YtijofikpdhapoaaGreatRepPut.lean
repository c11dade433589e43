/-
  A reply's bytes; contracts: the program's own Reply.
-/
import Derived.Test.YtijofikpdhapoaaGreatMRepChk
import Derived.Test.YtijofikpdhapoaaGreatReqWrite
import Derived.Test.YtijofikpdhapoaaGreatMRecRall
import Derived.Test.YtijofikpdhapoaaGreatMRecBack
namespace Go.Proofs.YtijofikpdhapoaaGreat.L4
open Go.RowKit
open L3
open Go.Lib (strCells wpList_append_own_string run_append_own_string)

def catF (S : ByteArray) (l : List Fd) : ByteArray := l.foldl (fun S f => S ++ V.put f.o.toNat ++ f.r.put) S
def catP (S : ByteArray) (l : List Pt) : ByteArray := l.foldl (fun S f => S ++ txt f.t ++ V.put f.n.toNat) S
/-- the first five numbers -/
def five (r : Rp) : Nat → ByteArray
  | 0 => ⟨#[]⟩
  | 1 => ⟨#[]⟩ ++ V.put r.e.toNat
  | 2 => ⟨#[]⟩ ++ V.put r.e.toNat ++ V.put r.off.toNat
  | 3 => ⟨#[]⟩ ++ V.put r.e.toNat ++ V.put r.off.toNat ++ V.put r.n.toNat
  | 4 => ⟨#[]⟩ ++ V.put r.e.toNat ++ V.put r.off.toNat ++ V.put r.n.toNat ++ V.put r.gen.toNat
  | _ => ⟨#[]⟩ ++ V.put r.e.toNat ++ V.put r.off.toNat ++ V.put r.n.toNat ++ V.put r.gen.toNat ++ V.put r.found.length
def Rp.bytes (r : Rp) : ByteArray := catP (catF (five r 5) r.found ++ V.put r.parts.length) r.parts
def fdN (f : Fd) : List Nat := V.puts f.o.toNat ++ V.nats f.r.put
def ptN (f : Pt) : List Nat := V.nats (txt f.t) ++ V.puts f.n.toNat

theorem catF_next {S : ByteArray} {l : List Fd} {k : Nat} {f : Fd} (h : l[k]? = some f) : catF S (l.take (k + 1)) = catF S (l.take k) ++ V.put f.o.toNat ++ f.r.put := by
  unfold catF
  rw [List.take_add_one, h, List.foldl_append]
  rfl
theorem catP_next {S : ByteArray} {l : List Pt} {k : Nat} {f : Pt} (h : l[k]? = some f) : catP S (l.take (k + 1)) = catP S (l.take k) ++ txt f.t ++ V.put f.n.toNat := by
  unfold catP
  rw [List.take_add_one, h, List.foldl_append]
  rfl
theorem nats_catF (S : ByteArray) (l : List Fd) : V.nats (catF S l) = V.nats S ++ l.flatMap fdN := by
  unfold catF
  induction l generalizing S with
  | nil => simp
  | cons f l ih => rw [List.foldl_cons, ih, V.nats_append, V.nats_append, V.nats_put, List.flatMap_cons]; simp [fdN]
theorem nats_catP (S : ByteArray) (l : List Pt) : V.nats (catP S l) = V.nats S ++ l.flatMap ptN := by
  unfold catP
  induction l generalizing S with
  | nil => simp
  | cons f l ih => rw [List.foldl_cons, ih, V.nats_append, V.nats_append, V.nats_put, List.flatMap_cons]; simp [ptN]
theorem nats_five (r : Rp) : V.nats (five r 5) = V.puts r.e.toNat ++ (V.puts r.off.toNat ++ (V.puts r.n.toNat ++ (V.puts r.gen.toNat ++ V.puts r.found.length))) := by
  have e : V.nats (⟨#[]⟩ : ByteArray) = [] := rfl
  simp only [five, V.nats_append, V.nats_put, e]
  simp

/-- what a reply that may be is like -/
structure GoodR (r : Rp) : Prop where
  e : 0 ≤ r.e ∧ r.e ≤ 1099511627776
  off : 0 ≤ r.off ∧ r.off ≤ 1099511627776
  n : 0 ≤ r.n ∧ r.n ≤ 1099511627776
  gen : 0 ≤ r.gen ∧ r.gen ≤ 1099511627776
  lf : r.found.length ≤ 64
  lp : r.parts.length ≤ 64
  fs : ∀ f ∈ r.found, (0 ≤ f.o ∧ f.o ≤ 1099511627776) ∧ f.r.chk = 0
  ps : ∀ f ∈ r.parts, (0 ≤ f.n ∧ f.n ≤ 1099511627776) ∧ nameB f.t = true
theorem good_r {r : Rp} (h : r.chk = 0) : GoodR r := by
  unfold Rp.chk at h
  split at h
  · cases h
  · rename_i h1
    split at h
    · cases h
    · rename_i h2
      split at h
      · cases h
      · rename_i h3
        simp only [numsR, Bool.not_eq_false, Bool.and_eq_true, Bool.not_eq_true', numB, decide_eq_true_eq] at h1
        obtain ⟨⟨⟨⟨⟨a1, a2⟩, a3⟩, a4⟩, a5⟩, a6⟩ := h1
        simp only [Bool.or_eq_true, not_or, Bool.not_eq_true] at h3
        refine ⟨a1, a2, a3, a4, by omega, by omega, fun f hf => ⟨?_, ?_⟩, fun f hf => ⟨?_, ?_⟩⟩
        · have := List.any_eq_false.1 a5 f hf
          simpa [badOff, numB] using this
        · have := List.any_eq_false.1 h3.1 f hf
          simpa [badRec] using this
        · have := List.any_eq_false.1 a6 f hf
          simpa [badN, numB] using this
        · have := List.any_eq_false.1 h3.2 f hf
          simpa [badTop] using this
theorem good_chk {r : Rp} (g : GoodR r) : r.chk = 0 := by
  obtain ⟨a1, a2, a3, a4, a5, a6, a7, a8⟩ := g
  have h1 : numsR r = true := by
    simp only [numsR, Bool.and_eq_true, Bool.not_eq_true', numB, decide_eq_true_eq]
    refine ⟨⟨⟨⟨⟨a1, a2⟩, a3⟩, a4⟩, ?_⟩, ?_⟩
    · rw [List.any_eq_false]; intro f hf; have := (a7 f hf).1; simp [badOff, numB, this]
    · rw [List.any_eq_false]; intro f hf; have := (a8 f hf).1; simp [badN, numB, this]
  have h3 : (r.found.any badRec || r.parts.any badTop) = false := by
    rw [Bool.or_eq_false_iff, List.any_eq_false, List.any_eq_false]
    exact ⟨fun f hf => by have := (a7 f hf).2; simp [badRec, this], fun f hf => by have := (a8 f hf).2; simp [badTop, this]⟩
  unfold Rp.chk
  rw [if_neg (by rw [h1]; decide), if_neg (by omega), h3]
  rfl
theorem name_size' {s : ByteArray} (h : nameB s = true) : 1 ≤ s.size ∧ s.size ≤ 16 := by
  unfold nameB at h
  exact of_decide_eq_true (Bool.and_eq_true_iff.1 h).1
theorem five_size (r : Rp) (g : GoodR r) (k : Nat) : (five r k).size ≤ 50 := by
  have h1 := put_le r.e g.e.2
  have h2 := put_le r.off g.off.2
  have h3 := put_le r.n g.n.2
  have h4 := put_le r.gen g.gen.2
  have h5 := put_le (r.found.length : Int) (by have := g.lf; omega)
  rw [Int.toNat_natCast] at h5
  have h0 : (⟨#[]⟩ : ByteArray).size = 0 := rfl
  unfold five
  split <;> simp only [ByteArray.size_append, h0] <;> omega
theorem catF_size {r : Rp} (g : GoodR r) (S : ByteArray) : ∀ k, (catF S (r.found.take k)).size ≤ S.size + 600 * k := by
  intro k
  induction k with
  | zero => simp [catF]
  | succ k ih =>
    by_cases hk : k < r.found.length
    · have hf : r.found[k]? = some r.found[k] := List.getElem?_eq_getElem hk
      have h1 := g.fs _ (List.getElem_mem hk)
      have h2 := put_le _ h1.1.2
      have h3 := (put_bounds h1.2).2
      rw [catF_next hf, ByteArray.size_append, ByteArray.size_append]
      omega
    · rw [List.take_of_length_le (by omega)] at ih ⊢
      omega
theorem catP_size {r : Rp} (g : GoodR r) (S : ByteArray) : ∀ k, (catP S (r.parts.take k)).size ≤ S.size + 100 * k := by
  intro k
  induction k with
  | zero => simp [catP]
  | succ k ih =>
    by_cases hk : k < r.parts.length
    · have hf : r.parts[k]? = some r.parts[k] := List.getElem?_eq_getElem hk
      have h1 := g.ps _ (List.getElem_mem hk)
      have h2 := put_le _ h1.1.2
      have h3 := name_size' h1.2
      have h4 := txt_size r.parts[k].t (by omega)
      rw [catP_next hf, ByteArray.size_append, ByteArray.size_append]
      omega
    · rw [List.take_of_length_le (by omega)] at ih ⊢
      omega

/-- a block that is no row of bytes is not the writer's -/
theorem nown {W0 w : World} {P b : Nat} {item : Nat → ByteArray} {cs : Array Value} {T : TypeId} {fr : Nat × Nat} (h : w.heap[b]? = some (.cells cs T fr)) (hT : T ≠ 5) (hb : b ≠ P) : ¬ (writerV W0 P item).own w b := by
  intro q
  rcases q with q | ⟨cs', fr', q⟩
  · exact hb q
  · rw [h] at q
    injection q with q
    injection q with _ q _
    exact hT q
theorem kp_row {own : World → Nat → Prop} {w w' : World} {b : Nat} {x : Obj} (h : Kp own w w') (hx : w.heap[b]? = some x) (hn : ¬ own w b) : w'.heap[b]? = some x := (h.2 b (row_lt' hx) hn).1.trans hx
theorem inv_stab {W0 w w' : World} {P : Nat} {item : Nat → ByteArray} {S : ByteArray} (h : (writerV W0 P item).Inv S w) (hb : Below w.heap.size w w') : (writerV W0 P item).Inv S w' := writer_fits.stab S w w' h hb
theorem inv_below {W0 w : World} {P : Nat} {item : Nat → ByteArray} {S : ByteArray} (h : (writerV W0 P item).Inv S w) : Below W0.heap.size W0 w := by
  obtain ⟨_, _, _, h3⟩ := h
  exact h3


set_option maxRecDepth 100000 in
set_option maxHeartbeats 4000000 in
theorem reply_bad (r : Rp) (FA PA : Option Addr) (fc pc B : Nat) (w : World) (hB : B ≤ w.heap.size) (hF : Hid (ReadsF w B FA r.found)) (hP : Hid (ReadsP w B PA r.parts)) (zF : Hid (r.found.length ≤ maxLen)) (zP : Hid (r.parts.length ≤ maxLen)) (sF : Hid (FSz r.found)) (sP : Hid (PSz r.parts)) (x : Int) (HC : Hid (r.chk = x)) (hx : x ≠ 0) :
    Calls Tryz.prog 19 #[.agg #[.int .i64 r.e, .int .i64 r.off, .int .i64 r.n, .int .i64 r.gen, .slice FA r.found.length fc, .slice PA r.parts.length pc]] w fun e w' => e = .returned (.tuple #[.string ⟨#[]⟩, .int .i64 x]) ∧ Below w.heap.size w w' := by
  have hne : (x != 0) = true := by simpa using hx
  clear hx
  go_enter Tryz.func19, Tryz.ntmps19
  go_wp2_with (go_at_call 37; refine (checkr_is r FA PA fc pc w.heap.size _ (by simp) (Lib.hid ((hF.out.mono hB).below (one_box _))) (Lib.hid ((hP.out.mono hB).below (one_box _))) zF zP sF sP x HC).mono ?_; rintro e w1 ⟨rfl, hb1⟩; have HB1 := Lib.hid ((one_box (.cells #[.int .i64 r.e, .int .i64 r.off, .int .i64 r.n, .int .i64 r.gen, .slice FA r.found.length fc, .slice PA r.parts.length pc] 59 (0, 0))).trans (hb1.mono (by simp))); have r1 := (hb1.block w.heap.size (by simp)).trans (heap_alloc_new w (.cells #[.int .i64 r.e, .int .i64 r.off, .int .i64 r.n, .int .i64 r.gen, .slice FA r.found.length fc, .slice PA r.parts.length pc] 59 (0, 0))); have x0 := rw_cell (j := 0) r1 rfl; have x1 := rw_cell (j := 1) r1 rfl; have x2 := rw_cell (j := 2) r1 rfl; have x3 := rw_cell (j := 3) r1 rfl; have x4 := rw_cell (j := 4) r1 rfl; have x5 := rw_cell (j := 5) r1 rfl; have R1 := Lib.hid r1; have hz1 : w.heap.size < w1.heap.size := row_lt' r1; clear r1 hb1)
  go_ret2
  exact ⟨rfl, HB1.out⟩


set_option maxRecDepth 100000 in
set_option maxHeartbeats 16000000 in
theorem reply_ok (r : Rp) (FA PA : Option Addr) (fc pc B : Nat) (w : World) (hB : B ≤ w.heap.size) (hF : Hid (ReadsF w B FA r.found)) (hP : Hid (ReadsP w B PA r.parts)) (zF : Hid (r.found.length ≤ maxLen)) (zP : Hid (r.parts.length ≤ maxLen)) (sF : Hid (FSz r.found)) (sP : Hid (PSz r.parts)) (HC : Hid (r.chk = 0)) :
    Calls Tryz.prog 19 #[.agg #[.int .i64 r.e, .int .i64 r.off, .int .i64 r.n, .int .i64 r.gen, .slice FA r.found.length fc, .slice PA r.parts.length pc]] w fun e w' => e = .returned (.tuple #[.string r.bytes, .int .i64 0]) ∧ Below w.heap.size w w' := by
  have HG := Lib.hid (good_r HC.out)
  obtain ⟨b0, hb0, hbz, hby, hbb⟩ := info_parts byteInfo
  have i0 : ∀ w, (Instr.index 93 (.agg #[.int .i64 r.e, .int .i64 r.off, .int .i64 r.n, .int .i64 r.gen, .int .i64 r.found.length]) (.int .i64 0)).run Tryz.prog w = .ok (.int .i64 r.e) w := fun _ => by kernel_rfl
  have i1 : ∀ w, (Instr.index 93 (.agg #[.int .i64 r.e, .int .i64 r.off, .int .i64 r.n, .int .i64 r.gen, .int .i64 r.found.length]) (.int .i64 1)).run Tryz.prog w = .ok (.int .i64 r.off) w := fun _ => by kernel_rfl
  have i2 : ∀ w, (Instr.index 93 (.agg #[.int .i64 r.e, .int .i64 r.off, .int .i64 r.n, .int .i64 r.gen, .int .i64 r.found.length]) (.int .i64 2)).run Tryz.prog w = .ok (.int .i64 r.n) w := fun _ => by kernel_rfl
  have i3 : ∀ w, (Instr.index 93 (.agg #[.int .i64 r.e, .int .i64 r.off, .int .i64 r.n, .int .i64 r.gen, .int .i64 r.found.length]) (.int .i64 3)).run Tryz.prog w = .ok (.int .i64 r.gen) w := fun _ => by kernel_rfl
  have i4 : ∀ w, (Instr.index 93 (.agg #[.int .i64 r.e, .int .i64 r.off, .int .i64 r.n, .int .i64 r.gen, .int .i64 r.found.length]) (.int .i64 4)).run Tryz.prog w = .ok (.int .i64 (r.found.length : Int)) w := fun _ => by kernel_rfl
  go_enter Tryz.func19, Tryz.ntmps19
  go_wp2_with (go_at_call 37; refine (checkr_is r FA PA fc pc w.heap.size _ (by simp) (Lib.hid ((hF.out.mono hB).below (one_box _))) (Lib.hid ((hP.out.mono hB).below (one_box _))) zF zP sF sP 0 HC).mono ?_; rintro e w1 ⟨rfl, hb1⟩; have HB1 := Lib.hid ((one_box (.cells #[.int .i64 r.e, .int .i64 r.off, .int .i64 r.n, .int .i64 r.gen, .slice FA r.found.length fc, .slice PA r.parts.length pc] 59 (0, 0))).trans (hb1.mono (by simp))); have r1 := (hb1.block w.heap.size (by simp)).trans (heap_alloc_new w (.cells #[.int .i64 r.e, .int .i64 r.off, .int .i64 r.n, .int .i64 r.gen, .slice FA r.found.length fc, .slice PA r.parts.length pc] 59 (0, 0))); have x0 := rw_cell (j := 0) r1 rfl; have x1 := rw_cell (j := 1) r1 rfl; have x2 := rw_cell (j := 2) r1 rfl; have x3 := rw_cell (j := 3) r1 rfl; have x4 := rw_cell (j := 4) r1 rfl; have x5 := rw_cell (j := 5) r1 rfl; have R1 := Lib.hid r1; have hz1 : w.heap.size < w1.heap.size := row_lt' r1; clear r1 hb1)
  clear x0 x1 x2 x3 x4 x5
  have HI0 : Hid ((writerV w w1.heap.size (fun _ => ⟨#[]⟩)).Inv (five r 0) (w1.alloc (.cells #[.slice none 0 0] 89 (0, 0)))) := Lib.hid ⟨_, heap_alloc_new w1 _, World.ownsRow_nil _ _ _ _, HB1.out.trans ((one_box _).mono HB1.out.size)⟩
  have HR0 : Hid ((w1.alloc (.cells #[.slice none 0 0] 89 (0, 0))).heap[w.heap.size]? = some (.cells #[.int .i64 r.e, .int .i64 r.off, .int .i64 r.n, .int .i64 r.gen, .slice FA r.found.length fc, .slice PA r.parts.length pc] 59 (0, 0))) := Lib.hid ((Below.heap_alloc w1 _ _ hz1).trans R1.out)
  go_loopw [31] (fun i wr => ∃ k : Nat, k ≤ 5 ∧ i = .int .i64 k ∧ Hid ((writerV w w1.heap.size (fun _ => ⟨#[]⟩)).Inv (five r k) wr) ∧ Hid (wr.heap[w.heap.size]? = some (.cells #[.int .i64 r.e, .int .i64 r.off, .int .i64 r.n, .int .i64 r.gen, .slice FA r.found.length fc, .slice PA r.parts.length pc] 59 (0, 0)))) (fun i _ => 5 - (intOf i).toNat)
  case atStart => exact ⟨0, by omega, rfl, HI0, HR0⟩
  case round =>
    obtain ⟨k, hk, rfl, HI, HR⟩ := hrel
    have hk5 : k = 0 ∨ k = 1 ∨ k = 2 ∨ k = 3 ∨ k = 4 ∨ k = 5 := by omega
    rcases hk5 with rfl | rfl | rfl | rfl | rfl | rfl
    · go_wp2_with (go_at_call 36; refine (w_put (item := fun _ => ⟨#[]⟩) (W0 := w) (P := w1.heap.size) HB1.out.size r.e (V.put r.e.toNat) HG.out.e.1 HG.out.e.2 (Lib.hid rfl) (five r 0) _ (by have := five_size r HG.out 0; omega) HI.out).mono ?_; rintro e w2 ⟨rfl, hI2, hk2⟩)
      go_roundw
      case rel => exact ⟨1, by omega, by go_num, Lib.hid hI2, Lib.hid (kp_row hk2 HR.out (nown HR.out (by decide) (by omega)))⟩
      case measure => simp [intOf]
    · go_wp2_with (go_at_call 36; refine (w_put (item := fun _ => ⟨#[]⟩) (W0 := w) (P := w1.heap.size) HB1.out.size r.off (V.put r.off.toNat) HG.out.off.1 HG.out.off.2 (Lib.hid rfl) (five r 1) _ (by have := five_size r HG.out 1; omega) HI.out).mono ?_; rintro e w2 ⟨rfl, hI2, hk2⟩)
      go_roundw
      case rel => exact ⟨2, by omega, by go_num, Lib.hid hI2, Lib.hid (kp_row hk2 HR.out (nown HR.out (by decide) (by omega)))⟩
      case measure => simp [intOf]
    · go_wp2_with (go_at_call 36; refine (w_put (item := fun _ => ⟨#[]⟩) (W0 := w) (P := w1.heap.size) HB1.out.size r.n (V.put r.n.toNat) HG.out.n.1 HG.out.n.2 (Lib.hid rfl) (five r 2) _ (by have := five_size r HG.out 2; omega) HI.out).mono ?_; rintro e w2 ⟨rfl, hI2, hk2⟩)
      go_roundw
      case rel => exact ⟨3, by omega, by go_num, Lib.hid hI2, Lib.hid (kp_row hk2 HR.out (nown HR.out (by decide) (by omega)))⟩
      case measure => simp [intOf]
    · go_wp2_with (go_at_call 36; refine (w_put (item := fun _ => ⟨#[]⟩) (W0 := w) (P := w1.heap.size) HB1.out.size r.gen (V.put r.gen.toNat) HG.out.gen.1 HG.out.gen.2 (Lib.hid rfl) (five r 3) _ (by have := five_size r HG.out 3; omega) HI.out).mono ?_; rintro e w2 ⟨rfl, hI2, hk2⟩)
      go_roundw
      case rel => exact ⟨4, by omega, by go_num, Lib.hid hI2, Lib.hid (kp_row hk2 HR.out (nown HR.out (by decide) (by omega)))⟩
      case measure => simp [intOf]
    · go_wp2_with (go_at_call 36; refine (w_put (item := fun _ => ⟨#[]⟩) (W0 := w) (P := w1.heap.size) HB1.out.size (r.found.length : Int) (V.put r.found.length) (by omega) (by have := HG.out.lf; omega) (Lib.hid (by rw [Int.toNat_natCast])) (five r 4) _ (by have := five_size r HG.out 4; omega) HI.out).mono ?_; rintro e w2 ⟨rfl, hI2, hk2⟩)
      go_roundw
      case rel => exact ⟨5, by omega, by go_num, Lib.hid hI2, Lib.hid (kp_row hk2 HR.out (nown HR.out (by decide) (by omega)))⟩
      case measure => simp [intOf]
    · clear i0 i1 i2 i3 i4 HI0 HR0
      have x0 := rw_cell (j := 0) HR.out rfl; have x1 := rw_cell (j := 1) HR.out rfl; have x2 := rw_cell (j := 2) HR.out rfl; have x3 := rw_cell (j := 3) HR.out rfl; have x4 := rw_cell (j := 4) HR.out rfl; have x5 := rw_cell (j := 5) HR.out rfl;
      rw [show ((5 : Nat) : Int) = 5 from rfl]
      go_wp2_with fail
      go_loopw [40] (fun i wq => ∃ k : Nat, k ≤ r.found.length ∧ i = .int .i64 k ∧ Hid ((writerV w w1.heap.size (fun _ => ⟨#[]⟩)).Inv (catF (five r 5) (r.found.take k)) wq) ∧ Hid (wq.heap[w.heap.size]? = some (.cells #[.int .i64 r.e, .int .i64 r.off, .int .i64 r.n, .int .i64 r.gen, .slice FA r.found.length fc, .slice PA r.parts.length pc] 59 (0, 0)))) (fun i _ => r.found.length - (intOf i).toNat)
      case atStart => exact ⟨0, by omega, rfl, Lib.hid (by simpa [catF] using HI.out), HR⟩
      clear x0 x1 x2 x3 x4 x5 HI HR
      case round =>
        obtain ⟨k, hk, rfl, HI, HR⟩ := hrel
        have GZ := Lib.hid (catF_size HG.out (five r 5) k)
        have G5 := Lib.hid (five_size r HG.out 5)
        have KL : Hid (k ≤ 64) := Lib.hid (by have := HG.out.lf; omega)
        have k64 : k ≤ 64 := KL.out
        by_cases hlt : k < r.found.length
        · obtain ⟨g, rfl, hg, hcells⟩ := hF.out (by omega)
          obtain ⟨⟨fo, ⟨hk', key, tb, val⟩⟩, hx⟩ : ∃ x, r.found[k]? = some x := ⟨r.found[k], List.getElem?_eq_getElem hlt⟩
          have Z := HG.out.fs _ (List.mem_of_getElem? hx)
          have Z0 := Lib.hid Z.1.1
          have Z1 := Lib.hid Z.1.2
          have Z2 : Hid (chk hk' key tb val = 0) := Lib.hid Z.2
          have Z3 := Lib.hid (put_bounds Z.2).2
          have Z4 := Lib.hid (sF.out _ (List.mem_of_getElem? hx))
          obtain ⟨c0, c1, c2, c3, c4⟩ := hcells k _ hx
          have hbel := inv_below HI.out
          have d0 := (hbel.cell (p := ⟨g, k * 5, none⟩) (by show g < _; omega)).trans c0
          have d1 := (hbel.cell (p := ⟨g, k * 5 + 1, none⟩) (by show g < _; omega)).trans c1
          have d2 := (hbel.cell (p := ⟨g, k * 5 + 2, none⟩) (by show g < _; omega)).trans c2
          have d3 := (hbel.cell (p := ⟨g, k * 5 + 3, none⟩) (by show g < _; omega)).trans c3
          have d4 := (hbel.cell (p := ⟨g, k * 5 + 4, none⟩) (by show g < _; omega)).trans c4
          dsimp only at d0 d1 d2 d3 d4
          have k0 : (0 : Int) ≤ (k : Int) := by omega
          have kl : (k : Int) < (r.found.length : Int) := by omega
          have HX := Lib.hid hx
          have hPz : w1.heap.size < wr.heap.size := by obtain ⟨_, q, _⟩ := HI.out; exact row_lt' q
          obtain ⟨np, hnp⟩ : ∃ s, V.put fo.toNat = s := ⟨_, rfl⟩
          obtain ⟨rp, hrp⟩ : ∃ s, putT hk' key tb val = s := ⟨_, rfl⟩
          have HNP := Lib.hid hnp
          have HRP := Lib.hid hrp
          have RPZ : Hid (rp.size ≤ 600) := Lib.hid (by rw [← hrp]; exact putT_size _ _ _ _)
          have NPZ : Hid (np.size ≤ 10) := Lib.hid (by rw [← hnp]; exact put_le _ Z1.out)
          clear c0 c1 c2 c3 c4 hcells hx Z hnp hrp
          go_wp2_with (first
            | (go_at_call 36; refine (w_put (item := fun _ => ⟨#[]⟩) (W0 := w) (P := w1.heap.size) HB1.out.size fo np Z0.out Z1.out HNP _ _ (by have := GZ.out; have := G5.out; have := KL.out; omega) (inv_stab HI.out (one_box _))).mono ?_; rintro e w2 ⟨rfl, hI2, hk2⟩; have R2 := Lib.hid (kp_row hk2 ((Below.heap_alloc wr (.cells #[.int .i64 fo, .bool hk', .string key, .bool tb, .string val] 95 (0, 0)) _ (row_lt' HR.out)).trans HR.out) (nown ((Below.heap_alloc wr (.cells #[.int .i64 fo, .bool hk', .string key, .bool tb, .string val] 95 (0, 0)) _ (row_lt' HR.out)).trans HR.out) (by decide) (by omega))); have frow := kp_row hk2 (heap_alloc_new wr (.cells #[.int .i64 fo, .bool hk', .string key, .bool tb, .string val] 95 (0, 0))) (nown (heap_alloc_new wr (.cells #[.int .i64 fo, .bool hk', .string key, .bool tb, .string val] 95 (0, 0))) (by decide) (by omega)); have f0 := rw_cell (j := 0) frow rfl; have f1 := rw_cell (j := 1) frow rfl; have f2 := rw_cell (j := 2) frow rfl; have f3 := rw_cell (j := 3) frow rfl; have f4 := rw_cell (j := 4) frow rfl; have I2 := Lib.hid hI2; clear frow hI2 hk2)
            | (go_at_call 38; refine (L3.put_is _ _ _ _ 0 rp _ Z4.out.1 Z4.out.2 Z2 HRP).mono ?_; rintro e w3 ⟨rfl, hb3⟩; clear f0 f1 f2 f3 f4; have I3 := Lib.hid (inv_stab I2.out hb3); have R3 := Lib.hid (row_keep' R2.out hb3); obtain ⟨v, p1, p2, p3⟩ := I3.out; have P1 := Lib.hid p1; have P2 := Lib.hid p2; have P3 := Lib.hid p3; have vc := rw_cell (j := 0) p1 rfl; have vf := frozen_of_row _ _ 0 _ _ p1; have HLT := Lib.hid (row_lt' p1); clear p1 p2 p3 hb3)
            | (at_builtin; refine wpList_append_own_string _ rfl _ _ 87 9 rfl (w1.heap.size + 1) 5 b0 Tryz.underlying87 Tryz.underlying9 hb0 hbz hby hbb _ _ _ rfl P2.out rp rfl (by have := GZ.out; have := G5.out; have := KL.out; have := RPZ.out; have := NPZ.out; (try rw [ByteArray.size_append]); unfold maxLen; omega) (by have := GZ.out; have := G5.out; have := KL.out; have := RPZ.out; have := NPZ.out; (try rw [ByteArray.size_append]); omega) HLT.out ?_; intro v' w4 hown3 hgrow _; have zc : w4.cell? ⟨w1.heap.size, 0, none⟩ = some v := (hgrow.cell_far ⟨w1.heap.size, 0, none⟩ HLT.out (fun q => by have h9 : w1.heap.size + 1 ≤ w1.heap.size := (P2.out.lt _ q.symm).1; omega)).trans vc; have zf : w4.frozen? ⟨w1.heap.size, 0, none⟩ = false := (hgrow.frozen_far ⟨w1.heap.size, 0, none⟩ HLT.out (fun q => by have h9 : w1.heap.size + 1 ≤ w1.heap.size := (P2.out.lt _ q.symm).1; omega)).trans vf; obtain ⟨A3, c3, rfl⟩ := own_slice hown3))
          have hfin := fun (v' : Value) (ho : w4.ownsRow (w1.heap.size + 1) 5 1 v' (catF (five r 5) (r.found.take k) ++ np ++ rp).size (strCells (catF (five r 5) (r.found.take k) ++ np ++ rp))) => writer_app (W0 := w) (P := w1.heap.size) (item := fun _ => ⟨#[]⟩) HB1.out.size P1.out P2.out P3.out (Below.refl _ _) ho hgrow rfl
          have hown4 := fun v' (h : w4.ownsRow (w1.heap.size + 1) 5 1 v' ((catF (five r 5) (r.found.take k)).size + np.size + rp.size) (strCells (catF (five r 5) (r.found.take k) ++ np) ++ strCells rp)) => hfin v' (by rw [ByteArray.size_append, ByteArray.size_append, ← strCells_app]; exact h)
          have hfin := hown4 _ (by first | exact hown3 | (rw [ByteArray.size_append] at hown3; exact hown3))
          go_roundw
          case rel => exact ⟨k + 1, by omega, by go_num, Lib.hid (by rw [catF_next HX.out]; show (writerV w w1.heap.size (fun _ => ⟨#[]⟩)).Inv (_ ++ V.put fo.toNat ++ putT hk' key tb val) _; rw [HNP.out, HRP.out]; exact hfin.2.1), Lib.hid (kp_row hfin.2.2 R3.out (nown R3.out (by decide) (by omega)))⟩
          case measure => simp [intOf]; omega
        · obtain rfl : k = r.found.length := by omega
          rw [List.take_length] at HI GZ
          have x0 := rw_cell (j := 0) HR.out rfl; have x1 := rw_cell (j := 1) HR.out rfl; have x2 := rw_cell (j := 2) HR.out rfl; have x3 := rw_cell (j := 3) HR.out rfl; have x4 := rw_cell (j := 4) HR.out rfl; have x5 := rw_cell (j := 5) HR.out rfl;
          go_wp2_with (go_at_call 36; refine (w_put (item := fun _ => ⟨#[]⟩) (W0 := w) (P := w1.heap.size) HB1.out.size (r.parts.length : Int) (V.put r.parts.length) (by omega) (by have := HG.out.lp; omega) (Lib.hid (by rw [Int.toNat_natCast])) _ _ (by have := GZ.out; have := G5.out; have := KL.out; omega) HI.out).mono ?_; rintro e w2 ⟨rfl, hI2, hk2⟩; have r2 := kp_row hk2 HR.out (nown HR.out (by decide) (by omega)); clear x0 x1 x2 x3 x4 x5; have x0 := rw_cell (j := 0) r2 rfl; have x1 := rw_cell (j := 1) r2 rfl; have x2 := rw_cell (j := 2) r2 rfl; have x3 := rw_cell (j := 3) r2 rfl; have x4 := rw_cell (j := 4) r2 rfl; have x5 := rw_cell (j := 5) r2 rfl; have R2 := Lib.hid r2; have I2 := Lib.hid hI2; clear r2 hI2 hk2)
          clear x0 x1 x2 x3 x4 x5
          go_loopw [66] (fun i wq => ∃ k : Nat, k ≤ r.parts.length ∧ i = .int .i64 k ∧ Hid ((writerV w w1.heap.size (fun _ => ⟨#[]⟩)).Inv (catP (catF (five r 5) r.found ++ V.put r.parts.length) (r.parts.take k)) wq) ∧ Hid (wq.heap[w.heap.size]? = some (.cells #[.int .i64 r.e, .int .i64 r.off, .int .i64 r.n, .int .i64 r.gen, .slice FA r.found.length fc, .slice PA r.parts.length pc] 59 (0, 0)))) (fun i _ => r.parts.length - (intOf i).toNat)
          case atStart => exact ⟨0, by omega, rfl, Lib.hid (by simpa [catP] using I2.out), R2⟩
          have GY : Hid ((catF (five r 5) r.found ++ V.put r.parts.length).size ≤ 50000) := Lib.hid (by
            have h1 := GZ.out
            have h2 := G5.out
            have h3 := KL.out
            have h4 := put_le (r.parts.length : Int) (by have := HG.out.lp; omega)
            rw [Int.toNat_natCast] at h4
            rw [ByteArray.size_append]
            omega)
          clear HI HR I2 R2
          case round =>
            obtain ⟨k, hkk, rfl, HI, HR⟩ := hrel
            have GP := Lib.hid (catP_size HG.out (catF (five r 5) r.found ++ V.put r.parts.length) k)
            have KP : Hid (k ≤ 64) := Lib.hid (by have := HG.out.lp; omega)
            have k64 : k ≤ 64 := KP.out
            by_cases hlt2 : k < r.parts.length
            · obtain ⟨g, rfl, hg, hcells⟩ := hP.out (by omega)
              obtain ⟨⟨pt, pn⟩, hx⟩ : ∃ x, r.parts[k]? = some x := ⟨r.parts[k], List.getElem?_eq_getElem hlt2⟩
              have Z := HG.out.ps _ (List.mem_of_getElem? hx)
              have Z0 := Lib.hid Z.1.1
              have Z1 := Lib.hid Z.1.2
              have Z2 := Lib.hid (name_size' Z.2).2
              obtain ⟨c0, c1⟩ := hcells k _ hx
              have hbel := inv_below HI.out
              have d0 := (hbel.cell (p := ⟨g, k * 2, none⟩) (by show g < _; omega)).trans c0
              have d1 := (hbel.cell (p := ⟨g, k * 2 + 1, none⟩) (by show g < _; omega)).trans c1
              dsimp only at d0 d1
              have k0 : (0 : Int) ≤ (k : Int) := by omega
              have kl : (k : Int) < (r.parts.length : Int) := by omega
              have HX := Lib.hid hx
              have hPz : w1.heap.size < wr.heap.size := by obtain ⟨_, q, _⟩ := HI.out; exact row_lt' q
              obtain ⟨np, hnp⟩ : ∃ s, V.put pn.toNat = s := ⟨_, rfl⟩
              obtain ⟨tp, htp⟩ : ∃ s, txt pt = s := ⟨_, rfl⟩
              have HNP := Lib.hid hnp
              have HTP := Lib.hid htp
              have TZ : Hid (tp.size ≤ 30) := Lib.hid (by have h0 : pt.size ≤ 16 := Z2.out; have := txt_size pt (by omega); rw [htp] at this; have h2 : pt.size ≤ 16 := Z2.out; omega)
              clear c0 c1 hcells hx Z hnp htp
              go_wp2_with (first
                | (go_at_call 39; refine (w_name (item := fun _ => ⟨#[]⟩) (W0 := w) (P := w1.heap.size) HB1.out.size pt tp _ (Lib.hid (by have h2 : pt.size ≤ 16 := Z2.out; omega)) HTP _ _ (by have := GP.out; have := GY.out; have := KP.out; omega) (inv_stab HI.out (one_box _))).mono ?_; rintro e w2 ⟨rfl, hI2, hk2⟩; have R2 := Lib.hid (kp_row hk2 ((Below.heap_alloc wr (.cells #[.string pt, .int .i64 pn] 23 (0, 0)) _ (row_lt' HR.out)).trans HR.out) (nown ((Below.heap_alloc wr (.cells #[.string pt, .int .i64 pn] 23 (0, 0)) _ (row_lt' HR.out)).trans HR.out) (by decide) (by omega))); have frow := kp_row hk2 (heap_alloc_new wr (.cells #[.string pt, .int .i64 pn] 23 (0, 0))) (nown (heap_alloc_new wr (.cells #[.string pt, .int .i64 pn] 23 (0, 0))) (by decide) (by omega)); have f0 := rw_cell (j := 0) frow rfl; have f1 := rw_cell (j := 1) frow rfl; have I2 := Lib.hid hI2; clear frow hI2 hk2)
                | (go_at_call 36; refine (w_put (item := fun _ => ⟨#[]⟩) (W0 := w) (P := w1.heap.size) HB1.out.size pn np Z0.out Z1.out HNP _ _ (by have := GP.out; have := GY.out; have := KP.out; have := TZ.out; rw [ByteArray.size_append]; omega) I2.out).mono ?_; rintro e w3 ⟨rfl, hI3, hk3⟩))
              go_roundw
              case rel => exact ⟨k + 1, by omega, by go_num, Lib.hid (by rw [catP_next HX.out]; show (writerV w w1.heap.size (fun _ => ⟨#[]⟩)).Inv (_ ++ txt pt ++ V.put pn.toNat) _; rw [HNP.out, HTP.out]; exact hI3), Lib.hid (kp_row hk3 R2.out (nown R2.out (by decide) (by omega)))⟩
              case measure => simp [intOf]; omega
            · obtain rfl : k = r.parts.length := by omega
              have hI := HI.out
              rw [List.take_length] at hI
              have HBW := Lib.hid (inv_below hI)
              obtain ⟨v, p1, p2, p3⟩ := hI
              have vc := rw_cell (j := 0) p1 rfl
              have hcv := own_conv p2
              clear p1 p2 p3 HI
              go_wp2_with fail
              go_ret2
              exact ⟨rfl, HBW.out⟩


end Go.Proofs.YtijofikpdhapoaaGreat.L4
