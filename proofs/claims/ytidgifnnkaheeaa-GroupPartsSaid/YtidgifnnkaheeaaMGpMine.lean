/-
  A group of a law's own: each call on it in one word.
-/
import Derived.Test.YtidgifnnkaheeaaMGpJoin
import Derived.Test.YtidgifnnkaheeaaMGpLoad
import Derived.Laws.Rows
import Derived.Test.YtidgifnnkaheeaaReqAlike
namespace Go.Proofs.Ytidgifnnkaheeaa.L11
open Go.RowKit
open Go.Maps
open L3 L4 L9 L10

structure GM (W w : World) (g b N : Nat) (G : Int) (r : Bool) (Q : List Se) : Prop where
  gp : Gp w g b N G r Q
  good : GoodG G Q
  hg : W.heap.size ≤ g
  hb : W.heap.size ≤ b
  bel : Below W.heap.size W w
section
variable {W w w' : World} {g b N N' : Nat} {G G' : Int} {r r' : Bool} {Q Q' : List Se}
theorem GM.below (h : GM W w g b N G r Q) (hb : Below w.heap.size w w') : GM W w' g b N G r Q := ⟨h.gp.below hb, h.good, h.hg, h.hb, h.bel.trans (hb.mono h.bel.size)⟩
theorem GM.kept (h : GM W w g b N G r Q) (hb : Below W.heap.size w w') (h1 : w'.heap[g]? = w.heap[g]?) (h2 : w'.heap[b]? = w.heap[b]?) (k : KpS w w') : GM W w' g b N G r Q := ⟨h.gp.kept h1 h2 k, h.good, h.hg, h.hb, h.bel.trans hb⟩
theorem GM.turn (h : GM W w g b N G r Q) (hg : Gp w' g b N' G' r' Q') (hq : GoodG G' Q') (o : Only [g, b] w w') : GM W w' g b N' G' r' Q' :=
  ⟨hg, hq, h.hg, h.hb, h.bel.trans (o.below h.bel.size (fun k hk => by
    rcases List.mem_cons.1 hk with rfl | hk
    · exact h.hg
    · rw [show k = b by simpa using hk]; exact h.hb))⟩
theorem GM.lt (h : GM W w g b N G r Q) : g < w.heap.size ∧ b < w.heap.size := ⟨h.gp.lt, h.gp.map.lt⟩
theorem only_gb (o : Only [b] w w') : Only [g, b] w w' := o.mono (fun k hk => .inl (by simp at hk; simp [hk]))
theorem m_new (W w : World) (hb : Below W.heap.size W w) : Calls Try.prog 21 #[] w fun e w' => ∃ g b, e = .returned (.pointer (some ⟨g, 0, none⟩)) ∧ GM W w' g b 0 0 false [] ∧ Below w.heap.size w w' :=
  (new_is w).mono fun _ _ ⟨g, b, he, h1, h2, h3, h4⟩ => ⟨g, b, he, ⟨h1, goodG_new, Nat.le_trans hb.size h2, Nat.le_trans hb.size h3, hb.trans (h4.mono hb.size)⟩, h4⟩
theorem m_join {n c : Nat} (s : Se) (a : ByteArray) (A : Option Addr) (tm sn x y : Int) (rb : Bool) (h : Hid (GM W w g b N G r Q)) (hN : N ≤ 1000000) (HS : Hid (s.m.name = a ∧ s.m.ts.length = n ∧ s.tm = tm ∧ s.sn = sn)) (hT : Hid (RowT w A c s.m.ts)) (hz : Hid (s.m.name.size ≤ 281474976710656 ∧ ∀ x ∈ s.m.ts, x.size ≤ 281474976710656)) (hn : n ≤ 1000000) (HX : Hid (joinE G r Q s rb = x)) (HY : Hid ((if x = 0 then G + 1 else 0) = y)) :
    Calls Try.prog 24 #[.pointer (some ⟨g, 0, none⟩), .agg #[.string a, .slice A n c, .int .i64 tm, .int .i64 sn], .bool rb] w fun e w' => e = .returned (.tuple #[.int .i64 y, .int .i64 x]) ∧ GM W w' g b (N + 1) (joinG G x) (joinR r rb x) (joinQ Q s x) ∧ Only [g, b] w w' :=
  (join_is s a A tm sn x rb (Lib.hid h.out.gp) (Lib.hid h.out.good) hN HS hT hz hn HX).mono fun _ _ ⟨he, h1, h2⟩ => ⟨by rw [he, HY.out], h.out.turn h1 (good_join h.out.good HX.out) h2, h2⟩
theorem m_beat (a : ByteArray) (gn now x : Int) (h : Hid (GM W w g b N G r Q)) (hN : N ≤ 1000000) (hs : Hid (a.size ≤ maxLen)) (HX : Hid (beatE G Q a gn now = x)) :
    Calls Try.prog 29 #[.pointer (some ⟨g, 0, none⟩), .string a, .int .i64 gn, .int .i64 now] w fun e w' => e = .returned (.int .i64 x) ∧ GM W w' g b (N + 1) G r (beatQ Q a now x) ∧ Only [g, b] w w' :=
  (beat_is a gn now x (Lib.hid h.out.gp) (Lib.hid h.out.good) hN hs HX).mono fun _ _ ⟨he, h1, h2⟩ => ⟨he, h.out.turn h1 (good_beat h.out.good HX.out) (only_gb h2), only_gb h2⟩
theorem m_leave (a : ByteArray) (gn x : Int) (h : Hid (GM W w g b N G r Q)) (hs : Hid (a.size ≤ maxLen)) (HX : Hid (fenceE G Q a gn = x)) :
    Calls Try.prog 23 #[.pointer (some ⟨g, 0, none⟩), .string a, .int .i64 gn] w fun e w' => e = .returned (.int .i64 x) ∧ GM W w' g b N (leaveG G x) r (leaveQ Q a x) ∧ Only [g, b] w w' :=
  (leave_is a gn x (Lib.hid h.out.gp) (Lib.hid h.out.good) hs HX).mono fun _ _ ⟨he, h1, h2⟩ => ⟨he, h.out.turn h1 (good_leave h.out.good a x) h2, h2⟩
theorem m_fence (a : ByteArray) (gn x : Int) (h : Hid (GM W w g b N G r Q)) (hs : Hid (a.size ≤ maxLen)) (HX : Hid (fenceE G Q a gn = x)) :
    Calls Try.prog 44 #[.pointer (some ⟨g, 0, none⟩), .string a, .int .i64 gn] w fun e w' => e = .returned (.int .i64 x) ∧ GM W w' g b N G r Q ∧ Below w.heap.size w w' :=
  (fence_is a gn x (Lib.hid h.out.gp) hs HX).mono fun _ _ ⟨he, h1⟩ => ⟨he, h.out.below h1, h1⟩
theorem m_expire (now : Int) (L : List ByteArray) (n : Nat) (h : Hid (GM W w g b N G r Q)) (HL : Hid (goneQ (lateB now) Q = L)) (HN : Hid (L.length = n)) :
    Calls Try.prog 30 #[.pointer (some ⟨g, 0, none⟩), .int .i64 now] w fun e w' => ∃ A c, e = .returned (.slice A n c) ∧ RowT w' A c L ∧ (∀ k ∈ bk A, w.heap.size ≤ k) ∧ GM W w' g b N (goneG (lateB now) G Q) r (stayQ (lateB now) Q) ∧ Only [g, b] w w' :=
  (expire_is now (Lib.hid h.out.gp) (Lib.hid h.out.good)).mono fun _ _ ⟨A, n', c, he, h0, h1, h2, h3⟩ => by
    obtain rfl : n' = n := by rw [← h0, HL.out, HN.out]
    refine ⟨A, c, he, ?_, fun k hk => (own_bk h1 k hk).choose_spec.1, h.out.turn h2 (good_gone h.out.good _) h3, h3⟩
    rw [← HL.out]
    exact RowT.own h1 h0
theorem m_gen (h : Hid (GM W w g b N G r Q)) :
    Calls Try.prog 25 #[.pointer (some ⟨g, 0, none⟩)] w fun e w' => e = .returned (.tuple #[.int .i64 G, .bool r]) ∧ GM W w' g b N G r Q ∧ Below w.heap.size w w' :=
  (gen_is (Lib.hid h.out.gp)).mono fun _ _ ⟨he, h1⟩ => ⟨he, h.out.below h1, h1⟩
theorem m_seats (m : Nat) (h : Hid (GM W w g b N G r Q)) (hm : Hid (Q.length = m)) :
    Calls Try.prog 26 #[.pointer (some ⟨g, 0, none⟩)] w fun e w' => ∃ A c vs, e = .returned (.slice A m c) ∧ Hid (vs.map Sv.s = Q) ∧ OwnE w' w.heap.size A m c vs ∧ GM W w' g b N G r Q ∧ Below w.heap.size w w' :=
  (seats_is (Lib.hid h.out.gp) (Lib.hid h.out.good) hm (by have := h.out.good.len; have := hm.out; omega)).mono fun _ _ ⟨A, c, vs, he, h0, h1, h2⟩ => ⟨A, c, vs, he, Lib.hid h0, h1, h.out.below h2, h2⟩
theorem m_assigned {n c : Nat} {A : Option Addr} {l : List Pt} (a : ByteArray) (gn x : Int) (h : Hid (GM W w g b N G r Q)) (hz : Hid (a.size ≤ maxLen)) (hL : Hid (IsL w w.heap.size A n c l)) (HX : Hid (asgE G Q a gn l x)) :
    Calls Try.prog 27 #[.pointer (some ⟨g, 0, none⟩), .string a, .int .i64 gn, .slice A n c] w fun e w' => AsgP w r Q a l x e w' ∧ GM W w' g b N G r Q :=
  (assigned_is a gn x (Lib.hid h.out.gp) (Lib.hid h.out.good) hz hL HX).mono fun _ _ h1 => ⟨h1, h.out.below h1.1⟩
end
/-- reads stay where some blocks change -/
theorem readsP_only {w w' : World} {S : List Nat} {A : Option Addr} {l : List Pt} (h : ReadsP w w.heap.size A l) (o : Only S w w') (hb : ∀ k ∈ bk A, k ∉ S) : ReadsP w' w'.heap.size A l := fun h0 => by
  obtain ⟨g, e, hg, hc⟩ := h h0
  have hn : g ∉ S := hb g (by rw [e]; simp [bk])
  exact ⟨g, e, Nat.lt_of_lt_of_le hg o.size, fun i s hs => ⟨o.cell (hc i s hs).1 hn, o.cell (hc i s hs).2 hn⟩⟩
theorem rowT_only {w w' : World} {S : List Nat} {A : Option Addr} {c : Nat} {l : List ByteArray} (h : RowT w A c l) (o : Only S w w') (hb : ∀ k ∈ bk A, k ∉ S) : RowT w' A c l := ⟨fun h0 => by
  obtain ⟨g, cs, fr, e, hg, hc⟩ := h.row h0
  have hn : g ∉ S := hb g (by rw [e]; simp [bk])
  exact ⟨g, cs, fr, e, (o.block g (Array.getElem?_eq_some_iff.1 hg).1 hn).trans hg, fun i s hs => o.cell (hc i s hs) hn⟩, h.room, h.nil⟩
theorem above_gb {g b B : Nat} {A : Option Addr} (h : ∀ k ∈ bk A, B ≤ k) (hg : g < B) (hb : b < B) : ∀ k ∈ bk A, k ∉ [g, b] := fun k hk e => by
  have := h k hk
  simp at e
  omega
end Go.Proofs.Ytidgifnnkaheeaa.L11
/-
  Contracts: a law's seat, and its topics.
-/
namespace Go.Proofs.Ytidgifnnkaheeaa.L11
open Go.RowKit
open Go.Maps
open L3 L4 L9 L10

def cT : ByteArray := ⟨#[116]⟩
def seatL (a : ByteArray) : Se := ⟨⟨a, [cT]⟩, 5, 0⟩
set_option maxRecDepth 100000 in
set_option maxHeartbeats 1000000 in
theorem lseat_is (a : ByteArray) (w : World) :
    Calls Try.prog 32 #[.string a] w fun e w' => ∃ A c, e = .returned (.agg #[.string a, .slice A 1 c, .int .i64 5, .int .i64 0]) ∧ RowT w' A c [cT] ∧ Below w.heap.size w w' := by
  go_enter Try.func32, Try.ntmps32
  go_wp2_with fail
  have h1 := heap_alloc_new w (.cells #[.string a, .slice (some ⟨w.heap.size + 1, 0, none⟩) 1 1, .int .i64 5, .int .i64 0] 47)
  have hb1 := one_box' (w := w) (.cells #[.string a, .slice (some ⟨w.heap.size + 1, 0, none⟩) 1 1, .int .i64 5, .int .i64 0] 47)
  have e1 : (w.alloc (.cells #[.string a, .slice (some ⟨w.heap.size + 1, 0, none⟩) 1 1, .int .i64 5, .int .i64 0] 47)).heap.size = w.heap.size + 1 := by simp
  obtain ⟨W1, hW1⟩ : ∃ W1, w.alloc (.cells #[.string a, .slice (some ⟨w.heap.size + 1, 0, none⟩) 1 1, .int .i64 5, .int .i64 0] 47) = W1 := ⟨_, rfl⟩
  rw [hW1] at h1 hb1 e1 ⊢
  have h2 := heap_alloc_new W1 (.cells #[.string ⟨#[116]⟩] 9)
  have hb2 := one_box' (w := W1) (.cells #[.string ⟨#[116]⟩] 9)
  refine bodyPost_ret (v := .agg #[.string a, .slice (some ⟨w.heap.size + 1, 0, none⟩) 1 1, .int .i64 5, .int .i64 0]) (results_cell_row (p := 2) (ty := 47) Try.results32 _ _ w.heap.size 47 #[.string a, .slice (some ⟨w.heap.size + 1, 0, none⟩) 1 1, .int .i64 5, .int .i64 0] (0, 0) _ rfl ((hb2.block _ (by omega)).trans h1) Try.underlying47 rfl (by kernel_rfl)) rfl ?_
  refine ⟨_, _, rfl, ⟨fun _ => ⟨w.heap.size + 1, _, _, rfl, by rw [← e1]; exact h2, fun i s hs => ?_⟩, by simp, fun e => by cases e⟩, hb1.trans (hb2.mono hb1.size)⟩
  match i, hs with
  | 0, hs =>
    simp [cT] at hs; subst hs
    rw [← e1]
    exact (cell_of_row _ _ 0 _ _ _ h2).trans rfl
  | i + 1, hs => simp at hs
theorem isL_one (w : World) (t : ByteArray) (n : Int) (T : TypeId) (h : t.size ≤ 281474976710656) : IsL (w.alloc (.cells #[.string t, .int .i64 n] T)) (w.alloc (.cells #[.string t, .int .i64 n] T)).heap.size (some ⟨w.heap.size, 0, none⟩) 1 1 [⟨t, n⟩] := by
  have hr := heap_alloc_new w (.cells #[.string t, .int .i64 n] T)
  refine ⟨fun _ => ⟨w.heap.size, rfl, by simp, fun i s hs => ?_⟩, rfl, (fun e => by cases e), (fun y hy => by simp at hy; subst hy; exact h), by omega, by omega⟩
  match i, hs with
  | 0, hs =>
    simp at hs; subst hs
    exact ⟨(cell_of_row _ _ 0 _ _ _ hr).trans rfl, (cell_of_row _ _ 1 _ _ _ hr).trans rfl⟩
  | i + 1, hs => simp at hs
theorem topic_is (w : World) :
    Calls Try.prog 53 #[] w fun e w' => ∃ A c, e = .returned (.slice A 1 c) ∧ IsL w' w'.heap.size A 1 c [⟨cT, 4⟩] ∧ Below w.heap.size w w' := by
  go_enter Try.func53, Try.ntmps53
  go_wp2_with fail
  go_ret
  exact ⟨_, _, rfl, isL_one w cT 4 _ (by decide), one_box' _⟩
end Go.Proofs.Ytidgifnnkaheeaa.L11
/-
  Contract: the calls whose answers the document fixes, of layer 11.
-/
namespace Go.Proofs.Ytidgifnnkaheeaa.L11
open Go.RowKit
open Go.Maps
open L3 L4 L9 L10

def cM : ByteArray := ⟨#[109]⟩
def cN : ByteArray := ⟨#[110]⟩
def cO : ByteArray := ⟨#[111]⟩
def cX : ByteArray := ⟨#[120]⟩
def seM3 : Se := ⟨⟨cM, [cT]⟩, 5, 3⟩
def se0 : Se := ⟨⟨⟨#[]⟩, []⟩, 0, 0⟩
def q1 : List Se := [seatL cM]
def q2 : List Se := [seatL cM, seatL cN]
def q3 : List Se := [seM3, seatL cN]
def q4 : List Se := [seM3]
def lT : List Pt := [⟨cT, 4⟩]
def lN : List Pt := [⟨cT, 1⟩, ⟨cT, 3⟩]
section
set_option maxRecDepth 100000
theorem j1 : joinE 0 false [] (seatL cM) true = 0 := by decide
theorem j2 : joinE 1 true q1 (seatL cN) true = 0 := by decide
theorem j3 : joinE 2 true q2 (seatL cO) false = 112 := by decide
theorem j4 : joinE 2 true q2 se0 true = 1 := by decide
theorem b1 : beatE 2 q2 cM 1 3 = 111 := by decide
theorem b2 : beatE 2 q2 cM 2 3 = 0 := by decide
theorem b3 : beatE 2 q3 cX 2 3 = 110 := by decide
theorem p1 : joinQ [] (seatL cM) 0 = q1 := by kernel_rfl
theorem p2 : joinQ q1 (seatL cN) 0 = q2 := by kernel_rfl
theorem p3 : joinQ q2 (seatL cO) 112 = q2 := by kernel_rfl
theorem p4 : joinQ q2 se0 1 = q2 := by kernel_rfl
theorem p5 : beatQ q2 cM 3 111 = q2 := by kernel_rfl
theorem p6 : beatQ q2 cM 3 0 = q3 := by kernel_rfl
theorem p7 : beatQ q3 cX 3 110 = q3 := by kernel_rfl
theorem x1 : goneQ (lateB 6) q3 = [cN] := by kernel_rfl
theorem x2 : goneG (lateB 6) 2 q3 = 3 := by kernel_rfl
theorem x3 : stayQ (lateB 6) q3 = q4 := by kernel_rfl
theorem f1 : fenceE 3 q4 cM 3 = 0 := by decide
theorem l1 : leaveQ q4 cM 0 = [] := by kernel_rfl
theorem l2 : leaveG 3 0 = 4 := by kernel_rfl
theorem k1 : loadE lT 0 := by
  unfold loadE
  rw [if_neg (by decide)]
  refine .inl ⟨rfl, fun i hi x hx => ?_⟩
  match i, hx with
  | 0, hx => simp [lT] at hx; subst hx; exact ⟨by decide, fun h => absurd h (by omega)⟩
  | i + 1, hx => simp [lT] at hx
theorem rise_two : RiseTo [(seM3).m, (seatL cN).m] 2 := fun i h0 hi x y hx hy => by
  obtain rfl : i = 1 := by omega
  simp at hx hy
  subst hx; subst hy
  decide
theorem a1 : asgE 2 q3 cN 2 lT 0 := ⟨0, ⟨0, k1, .inr ⟨rfl, .inr (.inl ⟨by decide, rise_two, rfl⟩)⟩⟩, .inr ⟨rfl, by decide⟩⟩
theorem a2 : shareL true lT (q3.map (·.m)) = [[⟨cT, 0⟩, ⟨cT, 2⟩], lN] := by kernel_rfl
theorem ld1 : loadG (-1) [] 1 := by
  unfold loadG
  rw [if_neg (by decide), if_pos (by decide)]
end
theorem asg_n {i : Nat} {s : Se} {L : List Pt} (h : q3[i]? = some s) (hn : s.m.name = cN) (hL : (shareL true lT (q3.map (·.m)))[i]? = some L) : L = lN := by
  rw [a2] at hL
  match i, h, hL with
  | 0, h, hL =>
    simp [q3] at h; subst h
    exact absurd hn (by decide)
  | 1, h, hL => simp at hL; exact hL.symm
  | i + 2, h, hL => simp [q3] at h
theorem isE_nil (w : World) (A : Option Addr) : IsE w A 0 [] := ⟨fun h => absurd h (by simp), rfl, by omega, fun s hs => by cases hs⟩
theorem cell_two {w : World} {t u : ByteArray} {a b : Int} {T : TypeId} : ReadsP (w.alloc (.cells #[.string t, .int .i64 a, .string u, .int .i64 b] T)) (w.alloc (.cells #[.string t, .int .i64 a, .string u, .int .i64 b] T)).heap.size (some ⟨w.heap.size, 0, none⟩) [⟨t, a⟩, ⟨u, b⟩] := fun _ => by
  have hr := heap_alloc_new w (.cells #[.string t, .int .i64 a, .string u, .int .i64 b] T)
  refine ⟨w.heap.size, rfl, by simp, fun i s hs => ?_⟩
  match i, hs with
  | 0, hs => simp at hs; subst hs; exact ⟨(cell_of_row _ _ 0 _ _ _ hr).trans rfl, (cell_of_row _ _ 1 _ _ _ hr).trans rfl⟩
  | 1, hs => simp at hs; subst hs; exact ⟨(cell_of_row _ _ 2 _ _ _ hr).trans rfl, (cell_of_row _ _ 3 _ _ _ hr).trans rfl⟩
  | i + 2, hs => simp at hs
theorem cell_txt {w : World} {t : ByteArray} {T : TypeId} : ReadsT (w.alloc (.cells #[.string t] T)) (w.alloc (.cells #[.string t] T)).heap.size (some ⟨w.heap.size, 0, none⟩) [t] := fun _ => by
  have hr := heap_alloc_new w (.cells #[.string t] T)
  refine ⟨w.heap.size, rfl, by simp, fun i s hs => ?_⟩
  match i, hs with
  | 0, hs => simp at hs; subst hs; exact (cell_of_row _ _ 0 _ _ _ hr).trans rfl
  | i + 1, hs => simp at hs
theorem szL (a : ByteArray) (h : a.size ≤ 281474976710656) : (seatL a).m.name.size ≤ 281474976710656 ∧ ∀ x ∈ (seatL a).m.ts, x.size ≤ 281474976710656 := ⟨h, fun x hx => by simp [seatL] at hx; subst hx; decide⟩
/-- what stands between two calls -/
structure Fx (W w : World) (g b N : Nat) (G : Int) (r : Bool) (Q : List Se) : Prop where
  gm : GM W w g b N G r Q
  lt : g < w.heap.size ∧ b < w.heap.size
theorem Fx.of {W w : World} {g b N : Nat} {G : Int} {r : Bool} {Q : List Se} (h : GM W w g b N G r Q) : Fx W w g b N G r Q := ⟨h, h.lt⟩

theorem asg_two {w w13 : World} {e : Ending} {g b : Nat} (h : ((0 : Int) ≠ 0 ∧ e = .returned (.tuple #[.slice none 0 0, .int .i64 0])) ∨ ((0 : Int) = 0 ∧ ∃ (i : Nat) (s : Se) (L : List Pt) (A : Option Addr) (c : Nat), q3[i]? = some s ∧ s.m.name = cN ∧ (shareL true lT (q3.map (·.m)))[i]? = some L ∧ e = .returned (.tuple #[.slice A L.length c, .int .i64 0]) ∧ ReadsP w13 w13.heap.size A L ∧ ∀ k ∈ bk A, w.heap.size ≤ k)) (hl : g < w.heap.size ∧ b < w.heap.size) :
    ∃ A c, e = .returned (.tuple #[.slice A 2 c, .int .i64 0]) ∧ ReadsP w13 w13.heap.size A lN ∧ ∀ k ∈ bk A, k ∉ [g, b] := by
  rcases h with ⟨h, _⟩ | ⟨_, i, s, L, A, c, h1, h2, h3, he, hr, hk⟩
  · exact absurd rfl h
  · obtain rfl := asg_n h1 h2 h3
    exact ⟨A, c, he, hr, above_gb hk hl.1 hl.2⟩
theorem isE_one {w : World} {B : Nat} {A : Option Addr} {c : Nat} {vs : List Sv} (h : OwnE w B A 1 c vs) (e : vs.map Sv.s = q4) : IsE w A 1 q4 := by
  refine ⟨by rw [← e]; exact h.reads, rfl, by omega, fun s hs => ?_⟩
  simp [q4] at hs; subst hs
  exact ⟨by decide, by decide, fun x hx => by simp [seM3] at hx; subst hx; decide⟩
theorem load_two {w w' : World} {G : Int} {r : Bool} {l : List Se} {e : Ending} (h : ((0 : Int) ≠ 0 ∧ e = .returned (.tuple #[.pointer none, .int .i64 0])) ∨ ((0 : Int) = 0 ∧ GoodG G l ∧ ∃ g b, e = .returned (.tuple #[.pointer (some ⟨g, 0, none⟩), .int .i64 0]) ∧ Gp w' g b l.length G r l ∧ w.heap.size ≤ g ∧ w.heap.size ≤ b)) : ∃ g', e = .returned (.tuple #[.pointer (some ⟨g', 0, none⟩), .int .i64 0]) := by
  rcases h with ⟨h, _⟩ | ⟨_, _, g, b, he, _⟩
  · exact absurd rfl h
  · exact ⟨g, he⟩
theorem load_three {w w' : World} {G : Int} {r : Bool} {l : List Se} {e : Ending} (h : ((1 : Int) ≠ 0 ∧ e = .returned (.tuple #[.pointer none, .int .i64 1])) ∨ ((1 : Int) = 0 ∧ GoodG G l ∧ ∃ g b, e = .returned (.tuple #[.pointer (some ⟨g, 0, none⟩), .int .i64 0]) ∧ Gp w' g b l.length G r l ∧ w.heap.size ≤ g ∧ w.heap.size ≤ b)) : e = .returned (.tuple #[.pointer none, .int .i64 1]) := by
  rcases h with ⟨_, h⟩ | ⟨h, _⟩
  · exact h
  · exact absurd h (by decide)
theorem parts_two {w : World} {A : Option Addr} {c : Nat} (T : TypeId) (h : ReadsP w w.heap.size A lN) :
    Calls Try.prog 41 #[.slice A 2 c, .slice (some ⟨w.heap.size, 0, none⟩) 2 2] (w.alloc (.cells #[.string ⟨#[116]⟩, .int .i64 1, .string ⟨#[116]⟩, .int .i64 3] T)) fun e w' => e = .returned (.bool true) ∧ Below (w.alloc (.cells #[.string ⟨#[116]⟩, .int .i64 1, .string ⟨#[116]⟩, .int .i64 3] T)).heap.size (w.alloc (.cells #[.string ⟨#[116]⟩, .int .i64 1, .string ⟨#[116]⟩, .int .i64 3] T)) w' :=
  rparts_is A (some ⟨w.heap.size, 0, none⟩) lN lN c 2 _ true _ (Lib.hid (fun h0 => by
    obtain ⟨g, e, hg, hc⟩ := h h0
    have hb := one_box' (w := w) (.cells #[.string ⟨#[116]⟩, .int .i64 1, .string ⟨#[116]⟩, .int .i64 3] T)
    exact ⟨g, e, Nat.lt_of_lt_of_le hg hb.size, fun i s hs => ⟨cell_b hb (hc i s hs).1, cell_b hb (hc i s hs).2⟩⟩)) (Lib.hid cell_two) (Nat.le_refl _) (by decide) (Lib.hid (by simp))
theorem texts_one {w : World} {A : Option Addr} {c : Nat} (T : TypeId) (h : RowT (w.alloc (.cells #[.string ⟨#[110]⟩] T)) A c [cN]) :
    Calls Try.prog 31 #[.slice A 1 c, .slice (some ⟨w.heap.size, 0, none⟩) 1 1] (w.alloc (.cells #[.string ⟨#[110]⟩] T)) fun e w' => e = .returned (.bool true) ∧ Below (w.alloc (.cells #[.string ⟨#[110]⟩] T)).heap.size (w.alloc (.cells #[.string ⟨#[110]⟩] T)) w' :=
  rtexts_is A (some ⟨w.heap.size, 0, none⟩) [cN] [cN] c 1 _ true _ (Lib.hid h.row.reads) (Lib.hid cell_txt) (Nat.le_refl _) (by decide) (Lib.hid (by simp))

set_option maxRecDepth 100000 in
set_option maxHeartbeats 8000000 in
theorem fixed11_any (w : World) : Calls Try.prog 28 #[] w fun e w' => e = .returned (.bool true) ∧ Below w.heap.size w w' := by
  go_enter Try.func28, Try.ntmps28
  go_wp2_with (first
    | (go_at_call 26; have _q := HB21; refine (m_seats 0 (Lib.hid (H19.out.below HB21.out)) (Lib.hid rfl)).mono ?_; rintro e w22 ⟨A22, d22, vs, rfl, hvs, ho22, h22, hb22⟩; have H22 := Lib.hid h22; clear h22 hb22 ho22 hvs)
    | (go_at_call 31; refine (texts_one _ (HT19.out.1.below (HB20.out.alloc HB20.out.size _))).mono ?_; rintro e w21 ⟨rfl, hb21⟩; have HB21 : Hid (Below w19.heap.size w19 w21) := Lib.hid ((HB20.out.alloc HB20.out.size _).trans (hb21.mono (HB20.out.alloc HB20.out.size _).size)); clear hb21)
    | (go_at_call 41; refine (parts_two _ HP19.out.1).mono ?_; rintro e w20 ⟨rfl, hb20⟩; have HB20 : Hid (Below w19.heap.size w19 w20) := Lib.hid ((one_box' _).trans (hb20.mono (one_box' _).size)); clear hb20)
    | (go_at_call 23; have _q := H18; refine (m_leave cM 3 0 H18 (Lib.hid (by decide)) (Lib.hid f1)).mono ?_; rintro e w19 ⟨rfl, h19, ho19⟩; have HP19 := Lib.hid (And.intro (readsP_only HP18.out.1 ho19 HP18.out.2) HP18.out.2); have HT19 := Lib.hid (And.intro (rowT_only HT18.out.1 ho19 HT18.out.2) HT18.out.2); have H19 : Hid (GM w w19 g b 7 4 true []) := Lib.hid h19; clear h19 ho19)
    | (go_at_call 54; have _q := H17; refine (load_is _ (-1) false none 0 0 [] 1 (Lib.hid (isE_nil _ _)) (Lib.hid ld1)).mono ?_; rintro e w18 ⟨hb18, hcase⟩; obtain rfl : e = .returned (.tuple #[.pointer none, .int .i64 1]) := load_three hcase; have HP18 := Lib.hid (And.intro (readsP_only HP17.out.1 (Only.ofBelow (S := [g, b]) hb18) HP17.out.2) HP17.out.2); have HT18 := Lib.hid (And.intro (HT17.out.1.below hb18) HT17.out.2); have H18 := Lib.hid (H17.out.below hb18); clear hb18 hcase)
    | (go_at_call 54; have _q := H16; refine (load_is _ 3 true A16 1 d16 q4 0 HE16 (Lib.hid H16.out.good.load)).mono ?_; rintro e w17 ⟨hb17, hcase⟩; obtain ⟨g17, rfl⟩ : ∃ g', e = .returned (.tuple #[.pointer (some ⟨g', 0, none⟩), .int .i64 0]) := load_two hcase; have HP17 := Lib.hid (And.intro (readsP_only HP16.out.1 (Only.ofBelow (S := [g, b]) hb17) HP16.out.2) HP16.out.2); have HT17 := Lib.hid (And.intro (HT16.out.1.below hb17) HT16.out.2); have H17 := Lib.hid (H16.out.below hb17); clear hb17 hcase)
    | (go_at_call 26; have _q := H15; refine (m_seats 1 H15 (Lib.hid rfl)).mono ?_; rintro e w16 ⟨A16, d16, vs, rfl, hvs, ho16, h16, hb16⟩; have HP16 := Lib.hid (And.intro (readsP_only HP15.out.1 (Only.ofBelow (S := [g, b]) hb16) HP15.out.2) HP15.out.2); have HT16 := Lib.hid (And.intro (HT15.out.1.below hb16) HT15.out.2); have HE16 : Hid (IsE w16 A16 1 q4) := Lib.hid (isE_one ho16 hvs.out); have H16 := Lib.hid h16; clear h16 hb16 ho16 hvs)
    | (go_at_call 25; have _q := H14; refine (m_gen H14).mono ?_; rintro e w15 ⟨rfl, h15, hb15⟩; have HP15 := Lib.hid (And.intro (readsP_only HP14.out.1 (Only.ofBelow (S := [g, b]) hb15) HP14.out.2) HP14.out.2); have HT15 := Lib.hid (And.intro (HT14.out.1.below hb15) HT14.out.2); have H15 := Lib.hid h15; clear h15 hb15)
    | (go_at_call 30; have _q := H13; refine (m_expire 6 [cN] 1 H13 (Lib.hid x1) (Lib.hid rfl)).mono ?_; rintro e w14 ⟨A14, d14, rfl, hr14, hk14, h14, ho14⟩; have HP14 := Lib.hid (And.intro (readsP_only HP13.out.1 ho14 HP13.out.2) HP13.out.2); have HT14 := Lib.hid (And.intro hr14 (above_gb hk14 H13.out.lt.1 H13.out.lt.2)); have H14 : Hid (GM w w14 g b 7 3 true q4) := Lib.hid h14; clear hr14 hk14 h14 ho14)
    | (go_at_call 27; have _q := H12; refine (m_assigned cN 2 0 H12 (Lib.hid (by decide)) HL12 (Lib.hid a1)).mono ?_; rintro e w13 ⟨⟨hb13, hcase⟩, h13⟩; obtain ⟨A13, d13, he13, hr13, hk13⟩ : ∃ A c, e = .returned (.tuple #[.slice A 2 c, .int .i64 0]) ∧ ReadsP w13 w13.heap.size A lN ∧ ∀ k ∈ bk A, k ∉ [g, b] := asg_two hcase H12.out.lt; subst he13; have HP13 := Lib.hid (And.intro hr13 hk13); have H13 : Hid (GM w w13 g b 7 2 true q3) := Lib.hid h13; clear hb13 hcase hr13 hk13 h13)
    | (go_at_call 53; have _q := H11; refine (topic_is _).mono ?_; rintro e w12 ⟨A12, d12, rfl, hl12, hb12⟩; have HL12 := Lib.hid hl12; have H12 := Lib.hid (H11.out.below hb12); clear hl12 hb12)
    | (go_at_call 29; have _q := H10; refine (m_beat cX 2 3 110 H10 (by decide) (Lib.hid (by decide)) (Lib.hid b3)).mono ?_; rintro e w11 ⟨rfl, h11, -⟩; have H11 : Hid (GM w w11 g b 7 2 true q3) := Lib.hid h11; clear h11)
    | (go_at_call 29; have _q := H9; refine (m_beat cM 2 3 0 H9 (by decide) (Lib.hid (by decide)) (Lib.hid b2)).mono ?_; rintro e w10 ⟨rfl, h10, -⟩; have H10 : Hid (GM w w10 g b 6 2 true q3) := Lib.hid h10; clear h10)
    | (go_at_call 29; have _q := H8; refine (m_beat cM 1 3 111 H8 (by decide) (Lib.hid (by decide)) (Lib.hid b1)).mono ?_; rintro e w9 ⟨rfl, h9, -⟩; have H9 : Hid (GM w w9 g b 5 2 true q2) := Lib.hid h9; clear h9)
    | (go_at_call 24; have _q := H7; refine (m_join (se0) _ none 0 0 1 0 true H7 (by decide) (Lib.hid ⟨rfl, rfl, rfl, rfl⟩) (Lib.hid ⟨fun h => absurd h (by decide), by decide, fun _ => rfl⟩) (Lib.hid ⟨by decide, fun x hx => by cases hx⟩) (by decide) (Lib.hid j4) (Lib.hid rfl)).mono ?_; rintro e w8 ⟨rfl, h8, -⟩; have H8 : Hid (GM w w8 g b 4 2 true q2 ) := Lib.hid h8; clear h8)
    | (go_at_call 24; have _q := H6; refine (m_join (seatL cO) _ A6 5 0 112 0 false H6 (by decide) (Lib.hid ⟨rfl, rfl, rfl, rfl⟩) HT6 (Lib.hid (szL cO (by decide))) (by decide) (Lib.hid j3) (Lib.hid rfl)).mono ?_; rintro e w7 ⟨rfl, h7, -⟩; have H7 : Hid (GM w w7 g b 3 2 true q2 ) := Lib.hid h7; clear h7)
    | (go_at_call 32; have _q := H5; refine (lseat_is ⟨#[111]⟩ _).mono ?_; rintro e w6 ⟨A6, d6, rfl, ht6, hb6⟩; have HT6 := Lib.hid ht6; have H6 := Lib.hid (H5.out.below hb6); clear ht6 hb6)
    | (go_at_call 24; have _q := H4; refine (m_join (seatL cN) _ A4 5 0 0 2 true H4 (by decide) (Lib.hid ⟨rfl, rfl, rfl, rfl⟩) HT4 (Lib.hid (szL cN (by decide))) (by decide) (Lib.hid j2) (Lib.hid rfl)).mono ?_; rintro e w5 ⟨rfl, h5, -⟩; have H5 : Hid (GM w w5 g b 2 2 true q2 ) := Lib.hid h5; clear h5)
    | (go_at_call 32; have _q := H3; refine (lseat_is ⟨#[110]⟩ _).mono ?_; rintro e w4 ⟨A4, d4, rfl, ht4, hb4⟩; have HT4 := Lib.hid ht4; have H4 := Lib.hid (H3.out.below hb4); clear ht4 hb4)
    | (go_at_call 24; have _q := H2; refine (m_join (seatL cM) _ A2 5 0 0 1 true H2 (by decide) (Lib.hid ⟨rfl, rfl, rfl, rfl⟩) HT2 (Lib.hid (szL cM (by decide))) (by decide) (Lib.hid j1) (Lib.hid rfl)).mono ?_; rintro e w3 ⟨rfl, h3, -⟩; have H3 : Hid (GM w w3 g b 1 1 true q1 ) := Lib.hid h3; clear h3)
    | (go_at_call 32; have _q := H1; refine (lseat_is ⟨#[109]⟩ _).mono ?_; rintro e w2 ⟨A2, d2, rfl, ht2, hb2⟩; have HT2 := Lib.hid ht2; have H2 := Lib.hid (H1.out.below hb2); clear ht2 hb2)
    | (go_at_call 21; refine (m_new w w (Below.refl _ _)).mono ?_; rintro e w1 ⟨g, b, rfl, h1, -⟩; have H1 := Lib.hid h1; clear h1))
  go_ret
  exact ⟨by simp, H22.out.bel⟩
end Go.Proofs.Ytidgifnnkaheeaa.L11
