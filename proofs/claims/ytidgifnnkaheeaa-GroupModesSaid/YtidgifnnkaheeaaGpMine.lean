/-
  A group of a law's own: each call on it in one word.
-/
import Derived.Test.YtidgifnnkaheeaaGpJoin
import Derived.Test.YtidgifnnkaheeaaGpBeat
import Derived.Test.YtidgifnnkaheeaaGpOut
import Derived.Test.YtidgifnnkaheeaaGpSeats
import Derived.Test.YtidgifnnkaheeaaGpAsgn
namespace Go.Proofs.Ytidgifnnkaheeaa.L11
open Go.RowKit
open Go.Maps
open L3 L4 L9 L10

structure GM (W w : World) (g b N : Nat) (G : Int) (r : Bool) (Q : List Se) : Prop where
  gp : Gp w g b N G r Q
  good : GoodG G Q
  hg : W.heap.size ≤ g
  hb : W.heap.size ≤ b
  bel : Below W.heap.size W w
section
variable {W w w' : World} {g b N N' : Nat} {G G' : Int} {r r' : Bool} {Q Q' : List Se}
theorem GM.below (h : GM W w g b N G r Q) (hb : Below w.heap.size w w') : GM W w' g b N G r Q := ⟨h.gp.below hb, h.good, h.hg, h.hb, h.bel.trans (hb.mono h.bel.size)⟩
theorem GM.kept (h : GM W w g b N G r Q) (hb : Below W.heap.size w w') (h1 : w'.heap[g]? = w.heap[g]?) (h2 : w'.heap[b]? = w.heap[b]?) (k : KpS w w') : GM W w' g b N G r Q := ⟨h.gp.kept h1 h2 k, h.good, h.hg, h.hb, h.bel.trans hb⟩
theorem GM.turn (h : GM W w g b N G r Q) (hg : Gp w' g b N' G' r' Q') (hq : GoodG G' Q') (o : Only [g, b] w w') : GM W w' g b N' G' r' Q' :=
  ⟨hg, hq, h.hg, h.hb, h.bel.trans (o.below h.bel.size (fun k hk => by
    rcases List.mem_cons.1 hk with rfl | hk
    · exact h.hg
    · rw [show k = b by simpa using hk]; exact h.hb))⟩
theorem GM.lt (h : GM W w g b N G r Q) : g < w.heap.size ∧ b < w.heap.size := ⟨h.gp.lt, h.gp.map.lt⟩
theorem only_gb (o : Only [b] w w') : Only [g, b] w w' := o.mono (fun k hk => .inl (by simp at hk; simp [hk]))
theorem m_new (W w : World) (hb : Below W.heap.size W w) : Calls Try.prog 21 #[] w fun e w' => ∃ g b, e = .returned (.pointer (some ⟨g, 0, none⟩)) ∧ GM W w' g b 0 0 false [] ∧ Below w.heap.size w w' :=
  (new_is w).mono fun _ _ ⟨g, b, he, h1, h2, h3, h4⟩ => ⟨g, b, he, ⟨h1, goodG_new, Nat.le_trans hb.size h2, Nat.le_trans hb.size h3, hb.trans (h4.mono hb.size)⟩, h4⟩
theorem m_join {n c : Nat} (s : Se) (a : ByteArray) (A : Option Addr) (tm sn x y : Int) (rb : Bool) (h : Hid (GM W w g b N G r Q)) (hN : N ≤ 1000000) (HS : Hid (s.m.name = a ∧ s.m.ts.length = n ∧ s.tm = tm ∧ s.sn = sn)) (hT : Hid (RowT w A c s.m.ts)) (hz : Hid (s.m.name.size ≤ 281474976710656 ∧ ∀ x ∈ s.m.ts, x.size ≤ 281474976710656)) (hn : n ≤ 1000000) (HX : Hid (joinE G r Q s rb = x)) (HY : Hid ((if x = 0 then G + 1 else 0) = y)) :
    Calls Try.prog 24 #[.pointer (some ⟨g, 0, none⟩), .agg #[.string a, .slice A n c, .int .i64 tm, .int .i64 sn], .bool rb] w fun e w' => e = .returned (.tuple #[.int .i64 y, .int .i64 x]) ∧ GM W w' g b (N + 1) (joinG G x) (joinR r rb x) (joinQ Q s x) ∧ Only [g, b] w w' :=
  (join_is s a A tm sn x rb (Lib.hid h.out.gp) (Lib.hid h.out.good) hN HS hT hz hn HX).mono fun _ _ ⟨he, h1, h2⟩ => ⟨by rw [he, HY.out], h.out.turn h1 (good_join h.out.good HX.out) h2, h2⟩
theorem m_beat (a : ByteArray) (gn now x : Int) (h : Hid (GM W w g b N G r Q)) (hN : N ≤ 1000000) (hs : Hid (a.size ≤ maxLen)) (HX : Hid (beatE G Q a gn now = x)) :
    Calls Try.prog 29 #[.pointer (some ⟨g, 0, none⟩), .string a, .int .i64 gn, .int .i64 now] w fun e w' => e = .returned (.int .i64 x) ∧ GM W w' g b (N + 1) G r (beatQ Q a now x) ∧ Only [g, b] w w' :=
  (beat_is a gn now x (Lib.hid h.out.gp) (Lib.hid h.out.good) hN hs HX).mono fun _ _ ⟨he, h1, h2⟩ => ⟨he, h.out.turn h1 (good_beat h.out.good HX.out) (only_gb h2), only_gb h2⟩
theorem m_leave (a : ByteArray) (gn x : Int) (h : Hid (GM W w g b N G r Q)) (hs : Hid (a.size ≤ maxLen)) (HX : Hid (fenceE G Q a gn = x)) :
    Calls Try.prog 23 #[.pointer (some ⟨g, 0, none⟩), .string a, .int .i64 gn] w fun e w' => e = .returned (.int .i64 x) ∧ GM W w' g b N (leaveG G x) r (leaveQ Q a x) ∧ Only [g, b] w w' :=
  (leave_is a gn x (Lib.hid h.out.gp) (Lib.hid h.out.good) hs HX).mono fun _ _ ⟨he, h1, h2⟩ => ⟨he, h.out.turn h1 (good_leave h.out.good a x) h2, h2⟩
theorem m_fence (a : ByteArray) (gn x : Int) (h : Hid (GM W w g b N G r Q)) (hs : Hid (a.size ≤ maxLen)) (HX : Hid (fenceE G Q a gn = x)) :
    Calls Try.prog 44 #[.pointer (some ⟨g, 0, none⟩), .string a, .int .i64 gn] w fun e w' => e = .returned (.int .i64 x) ∧ GM W w' g b N G r Q ∧ Below w.heap.size w w' :=
  (fence_is a gn x (Lib.hid h.out.gp) hs HX).mono fun _ _ ⟨he, h1⟩ => ⟨he, h.out.below h1, h1⟩
theorem m_expire (now : Int) (L : List ByteArray) (n : Nat) (h : Hid (GM W w g b N G r Q)) (HL : Hid (goneQ (lateB now) Q = L)) (HN : Hid (L.length = n)) :
    Calls Try.prog 30 #[.pointer (some ⟨g, 0, none⟩), .int .i64 now] w fun e w' => ∃ A c, e = .returned (.slice A n c) ∧ RowT w' A c L ∧ (∀ k ∈ bk A, w.heap.size ≤ k) ∧ GM W w' g b N (goneG (lateB now) G Q) r (stayQ (lateB now) Q) ∧ Only [g, b] w w' :=
  (expire_is now (Lib.hid h.out.gp) (Lib.hid h.out.good)).mono fun _ _ ⟨A, n', c, he, h0, h1, h2, h3⟩ => by
    obtain rfl : n' = n := by rw [← h0, HL.out, HN.out]
    refine ⟨A, c, he, ?_, fun k hk => (own_bk h1 k hk).choose_spec.1, h.out.turn h2 (good_gone h.out.good _) h3, h3⟩
    rw [← HL.out]
    exact RowT.own h1 h0
theorem m_gen (h : Hid (GM W w g b N G r Q)) :
    Calls Try.prog 25 #[.pointer (some ⟨g, 0, none⟩)] w fun e w' => e = .returned (.tuple #[.int .i64 G, .bool r]) ∧ GM W w' g b N G r Q ∧ Below w.heap.size w w' :=
  (gen_is (Lib.hid h.out.gp)).mono fun _ _ ⟨he, h1⟩ => ⟨he, h.out.below h1, h1⟩
theorem m_seats (m : Nat) (h : Hid (GM W w g b N G r Q)) (hm : Hid (Q.length = m)) :
    Calls Try.prog 26 #[.pointer (some ⟨g, 0, none⟩)] w fun e w' => ∃ A c vs, e = .returned (.slice A m c) ∧ Hid (vs.map Sv.s = Q) ∧ OwnE w' w.heap.size A m c vs ∧ GM W w' g b N G r Q ∧ Below w.heap.size w w' :=
  (seats_is (Lib.hid h.out.gp) (Lib.hid h.out.good) hm (by have := h.out.good.len; have := hm.out; omega)).mono fun _ _ ⟨A, c, vs, he, h0, h1, h2⟩ => ⟨A, c, vs, he, Lib.hid h0, h1, h.out.below h2, h2⟩
theorem m_assigned {n c : Nat} {A : Option Addr} {l : List Pt} (a : ByteArray) (gn x : Int) (h : Hid (GM W w g b N G r Q)) (hz : Hid (a.size ≤ maxLen)) (hL : Hid (IsL w w.heap.size A n c l)) (HX : Hid (asgE G Q a gn l x)) :
    Calls Try.prog 27 #[.pointer (some ⟨g, 0, none⟩), .string a, .int .i64 gn, .slice A n c] w fun e w' => AsgP w r Q a l x e w' ∧ GM W w' g b N G r Q :=
  (assigned_is a gn x (Lib.hid h.out.gp) (Lib.hid h.out.good) hz hL HX).mono fun _ _ h1 => ⟨h1, h.out.below h1.1⟩
end
/-- reads stay where some blocks change -/
theorem readsP_only {w w' : World} {S : List Nat} {A : Option Addr} {l : List Pt} (h : ReadsP w w.heap.size A l) (o : Only S w w') (hb : ∀ k ∈ bk A, k ∉ S) : ReadsP w' w'.heap.size A l := fun h0 => by
  obtain ⟨g, e, hg, hc⟩ := h h0
  have hn : g ∉ S := hb g (by rw [e]; simp [bk])
  exact ⟨g, e, Nat.lt_of_lt_of_le hg o.size, fun i s hs => ⟨o.cell (hc i s hs).1 hn, o.cell (hc i s hs).2 hn⟩⟩
theorem rowT_only {w w' : World} {S : List Nat} {A : Option Addr} {c : Nat} {l : List ByteArray} (h : RowT w A c l) (o : Only S w w') (hb : ∀ k ∈ bk A, k ∉ S) : RowT w' A c l := ⟨fun h0 => by
  obtain ⟨g, cs, fr, e, hg, hc⟩ := h.row h0
  have hn : g ∉ S := hb g (by rw [e]; simp [bk])
  exact ⟨g, cs, fr, e, (o.block g (Array.getElem?_eq_some_iff.1 hg).1 hn).trans hg, fun i s hs => o.cell (hc i s hs) hn⟩, h.room, h.nil⟩
theorem above_gb {g b B : Nat} {A : Option Addr} (h : ∀ k ∈ bk A, B ≤ k) (hg : g < B) (hb : b < B) : ∀ k ∈ bk A, k ∉ [g, b] := fun k hk e => by
  have := h k hk
  simp at e
  omega
end Go.Proofs.Ytidgifnnkaheeaa.L11
