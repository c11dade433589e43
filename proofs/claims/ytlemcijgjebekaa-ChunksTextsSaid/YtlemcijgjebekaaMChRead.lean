/-
  A segment's text is read as it was put; what is read, put, is the text: plain.
-/
import Derived.Test.YtlemcijgjebekaaMChFound
import Derived.Test.YtlemcijgjebekaaMSegSame
import Derived.Test.YtlemcijgjebekaaMSegMine
import Derived.Test.YtlemcijgjebekaaReqAlike
import Derived.Deep.RegionHeld3
import Derived.Test.YtlemcijgjebekaaMRcSmall
namespace Go.Proofs.Ytlemcijgjebekaa.L7
open Go.RowKit
open L3 L4 L5

theorem rise_snoc {n : Int} : ∀ {a : Int} {l : List L4.Fd} {f : L4.Fd}, riseB a n (l ++ [f]) = true → riseB a n l = true ∧ a ≤ lastO a l ∧ lastO a l ≤ f.o ∧ f.o < n
  | a, [], f, h => by
    obtain ⟨h1, h2, _⟩ := rise_cons.1 h
    exact ⟨rfl, Int.le_refl _, h1, h2⟩
  | a, g :: t, f, h => by
    obtain ⟨h1, h2, h3⟩ := rise_cons.1 h
    obtain ⟨q1, q2, q3, q4⟩ := rise_snoc h3
    exact ⟨rise_cons.2 ⟨h1, h2, q1⟩, by show a ≤ lastO (g.o + 1) t; omega, q3, q4⟩
theorem gap_in {a o : Int} {g : Nat} (hg : g < 18446744073709551616) (ha : 0 ≤ a) (h1 : a ≤ o) (h2 : o < 1099511627776) (h : o = wrap64 (a + wrap64 (g : Int))) : g = (o - a).toNat := by
  simp only [wrap64] at h
  omega
/-- what is read -/
theorem readF_got {s : ByteArray} {p b n : Int} (hb : 0 ≤ b) (hn : n ≤ 1099511627776) : ∀ {k : Nat} {L : List L4.Fd} {to a : Int}, readF s p b k = some (L, to, a) → riseB b n L = true → 0 ≤ p → p ≤ s.size →
    a = lastO b L ∧ p ≤ to ∧ to ≤ s.size ∧ (V.nats s).drop p.toNat = V.nats (segL b L) ++ (V.nats s).drop to.toNat
  | 0, L, to, a, h, hr, h0, h1 => by
    simp [readF] at h
    obtain ⟨rfl, rfl, rfl⟩ := h
    exact ⟨rfl, Int.le_refl _, h1, rfl⟩
  | k + 1, L, to, a, h, hr, h0, h1 => by
    cases hk : readF s p b k with
    | none => rw [readF_stop hk 1] at h; cases h
    | some q =>
      obtain ⟨L0, at0, a0⟩ := q
      rw [readF_next hk] at h
      cases ho : oneF s at0 a0 with
      | none => rw [ho] at h; cases h
      | some q =>
        obtain ⟨f, to'⟩ := q
        rw [ho] at h
        simp only [Option.some.injEq, Prod.mk.injEq] at h
        obtain ⟨rfl, rfl, rfl⟩ := h
        obtain ⟨q1, q2, q3, q4⟩ := rise_snoc hr
        obtain ⟨e1, e2, e3, e4⟩ := readF_got hb hn hk q1 h0 h1
        obtain ⟨g, t0, hg, hR, hO⟩ := oneF_ok ho
        obtain ⟨g1, g2, g3, g4, g5⟩ := get_ok hg
        obtain ⟨k1, k2, k3, k4, k5⟩ := getR_got hR
        have hgap : g = (f.o - lastO b L0).toNat := by
          rw [e1] at hO
          exact gap_in g4 (by omega) q3 (by omega) hO
        refine ⟨?_, by omega, k4, ?_⟩
        · rw [lastO_snoc]
          simp only [wrap64]; omega
        · rw [segL_snoc, V.nats_append, V.nats_append, V.nats_put, ← hgap, List.append_assoc, List.append_assoc, ← k5, ← g5]
          exact e4
theorem wrap_pos {a : Nat} (ha : a < 18446744073709551616) (h : 0 ≤ wrap64 (a : Int)) : wrap64 (a : Int) = a := by
  simp only [wrap64] at *; omega
theorem read_text {s : ByteArray} {b n m : Nat} {p a : Int} {L : List L4.Fd} (h3 : get3 s = ((b, n, m), p, true)) (hr : readF s p (wrap64 (b : Int)) m = some (L, (s.size : Int), a)) (hl : loadE (wrap64 (b : Int)) (wrap64 (n : Int)) L = 0) :
    textS (wrap64 (b : Int)) (wrap64 (n : Int)) L = s := by
  obtain ⟨g1, g2, g3, g4, g5, g6⟩ := get3_got h3
  have G := load_good hl
  have hb := wrap_pos g1 G.b0
  have hn := wrap_pos g2 (by have := G.b0; have := G.bn; omega)
  obtain ⟨_, _, _, e⟩ := readF_got G.b0 G.n1 hr G.rise g4 g5
  have hlen := (chk_of_read hr).1
  apply V.nats_inj
  unfold textS
  rw [V.nats_append, hlen, g6, e, hb, hn, Int.toNat_natCast, Int.toNat_natCast]
  have : (V.nats s).drop ((s.size : Int)).toNat = [] := List.drop_of_length_le (by rw [V.nats_len]; omega)
  rw [this, List.append_nil]
theorem oneF_of {s : ByteArray} {at_ a to t0 : Int} {g : Nat} {r : R} (h1 : V.get s at_ = (g, t0, 0)) (h2 : getR s t0 = (r, to, 0)) : oneF s at_ a = some (⟨wrap64 (a + wrap64 (g : Int)), r⟩, to) := by
  unfold oneF
  rw [h1]
  dsimp only
  rw [h2, if_neg (by simp), if_neg (by simp)]
/-- what is put is read -/
theorem readF_put {s : ByteArray} {b n : Int} {L : List L4.Fd} {pre : List Nat} {post : List Nat} (G : L5.Good b n L) (h : V.nats s = pre ++ (V.nats (segL b L) ++ post)) : ∀ k, k ≤ L.length →
    readF s pre.length b k = some (L.take k, (pre.length : Int) + (segL b (L.take k)).size, lastO b (L.take k))
  | 0, _ => by
    have : (segL b (L.take 0)).size = 0 := rfl
    rw [this]; rfl
  | k + 1, hk => by
    obtain ⟨f, hf⟩ : ∃ f, L[k]? = some f := ⟨_, List.getElem?_eq_getElem (by omega)⟩
    obtain ⟨q1, q2, q3⟩ := rise_last G.rise hf
    obtain ⟨s1, s2⟩ := segL_take (a := b) hf
    have b0 := G.b0
    have n1 := G.n1
    -- the text: what is ahead, the gap, the record, what is behind
    have hdrop : L = L.take k ++ f :: L.drop (k + 1) := by
      have := List.getElem?_eq_some_iff.1 hf
      obtain ⟨h1, h2⟩ := this
      conv => lhs; rw [← List.take_append_drop k L, List.drop_eq_getElem_cons h1, h2]
    have hseg : ∀ (a : Int) (l t : List L4.Fd), segL a (l ++ t) = segL a l ++ segL (lastO a l) t := by
      intro a l
      induction l generalizing a with
      | nil => intro t; exact (empty_app _).symm
      | cons g l ih =>
        intro t
        show V.put (g.o - a).toNat ++ g.r.put ++ segL (g.o + 1) (l ++ t) = V.put (g.o - a).toNat ++ g.r.put ++ segL (g.o + 1) l ++ segL (lastO (g.o + 1) l) t
        rw [ih, ByteArray.append_assoc (a := V.put (g.o - a).toNat ++ g.r.put)]
    have e1 : segL b L = segL b (L.take k) ++ (V.put (f.o - lastO b (L.take k)).toNat ++ f.r.put ++ segL (f.o + 1) (L.drop (k + 1))) := by
      conv => lhs; rw [hdrop]
      exact hseg _ _ _
    have gb : (f.o - lastO b (L.take k)).toNat < 18446744073709551616 := by omega
    have h2 : V.nats s = (pre ++ V.nats (segL b (L.take k))) ++ (V.puts (f.o - lastO b (L.take k)).toNat ++ (V.nats f.r.put ++ (V.nats (segL (f.o + 1) (L.drop (k + 1))) ++ post))) := by
      rw [h, e1, V.nats_append, V.nats_append, V.nats_append, V.nats_put]
      simp only [List.append_assoc]
    have hg := V.get_at gb h2
    have hR := getR_put (G.chk f (List.mem_of_getElem? hf)) (s := s) (l := (pre ++ V.nats (segL b (L.take k))) ++ V.puts (f.o - lastO b (L.take k)).toNat) (b := V.nats (segL (f.o + 1) (L.drop (k + 1))) ++ post) (by rw [h2]; simp only [List.append_assoc])
    have el : ((pre ++ V.nats (segL b (L.take k))).length : Int) = (pre.length : Int) + (segL b (L.take k)).size := by rw [List.length_append, V.nats_len]; omega
    have el2 : ((((pre ++ V.nats (segL b (L.take k))) ++ V.puts (f.o - lastO b (L.take k)).toNat).length : Nat) : Int) = ((pre ++ V.nats (segL b (L.take k))).length : Int) + (V.puts (f.o - lastO b (L.take k)).toNat).length := by rw [List.length_append]; omega
    rw [el2] at hR
    have hone := oneF_of (a := lastO b (L.take k)) hg hR
    rw [el] at hone
    rw [readF_next (readF_put G h k (by omega)), hone]
    dsimp only
    have hw : wrap64 (lastO b (L.take k) + wrap64 (((f.o - lastO b (L.take k)).toNat : Nat) : Int)) = f.o := by simp only [wrap64]; omega
    rw [hw, s2, s1, ByteArray.size_append, ByteArray.size_append, V.put_size, ← V.nats_len f.r.put]
    have et : L.take (k + 1) = L.take k ++ [f] := by rw [List.take_add_one, hf]; rfl
    rw [et]
    have hw2 : wrap64 (f.o + 1) = f.o + 1 := by simp only [wrap64]; omega
    rw [hw2]
    refine congrArg some (Prod.ext rfl (Prod.ext ?_ rfl))
    dsimp only
    omega
theorem text_get3 {b n : Int} {L : List L4.Fd} (G : L5.Good b n L) : get3 (textS b n L) = ((b.toNat, n.toNat, L.length), ((three b.toNat n.toNat L.length).size : Int), true) := by
  have b0 := G.b0
  have bn := G.bn
  have n1 := G.n1
  have hl := G.len
  exact get3_at (by omega) (by omega) (by omega) (r := V.nats (segL b L)) (by unfold textS; rw [V.nats_append])
theorem text_read {b n : Int} {L : List L4.Fd} (G : L5.Good b n L) : readF (textS b n L) ((three b.toNat n.toNat L.length).size : Int) b L.length = some (L, ((textS b n L).size : Int), lastO b L) := by
  have h := readF_put (s := textS b n L) (pre := V.nats (three b.toNat n.toNat L.length)) (post := []) G (by unfold textS; rw [V.nats_append]; simp) L.length (Nat.le_refl _)
  rw [V.nats_len, List.take_length] at h
  rw [h]
  refine congrArg some (Prod.ext rfl (Prod.ext ?_ rfl))
  dsimp only
  unfold textS; rw [ByteArray.size_append]; omega
theorem text_inj {b n b' n' : Int} {L L' : List L4.Fd} (h : loadE b n L = 0) (h' : loadE b' n' L' = 0) (e : textS b n L = textS b' n' L') : b = b' ∧ n = n' ∧ L = L' := by
  have G := load_good h
  have G' := load_good h'
  have h3 := text_get3 G
  have hr := text_read G
  rw [e, text_get3 G'] at h3
  simp only [Prod.mk.injEq] at h3
  obtain ⟨⟨e1, e2, e3⟩, e4, _⟩ := h3
  have b0 := G.b0
  have b1 := G'.b0
  have n0 := G.bn
  have n1 := G'.bn
  obtain rfl : b = b' := by omega
  obtain rfl : n = n' := by omega
  rw [e, ← e4, ← e3, text_read G'] at hr
  simp only [Option.some.injEq, Prod.mk.injEq] at hr
  exact ⟨rfl, rfl, hr.1.symm⟩
/-- the answer of Parse -/
def SegU (s : ByteArray) (b n : Int) (L : List L4.Fd) (E : Int) : Prop := (loadE b n L = 0 ∧ textS b n L = s ∧ E = 0) ∨ ((∀ b n L, loadE b n L = 0 → textS b n L ≠ s) ∧ b = 0 ∧ n = 0 ∧ L = [] ∧ E = 70)
theorem SegU.ex (s : ByteArray) : ∃ b n L E, SegU s b n L E := by
  by_cases h : ∃ b n L, loadE b n L = 0 ∧ textS b n L = s
  · obtain ⟨b, n, L, h1, h2⟩ := h
    exact ⟨b, n, L, 0, .inl ⟨h1, h2, rfl⟩⟩
  · exact ⟨0, 0, [], 70, .inr ⟨fun b n L h1 h2 => h ⟨b, n, L, h1, h2⟩, rfl, rfl, rfl, rfl⟩⟩
theorem SegU.none {s : ByteArray} {b n : Int} {L : List L4.Fd} {E : Int} (H : SegU s b n L E) (hn : ∀ b n L, loadE b n L = 0 → textS b n L = s → False) : b = 0 ∧ n = 0 ∧ L = [] ∧ E = 70 := by
  rcases H with ⟨h1, h2, _⟩ | ⟨_, h⟩
  · exact absurd (hn _ _ _ h1 h2) id
  · exact h
theorem SegU.is {s : ByteArray} {b n b' n' : Int} {L L' : List L4.Fd} {E : Int} (H : SegU s b n L E) (h : loadE b' n' L' = 0) (ht : textS b' n' L' = s) : b = b' ∧ n = n' ∧ L = L' ∧ E = 0 := by
  rcases H with ⟨h1, h2, h3⟩ | ⟨h0, _⟩
  · obtain ⟨q1, q2, q3⟩ := text_inj h1 h (h2.trans ht.symm)
    exact ⟨q1, q2, q3, h3⟩
  · exact absurd ht (h0 _ _ _ h)
/-- a text of a segment: how it is read -/
theorem SegU.reads {s : ByteArray} {b n : Int} {L : List L4.Fd} (h : loadE b n L = 0) (ht : textS b n L = s) : ∃ p a, get3 s = ((b.toNat, n.toNat, L.length), p, true) ∧ readF s p b L.length = some (L, (s.size : Int), a) ∧ (b.toNat : Int) = b ∧ (n.toNat : Int) = n ∧ wrap64 b = b ∧ wrap64 n = n ∧ L.length ≤ 64 := by
  have G := load_good h
  subst ht
  have b0 := G.b0
  have bn := G.bn
  have n1 := G.n1
  exact ⟨_, _, text_get3 G, text_read G, by omega, by omega, by simp only [wrap64]; omega, by simp only [wrap64]; omega, G.len⟩
end Go.Proofs.Ytlemcijgjebekaa.L7
/-
  The segment of bytes, in every case.
-/
namespace Go.Proofs.Ytlemcijgjebekaa.L7
open Go.RowKit
open L3 L4 L5

set_option maxRecDepth 100000 in
set_option maxHeartbeats 4000000 in
theorem parse_no3 (s : ByteArray) (w : World) (hs : s.size ≤ 1000000) (b n m : Nat) (p : Int) (H3 : Hid (get3 s = ((b, n, m), p, false))) :
    Calls Try.prog 38 #[.string s] w fun e w' => e = .returned (.tuple #[.agg #[.int .i64 0, .int .i64 0, .slice none 0 0], .int .i64 70]) ∧ Below w.heap.size w w' := by
  go_enter Try.func38, Try.ntmps38
  go_wp2_with (go_at_call 92; refine (get3_is s _ hs b n m p false H3).mono ?_; rintro e w1 ⟨rfl, hb1⟩; have hz1 : w.heap.size < w1.heap.size := (by have := hb1.size; simp at this; omega); have HB1 : Hid (Below w.heap.size w w1) := Lib.hid ((one_box _).trans (hb1.mono (by simp))); have HR1 : Hid (w1.heap[w.heap.size]? = some (.cells #[.int .i64 0, .int .i64 0, .slice none 0 0] 53 (0, 0))) := Lib.hid ((hb1.block _ (by simp)).trans (heap_alloc_new _ _)); obtain ⟨r0, r1, r2, q0, q1, q2⟩ := row3_all HR1.out)
  refine bodyPost_ret (v := .tuple #[.agg #[.int .i64 0, .int .i64 0, .slice none 0 0], .int .i64 70]) (results_row2 (p := 2) (t1 := 3) (ty := 53) Try.results38 _ _ w.heap.size 53 #[(.int .i64 0), (.int .i64 0), (.slice none 0 0)] (0, 0) _ rfl ?row Try.underlying53 rfl (by kernel_rfl)) rfl ⟨rfl, ?_⟩
  case row =>
    refine (Below.heap_alloc _ _ _ (by simp <;> omega)).trans ?_
    exact heap_setCell_same _ w.heap.size 2 _ _ (.slice none 0 0) (heap_setCell_same _ w.heap.size 1 _ _ (.int .i64 0) (heap_setCell_same _ w.heap.size 0 _ _ (.int .i64 0) HR1.out))
  repeat (first | with_reducible exact HB1.out | refine Below.setCell ?_ (by simp <;> omega) _ | refine Below.alloc ?_ (by simp <;> omega) _)
set_option maxRecDepth 100000 in
set_option maxHeartbeats 4000000 in
theorem parse_big (s : ByteArray) (w : World) (hs : s.size ≤ 1000000) (b n m : Nat) (p : Int) (H3 : Hid (get3 s = ((b, n, m), p, true))) (hm : 64 < m) :
    Calls Try.prog 38 #[.string s] w fun e w' => e = .returned (.tuple #[.agg #[.int .i64 0, .int .i64 0, .slice none 0 0], .int .i64 70]) ∧ Below w.heap.size w w' := by
  have hm1 : decide ((64 : Int) < (m : Int)) = true := decide_eq_true (by omega)
  have hm2 : decide (64 < m) = true := decide_eq_true hm
  clear hm
  go_enter Try.func38, Try.ntmps38
  go_wp2_with (go_at_call 92; refine (get3_is s _ hs b n m p true H3).mono ?_; rintro e w1 ⟨rfl, hb1⟩; have hz1 : w.heap.size < w1.heap.size := (by have := hb1.size; simp at this; omega); have HB1 : Hid (Below w.heap.size w w1) := Lib.hid ((one_box _).trans (hb1.mono (by simp))); have HR1 : Hid (w1.heap[w.heap.size]? = some (.cells #[.int .i64 0, .int .i64 0, .slice none 0 0] 53 (0, 0))) := Lib.hid ((hb1.block _ (by simp)).trans (heap_alloc_new _ _)); obtain ⟨r0, r1, r2, q0, q1, q2⟩ := row3_all HR1.out)
  refine bodyPost_ret (v := .tuple #[.agg #[.int .i64 0, .int .i64 0, .slice none 0 0], .int .i64 70]) (results_row2 (p := 2) (t1 := 3) (ty := 53) Try.results38 _ _ w.heap.size 53 #[(.int .i64 0), (.int .i64 0), (.slice none 0 0)] (0, 0) _ rfl ?row Try.underlying53 rfl (by kernel_rfl)) rfl ⟨rfl, ?_⟩
  case row =>
    refine (Below.heap_alloc _ _ _ (by simp <;> omega)).trans ?_
    exact heap_setCell_same _ w.heap.size 2 _ _ (.slice none 0 0) (heap_setCell_same _ w.heap.size 1 _ _ (.int .i64 0) (heap_setCell_same _ w.heap.size 0 _ _ (.int .i64 0) HR1.out))
  repeat (first | with_reducible exact HB1.out | refine Below.setCell ?_ (by simp <;> omega) _ | refine Below.alloc ?_ (by simp <;> omega) _)
set_option maxRecDepth 100000 in
set_option maxHeartbeats 4000000 in
theorem parse_fell (s : ByteArray) (w : World) (hs : s.size ≤ 1000000) (b n : Nat) (m : Nat) (p : Int) (H3 : Hid (get3 s = ((b, n, m), p, true))) (hm : m ≤ 64) (HR : Hid (∀ L to a, readF s p (wrap64 (b : Int)) m = some (L, to, a) → to ≠ (s.size : Int))) :
    Calls Try.prog 38 #[.string s] w fun e w' => e = .returned (.tuple #[.agg #[.int .i64 0, .int .i64 0, .slice none 0 0], .int .i64 70]) ∧ Below w.heap.size w w' := by
  obtain ⟨i0, hi0, hz0, hz1, hz2⟩ := info_parts foundInfo
  have hm1 : decide ((64 : Int) < (m : Int)) = false := by simp; omega
  have hm2 : decide (64 < m) = false := by simp; omega
  go_enter Try.func38, Try.ntmps38
  go_wp2_with (go_at_call 92; refine (get3_is s _ hs b n m p true H3).mono ?_; rintro e w1 ⟨rfl, hb1⟩; have HLW : Hid (w.heap.size < w1.heap.size) := Lib.hid (by have hq := hb1.size; simp at hq; omega))
  have PM0 : PMid w ((w1.alloc (.cells #[.int .u64 b, .int .u64 n, .int .u64 m] 139)).alloc (.cells #[.int .i64 (wrap64 (b : Int)), .int .i64 (wrap64 (n : Int)), .slice none 0 0] 53)) w1.heap.size (w1.heap.size + 1) (wrap64 (b : Int)) (wrap64 (n : Int)) #[.int .u64 b, .int .u64 n, .int .u64 m] [] (.slice none 0 0) := by
    have hl := HLW.out
    refine ⟨?_, ?_, ?_, World.ownsRow_nil _ _ _ _, ?_, by omega, by omega⟩
    · exact (Below.heap_alloc _ _ _ (by simp; omega)).trans ((Below.heap_alloc _ _ _ hl).trans ((hb1.block _ (by simp)).trans (heap_alloc_new _ _)))
    · exact (Below.heap_alloc _ _ _ (by simp)).trans (heap_alloc_new _ _)
    · have := heap_alloc_new (w1.alloc (.cells #[.int .u64 b, .int .u64 n, .int .u64 m] 139)) (.cells #[.int .i64 (wrap64 (b : Int)), .int .i64 (wrap64 (n : Int)), .slice none 0 0] 53)
      simp only [World.size_alloc] at this
      exact this
    · exact (((one_box _).trans (hb1.mono (by simp))).trans ((two_box _ _).mono (by omega)))
  clear hb1
  go_loopw [5, 8, 37] (fun tv lv cv wr => ∃ (k : Nat) (L0 : List L4.Fd) (at0 a0 : Int) (v : Value), k ≤ m ∧ cv = .int .u64 k ∧ tv = .int .i64 at0 ∧ lv = .int .i64 a0 ∧ Hid (readF s p (wrap64 (b : Int)) k = some (L0, at0, a0)) ∧ Hid (PMid w wr w1.heap.size (w1.heap.size + 1) (wrap64 (b : Int)) (wrap64 (n : Int)) #[.int .u64 b, .int .u64 n, .int .u64 m] L0 v)) (fun _ _ cv _ => m - (intOf cv).toNat)
  case atStart => exact ⟨0, [], p, wrap64 (b : Int), _, by omega, rfl, rfl, rfl, Lib.hid rfl, Lib.hid PM0⟩
  case round =>
    obtain ⟨k, L0, at0, a0, v, hk, rfl, rfl, rfl, HR0, PM⟩ := hrel
    obtain ⟨l1, l2, l3⟩ := PM.out.lt
    have c2 : wr.cell? ⟨w1.heap.size + 1, 2, none⟩ = some v := (cell_of_row _ _ 2 _ _ _ PM.out.seg).trans rfl
    have t2 : wr.cell? ⟨w1.heap.size, 2, none⟩ = some (.int .u64 m) := (cell_of_row _ _ 2 _ _ _ PM.out.tab).trans rfl
    by_cases hlt : k < m
    · cases hq : oneF s at0 a0 with
      | none =>
        have k0 : (0 : Int) ≤ (k : Int) := by omega
        have k1 : (k : Int) < (m : Int) := by omega
        rcases oneF_no hq with ⟨g, t0, x, hg, hx⟩ | ⟨g, t0, rr, to', x, hg, hr, hx⟩
        · have HG := Lib.hid hg
          clear hg hq
          go_wp2_with (go_at_call 93; refine (found_e1 s at0 a0 _ hs g t0 x HG hx).mono ?_; rintro e w2 ⟨rfl, hb2⟩; obtain ⟨c0, c1, c22, c3, c4, f0, f1, f2, f3, f4⟩ := row5_facts ((hb2.block wr.heap.size (by simp)).trans (heap_alloc_new wr _)); obtain ⟨PM3, hf3, hv3⟩ := PM.out.stored (x0 := .int .i64 0) (x1 := .bool false) (x2 := .string ⟨#[]⟩) (x3 := .bool false) (x4 := .string ⟨#[]⟩) hb2; have HP3 := Lib.hid PM3; have hl2 : wr.heap.size < w2.heap.size := (by have := hb2.size; simp at this; omega); have hres := (((hb2.mono (Nat.le_of_lt (by simp)))).block w.heap.size l1).trans ((Below.heap_alloc _ _ _ l1).trans PM.out.res); obtain ⟨z0, z1, z2, zq0, zq1, zq2⟩ := row3_all hres; have HW0 : Hid (w.heap.size ≠ wr.heap.size) := Lib.hid (by omega); clear hres)
          refine bodyPost_ret (v := .tuple #[.agg #[.int .i64 0, .int .i64 0, .slice none 0 0], .int .i64 70]) (results_row2 (p := 2) (t1 := 3) (ty := 53) Try.results38 _ _ w.heap.size 53 #[(.int .i64 0), (.int .i64 0), (.slice none 0 0)] (0, 0) _ rfl ?row Try.underlying53 rfl (by kernel_rfl)) rfl ⟨rfl, ?_⟩
          case row => exact heap_setCell_same _ w.heap.size 2 _ _ (.slice none 0 0) (heap_setCell_same _ w.heap.size 1 _ _ (.int .i64 0) (heap_setCell_same _ w.heap.size 0 _ _ (.int .i64 0) HP3.out.res))
          exact ((HP3.out.bel.setCell (p := ⟨w.heap.size, 0, none⟩) (Nat.le_refl _) _).setCell (p := ⟨w.heap.size, 1, none⟩) (Nat.le_refl _) _).setCell (p := ⟨w.heap.size, 2, none⟩) (Nat.le_refl _) _
        · have HG := Lib.hid hg
          have HRR := Lib.hid hr
          clear hg hr hq
          go_wp2_with (go_at_call 93; refine (found_e2 s at0 a0 _ hs g t0 to' x rr HG HRR hx).mono ?_; rintro e w2 ⟨rfl, hb2⟩; obtain ⟨c0, c1, c22, c3, c4, f0, f1, f2, f3, f4⟩ := row5_facts ((hb2.block wr.heap.size (by simp)).trans (heap_alloc_new wr _)); obtain ⟨PM3, hf3, hv3⟩ := PM.out.stored (x0 := .int .i64 0) (x1 := .bool false) (x2 := .string ⟨#[]⟩) (x3 := .bool false) (x4 := .string ⟨#[]⟩) hb2; have HP3 := Lib.hid PM3; have hl2 : wr.heap.size < w2.heap.size := (by have := hb2.size; simp at this; omega); have hres := (((hb2.mono (Nat.le_of_lt (by simp)))).block w.heap.size l1).trans ((Below.heap_alloc _ _ _ l1).trans PM.out.res); obtain ⟨z0, z1, z2, zq0, zq1, zq2⟩ := row3_all hres; have HW0 : Hid (w.heap.size ≠ wr.heap.size) := Lib.hid (by omega); clear hres)
          refine bodyPost_ret (v := .tuple #[.agg #[.int .i64 0, .int .i64 0, .slice none 0 0], .int .i64 70]) (results_row2 (p := 2) (t1 := 3) (ty := 53) Try.results38 _ _ w.heap.size 53 #[(.int .i64 0), (.int .i64 0), (.slice none 0 0)] (0, 0) _ rfl ?row Try.underlying53 rfl (by kernel_rfl)) rfl ⟨rfl, ?_⟩
          case row => exact heap_setCell_same _ w.heap.size 2 _ _ (.slice none 0 0) (heap_setCell_same _ w.heap.size 1 _ _ (.int .i64 0) (heap_setCell_same _ w.heap.size 0 _ _ (.int .i64 0) HP3.out.res))
          exact ((HP3.out.bel.setCell (p := ⟨w.heap.size, 0, none⟩) (Nat.le_refl _) _).setCell (p := ⟨w.heap.size, 1, none⟩) (Nat.le_refl _) _).setCell (p := ⟨w.heap.size, 2, none⟩) (Nat.le_refl _) _
      | some q =>
        obtain ⟨⟨o, ⟨hk', key, tbb, val⟩⟩, to'⟩ := q
        have hnx := readF_next HR0.out
        rw [hq] at hnx
        obtain ⟨g, t0, hg, hr, ho⟩ := oneF_ok hq
        dsimp only at hnx hr ho
        have HNX := Lib.hid hnx
        have HG := Lib.hid hg
        have HRR := Lib.hid hr
        have k0 : (0 : Int) ≤ (k : Int) := by omega
        have k1 : (k : Int) < (m : Int) := by omega
        have hlen := (chk_of_read HR0.out).1
        have HLEN := Lib.hid hlen
        have HO := Lib.hid ho
        clear hnx hg hr hq hlen ho
        go_wp2_with (first
          | (go_at_call 93; refine (found_ok s at0 a0 _ hs g t0 to' hk' key tbb val HG HRR).mono ?_; rw [← HO.out]; rintro e w2 ⟨rfl, hb2⟩; obtain ⟨c0, c1, c22, c3, c4, f0, f1, f2, f3, f4⟩ := row5_facts ((hb2.block wr.heap.size (by simp)).trans (heap_alloc_new wr _)); obtain ⟨PM3, hf3, hv3⟩ := PM.out.stored (x0 := .int .i64 o) (x1 := .bool hk') (x2 := .string key) (x3 := .bool tbb) (x4 := .string val) hb2; have x2' : w2.cell? ⟨w1.heap.size + 1, 2, none⟩ = some v := (cell_of_row _ _ 2 _ _ _ ((PM.out.below (one_box _)).below hb2).seg).trans rfl; have HP3 := Lib.hid PM3; have HF3 := Lib.hid hf3; have HV3 := Lib.hid hv3; have hl2 : wr.heap.size < w2.heap.size := (by have hq := hb2.size; simp at hq; omega); clear PM3 hf3 hv3)
          | (at_builtin; refine wpList_append_own _ rfl _ _ 36 rfl w.heap.size 43 i0 _ 5 56 Try.underlying36 hi0 hz0 hz1 hz2 rfl (by decide) _ _ _ rfl (HP3.out.row.alloc _) ⟨w2.heap.size, 0, none⟩ 1 1 [.int .i64 o, .bool hk', .string key, .bool tbb, .string val] rfl rfl (cells_five _ _ _ _ _ _ _ _ (by simp)) (by simp [Value.oneCell']) (by have := HLEN.out; unfold maxLen; omega) (by have := HLEN.out; omega) (by have := HP3.out.bel.size; simp at this ⊢; omega) ?_; intro v' w5 hown' hgrow _; obtain ⟨g', cap', rfl⟩ := ownsRow_succ hown'; have hg5 := found_grow hgrow (Nat.lt_succ_self 0); have hseg5 := (hg5.block _ HP3.out.lt.2.2 HP3.out.off.2.2).trans HP3.out.seg; have c52 : w5.cell? ⟨w1.heap.size + 1, 2, none⟩ = some v := (cell_of_row _ _ 2 _ _ _ hseg5).trans rfl; have f52 := frozen_of_row w5 (w1.heap.size + 1) 2 _ _ hseg5; have hfb5 := (hg5.block wr.heap.size (by simp; omega) HV3.out).trans HF3.out; have c50 : w5.cell? ⟨wr.heap.size, 0, none⟩ = some (.int .i64 o) := first_cell hfb5; clear hseg5 hfb5))
        go_roundw
        case rel =>
          refine ⟨k + 1, L0 ++ [⟨o, ⟨hk', key, tbb, val⟩⟩], to', wrap64 (o + 1), _, by omega, by go_num, rfl, rfl, Lib.hid HNX.out, Lib.hid (HP3.out.appended (L' := L0 ++ [⟨o, ⟨hk', key, tbb, val⟩⟩]) ?_ hg5)⟩
          rw [List.length_append, rowF_app]
          exact hown'
        case measure => simp [intOf]; omega
    · obtain rfl : k = m := by omega
      have hne : (at0 != (s.size : Int)) = true := by simpa using HR.out _ _ _ HR0.out
      obtain ⟨r0, r1, r2, q0, q1, q2⟩ := row3_all PM.out.res
      have hw0 := PM.out.bel
      go_wp2_with fail
      refine bodyPost_ret (v := .tuple #[.agg #[.int .i64 0, .int .i64 0, .slice none 0 0], .int .i64 70]) (results_row2 (p := 2) (t1 := 3) (ty := 53) Try.results38 _ _ w.heap.size 53 #[(.int .i64 0), (.int .i64 0), (.slice none 0 0)] (0, 0) _ rfl ?row Try.underlying53 rfl (by kernel_rfl)) rfl ⟨rfl, ?_⟩
      case row => exact heap_setCell_same _ w.heap.size 2 _ _ (.slice none 0 0) (heap_setCell_same _ w.heap.size 1 _ _ (.int .i64 0) (heap_setCell_same _ w.heap.size 0 _ _ (.int .i64 0) PM.out.res))
      exact ((hw0.setCell (p := ⟨w.heap.size, 0, none⟩) (Nat.le_refl _) _).setCell (p := ⟨w.heap.size, 1, none⟩) (Nat.le_refl _) _).setCell (p := ⟨w.heap.size, 2, none⟩) (Nat.le_refl _) _
theorem parse_is (s : ByteArray) (w : World) (hs : s.size ≤ 1000000) (b n : Int) (L : List L4.Fd) (E : Int) (HU : Hid (SegU s b n L E)) :
    Calls Try.prog 38 #[.string s] w fun e w' => ∃ A c, e = .returned (.tuple #[.agg #[.int .i64 b, .int .i64 n, .slice A L.length c], .int .i64 E]) ∧ w'.ownsRow w.heap.size 43 5 (.slice A L.length c) L.length (rowF L) ∧ Below w.heap.size w w' := by
  have fail : (∀ b n L, loadE b n L = 0 → textS b n L = s → False) → Calls Try.prog 38 #[.string s] w (fun e w' => e = .returned (.tuple #[.agg #[.int .i64 0, .int .i64 0, .slice none 0 0], .int .i64 70]) ∧ Below w.heap.size w w') → Calls Try.prog 38 #[.string s] w fun e w' => ∃ A c, e = .returned (.tuple #[.agg #[.int .i64 b, .int .i64 n, .slice A L.length c], .int .i64 E]) ∧ w'.ownsRow w.heap.size 43 5 (.slice A L.length c) L.length (rowF L) ∧ Below w.heap.size w w' := by
    intro hno hc
    obtain ⟨rfl, rfl, rfl, rfl⟩ := HU.out.none hno
    refine hc.mono ?_
    rintro e w' ⟨rfl, hb⟩
    exact ⟨none, 0, rfl, World.ownsRow_nil _ _ _ _, hb⟩
  obtain ⟨b', n', m, p, ok, h3⟩ : ∃ a b c to ok, get3 s = ((a, b, c), to, ok) := ⟨_, _, _, _, _, rfl⟩
  cases ok with
  | false =>
    exact fail (fun b n L h ht => by
      obtain ⟨p, a, g, _⟩ := SegU.reads h ht
      rw [h3] at g; simp at g) (parse_no3 s w hs b' n' m p (Lib.hid h3))
  | true =>
    have key : ∀ b n L, loadE b n L = 0 → textS b n L = s → m = L.length ∧ b = b' ∧ n = n' ∧ wrap64 (b' : Int) = b ∧ wrap64 (n' : Int) = n ∧ m ≤ 64 ∧ ∃ a, readF s p (wrap64 (b' : Int)) m = some (L, (s.size : Int), a) := fun b n L h ht => by
      obtain ⟨p', a, g, g2, g3, g4, g5, g6, g7⟩ := SegU.reads h ht
      rw [h3] at g
      simp only [Prod.mk.injEq] at g
      obtain ⟨⟨e1, e2, e3⟩, rfl, _⟩ := g
      have eb : (b' : Int) = b := by omega
      have en : (n' : Int) = n := by omega
      rw [eb, en, e3, g5, g6]
      exact ⟨rfl, rfl, rfl, rfl, rfl, g7, a, g2⟩
    by_cases hm : 64 < m
    · exact fail (fun b n L h ht => by have := (key b n L h ht).2.2.2.2.2.1; omega) (parse_big s w hs b' n' m p (Lib.hid h3) hm)
    · by_cases hr : ∃ L a, readF s p (wrap64 (b' : Int)) m = some (L, (s.size : Int), a)
      · obtain ⟨L', a, hr⟩ := hr
        obtain ⟨x, hx⟩ : ∃ x, loadE (wrap64 (b' : Int)) (wrap64 (n' : Int)) L' = x := ⟨_, rfl⟩
        refine Calls.mono (parse_run s w hs b' n' m p (Lib.hid h3) (by omega) L' _ a (Lib.hid hr) rfl x (Lib.hid hx)) ?_
        rintro e w' (⟨rfl, A, c, rfl, ho, hb⟩ | ⟨hne, rfl, hb⟩)
        · obtain ⟨rfl, rfl, rfl, rfl⟩ := HU.out.is hx (read_text h3 hr hx)
          exact ⟨A, c, rfl, ho, hb⟩
        · obtain ⟨rfl, rfl, rfl, rfl⟩ := HU.out.none (fun b n L h ht => by
            obtain ⟨_, _, _, e1, e2, _, a', hr'⟩ := key b n L h ht
            rw [hr] at hr'
            simp only [Option.some.injEq, Prod.mk.injEq] at hr'
            rw [← hr'.1, ← e1, ← e2] at h
            exact hne (hx.symm.trans h))
          exact ⟨none, 0, rfl, World.ownsRow_nil _ _ _ _, hb⟩
      · exact fail (fun b n L h ht => by
          obtain ⟨_, _, _, _, _, _, a', hr'⟩ := key b n L h ht
          exact hr ⟨L, a', hr'⟩) (parse_fell s w hs b' n' m p (Lib.hid h3) (by omega) (Lib.hid (fun L to a q e => by subst e; exact hr ⟨L, a, q⟩)))
end Go.Proofs.Ytlemcijgjebekaa.L7
/-
  The law's segment: what came in, its records cut short.
-/
namespace Go.Proofs.Ytlemcijgjebekaa.L7
open Go.RowKit
open L3 L4 L5

def cutL (l : List L4.Fd) : List L4.Fd := (l.take 70).map cutF
theorem cutL_len (l : List L4.Fd) : (cutL l).length ≤ 70 := by unfold cutL; rw [List.length_map, List.length_take]; omega
theorem own_in {W : World} {T : TypeId} {b n c size : Nat} {Y : Option Addr} {xs : List Value} (h : W.ownsRow b T size (.slice Y n c) n xs) : ∀ j, blk Y = some j → b ≤ j ∧ j < W.heap.size := fun j e => by
  have := h.lt j (by rw [ownBlock_blk]; exact e)
  exact ⟨this.1, this.2⟩
theorem seg_rows {w : World} {k : Nat} {x y z : Value} (h : w.heap[k]? = some (.cells #[x, y, z] 53 (0, 0))) : w.cell? ⟨k, 0, none⟩ = some x ∧ w.cell? ⟨k, 1, none⟩ = some y ∧ w.cell? ⟨k, 2, none⟩ = some z ∧ w.frozen? ⟨k, 0, none⟩ = false ∧ w.frozen? ⟨k, 1, none⟩ = false ∧ w.frozen? ⟨k, 2, none⟩ = false :=
  ⟨(cell_of_row _ _ 0 _ _ _ h).trans rfl, (cell_of_row _ _ 1 _ _ _ h).trans rfl, (cell_of_row _ _ 2 _ _ _ h).trans rfl, frozen_of_row _ _ _ _ _ h, frozen_of_row _ _ _ _ _ h, frozen_of_row _ _ _ _ _ h⟩
/-- what the segment is while its records are cut -/
structure SMid (w W : World) (b n : Int) (A : Option Addr) (len cap : Nat) (L : List L4.Fd) (v : Value) : Prop where
  par : W.heap[w.heap.size]? = some (.cells #[.int .i64 b, .int .i64 n, .slice A len cap] 53 (0, 0))
  res : W.heap[w.heap.size + 1]? = some (.cells #[.int .i64 0, .int .i64 0, .slice none 0 0] 53 (0, 0))
  out : W.heap[w.heap.size + 1 + 1]? = some (.cells #[.int .i64 b, .int .i64 n, v] 53 (0, 0))
  row : W.ownsRow (w.heap.size + 3) 43 5 v L.length (rowF L)
  bel : Below w.heap.size w W
section
variable {w W W' w2 : World} {b n : Int} {A Av : Option Addr} {len cap k cv : Nat} {L : List L4.Fd} {v : Value}
theorem SMid.lt (h : SMid w W b n A len cap L v) : w.heap.size + 1 + 1 < W.heap.size := (Array.getElem?_eq_some_iff.1 h.out).1
theorem SMid.below (h : SMid w W b n A len cap L v) (q : Below W.heap.size W W') : SMid w W' b n A len cap L v := by
  have hl := h.lt
  exact ⟨(q.block _ (by omega)).trans h.par, (q.block _ (by omega)).trans h.res, (q.block _ (by omega)).trans h.out, own_below h.row q, h.bel.trans (q.mono h.bel.size)⟩
theorem SMid.own (h : SMid w W b n A len cap L (.slice Av k cv)) (hk : L.length = k) : W.ownsRow (w.heap.size + 3) 43 5 (.slice Av k cv) k (rowF L) := by
  have := h.row; rw [hk] at this; exact this
theorem SMid.off (h : SMid w W b n A len cap L (.slice Av k cv)) (hk : L.length = k) : ∀ j, blk Av = some j → w.heap.size + 3 ≤ j := fun j e => (own_in (h.own hk) j e).1
theorem SMid.stored {x : L4.Fd} {gg cc : Nat} (h : SMid w W b n A len cap L (.slice Av k cv)) (hk : L.length = k) (_ : x.o = x.o) (hbut : But (w.heap.size + 1 + 1) (blk Av) W (w2.setCell ⟨w.heap.size + 1 + 1, 2, none⟩ (.slice (some ⟨gg, 0, none⟩) (k + 1) cc)))
    (hrow : w2.heap[w.heap.size + 1 + 1]? = some (.cells #[.int .i64 b, .int .i64 n, .slice Av k cv] 53 (0, 0)))
    (ho : w2.ownsRow (w.heap.size + 3) 43 5 (.slice (some ⟨gg, 0, none⟩) (k + 1) cc) (k + 1) (rowF L ++ [.int .i64 x.o, .bool x.r.hk, .string x.r.key, .bool x.r.tb, .string x.r.val])) (_hat : (Value.slice Av k cv).ownBlock = some gg ∨ gg = W.heap.size + 1) :
    SMid w (w2.setCell ⟨w.heap.size + 1 + 1, 2, none⟩ (.slice (some ⟨gg, 0, none⟩) (k + 1) cc)) b n A len cap (L ++ [x]) (.slice (some ⟨gg, 0, none⟩) (k + 1) cc) := by
  have hl := h.lt
  have hoff := h.off hk
  have hn : ∀ j, j < w.heap.size + 3 → some j ≠ blk Av := fun j hj e => by have := hoff j e.symm; omega
  have hf : rowF L ++ [.int .i64 x.o, .bool x.r.hk, .string x.r.key, .bool x.r.tb, .string x.r.val] = rowF (L ++ [x]) := by rw [rowF_app]; rfl
  refine ⟨(hbut.block _ (by omega) (by omega) (hn _ (by omega))).trans h.par, (hbut.block _ (by omega) (by omega) (hn _ (by omega))).trans h.res, heap_setCell_same _ _ 2 _ _ _ hrow, ?_, ?_⟩
  · rw [List.length_append, List.length_singleton, hk, ← hf]
    have hg := (own_in ho gg rfl).1
    refine ⟨ho.1, ?_⟩
    rcases ho.2 with e | ⟨g, c, cur, e, q1, hh, q2⟩
    · exact .inl e
    · have hgg : g = gg := by injection e with e; injection e with e; injection e with e; exact e.symm
      exact .inr ⟨g, c, cur, e, q1, (Below.heap_setCell _ _ _ _ (by dsimp only; omega)).trans hh, q2⟩
  · exact h.bel.trans ⟨hbut.os, hbut.tape, hbut.output, hbut.size, fun j hj => hbut.block j (by omega) (by omega) (hn _ (by omega))⟩
end

set_option maxRecDepth 100000 in
set_option maxHeartbeats 4000000 in
theorem seg_is (b n0 : Int) (A : Option Addr) (l : List L4.Fd) (n c B : Nat) (w : World) (hR : Hid (FdsO w B A l)) (hB : B ≤ w.heap.size) (hn : l.length = n) (hl : n ≤ 9223372036854775807) (hs : Hid (∀ f ∈ l, f.r.key.size ≤ maxLen ∧ f.r.val.size ≤ maxLen)) :
    Calls Try.prog 35 #[.agg #[.int .i64 b, .int .i64 n0, .slice A n c]] w fun e w' => ∃ A' c', e = .returned (.agg #[.int .i64 b, .int .i64 n0, .slice A' (cutL l).length c']) ∧ (w'.ownsRow w.heap.size 43 5 (.slice A' (cutL l).length c') (cutL l).length (rowF (cutL l))) ∧ Below w.heap.size w w' := by
  obtain ⟨i0, hi0, hz0, hz1, hz2⟩ := info_parts foundInfo
  have HN := Lib.hid hn
  clear hn
  go_enter Try.func35, Try.ntmps35
  go_wp2_with fail
  have SM0 : SMid w (((w.alloc (.cells #[.int .i64 b, .int .i64 n0, .slice A n c] 53)).alloc (.cells #[.int .i64 0, .int .i64 0, .slice none 0 0] 53)).alloc (.cells #[.int .i64 b, .int .i64 n0, .slice none 0 0] 53)) b n0 A n c [] (.slice none 0 0) := by
    refine ⟨?_, ?_, ?_, World.ownsRow_nil _ _ _ _, ?_⟩
    · exact (Below.heap_alloc _ _ _ (by simp <;> omega)).trans ((Below.heap_alloc _ _ _ (by simp)).trans (heap_alloc_new _ _))
    · exact (Below.heap_alloc _ _ _ (by simp)).trans (by have := heap_alloc_new (w.alloc (.cells #[.int .i64 b, .int .i64 n0, .slice A n c] 53)) (.cells #[.int .i64 0, .int .i64 0, .slice none 0 0] 53); simpa using this)
    · have := heap_alloc_new ((w.alloc (.cells #[.int .i64 b, .int .i64 n0, .slice A n c] 53)).alloc (.cells #[.int .i64 0, .int .i64 0, .slice none 0 0] 53)) (.cells #[.int .i64 b, .int .i64 n0, .slice none 0 0] 53)
      simpa using this
    · exact (((Below.refl _ w).alloc (Nat.le_refl _) _).alloc (by simp) _).alloc (by simp <;> omega) _
  go_loopw [4] (fun iv wr => ∃ (k : Nat) (Av : Option Addr) (cv : Nat), k ≤ n ∧ k ≤ 70 ∧ iv = .int .i64 k ∧ Hid (SMid w wr b n0 A n c ((l.take k).map cutF) (.slice Av k cv))) (fun iv _ => n - (intOf iv).toNat)
  case atStart => exact ⟨0, none, 0, by omega, by omega, rfl, Lib.hid SM0⟩
  case round =>
    obtain ⟨k, Av, cv, hkn, hk70, rfl, SM⟩ := hrel
    clear SM0
    obtain ⟨p0, p1, p2, _, _, _⟩ := seg_rows SM.out.par
    have k0 : (0 : Int) ≤ (k : Int) := by omega
    by_cases hlt : k < n ∧ k < 70
    · obtain ⟨h1, h2⟩ := hlt
      have k1 : (k : Int) < (n : Int) := by omega
      have k2 : (k : Int) < 70 := by omega
      obtain ⟨gl, go, rfl, hg, hcells⟩ := hR.out (by rw [HN.out]; omega)
      have hgw : gl < w.heap.size := by omega
      have hbel := SM.out.bel
      obtain ⟨⟨o, ⟨hk, key, tb, val⟩⟩, hf⟩ : ∃ s, l[k]? = some s := ⟨_, List.getElem?_eq_getElem (by rw [HN.out]; omega)⟩
      obtain ⟨x0, x1, x2, x3, x4⟩ := hcells k _ hf
      have d0 := (hbel.cell (p := ⟨gl, go + k * 5, none⟩) hgw).trans x0
      have d1 := (hbel.cell (p := ⟨gl, go + k * 5 + 1, none⟩) hgw).trans x1
      have d2 := (hbel.cell (p := ⟨gl, go + k * 5 + 2, none⟩) hgw).trans x2
      have d3 := (hbel.cell (p := ⟨gl, go + k * 5 + 3, none⟩) hgw).trans x3
      have d4 := (hbel.cell (p := ⟨gl, go + k * 5 + 4, none⟩) hgw).trans x4
      dsimp only at d0 d1 d2 d3 d4
      have hsz := hs.out _ (List.mem_of_getElem? hf)
      have HS1 : Hid (key.size ≤ maxLen) := Lib.hid hsz.1
      have HS2 : Hid (val.size ≤ maxLen) := Lib.hid hsz.2
      have hrw := cut_row hf
      obtain ⟨key2, e2⟩ : ∃ s, cutS key 80 = s := ⟨_, rfl⟩
      obtain ⟨val2, e3⟩ : ∃ s, cutS val 600 = s := ⟨_, rfl⟩
      have hnx : (l.take (k + 1)).map cutF = (l.take k).map cutF ++ [⟨o, ⟨hk, key2, tb, val2⟩⟩] := by
        rw [List.take_add_one, hf, List.map_append, ← e2, ← e3]; rfl
      have HNX := Lib.hid hnx
      have E2 := Lib.hid e2
      have E3 := Lib.hid e3
      have HGL := Lib.hid hgw
      have HLK : Hid (((l.take k).map cutF).length = k) := Lib.hid (by rw [List.length_map, List.length_take]; have := HN.out; omega)
      clear hcells hf hsz e2 e3 hrw hnx hg hgw hbel x0 x1 x2 x3 x4
      go_wp2_with (go_at_call 16; refine (rec_one _ _ _ _ wr HS1.out HS2.out).mono ?_; rw [E2.out, E3.out]; rintro e wn ⟨g9, c9, rfl, ⟨r0, r1, r2, r3⟩, hg9, hg9', hbn⟩)
      have SM2 := SM.out.below hbn
      have HSM2 := Lib.hid SM2
      have hzz : w.heap.size + 1 + 1 < wn.heap.size := SM2.lt
      have hl0 := SM.out.lt
      have hoff := SM2.off HLK.out
      have HNE : Hid (blk Av ≠ some (w.heap.size + 1 + 1)) := Lib.hid (fun e => by have := hoff _ e; omega)
      have HX := Lib.hid SM2.out
      have HO := Lib.hid (SM2.own HLK.out)
      have HZ : Hid (w.heap.size + 3 ≤ wn.heap.size) := Lib.hid SM2.lt
      obtain ⟨z0, z1, z2, _, _, _⟩ := seg_rows SM2.par
      obtain ⟨x0, x1, x2', _, _, _⟩ := seg_rows SM2.out
      have y0 := (hbn.cell (p := ⟨gl, go + k * 5, none⟩) (by have := HGL.out; have := SM.out.bel.size; show gl < _; omega)).trans d0
      have n1 : ∀ j, j < w.heap.size + 3 → some j ≠ blk Av := fun j hj e => by have := hoff j e.symm; omega
      have q1 : gl ≠ w.heap.size + 1 + 1 := by have := HGL.out; omega
      have q2 : some gl ≠ blk Av := n1 gl (by have := HGL.out; omega)
      have q3 : g9 ≠ w.heap.size + 1 + 1 := by omega
      have hav : ∀ j, blk Av = some j → j < wr.heap.size := fun j e => (own_in (SM.out.own HLK.out) j e).2
      have q4 : some g9 ≠ blk Av := fun e => by have := hav g9 e.symm; omega
      have HT : Hid (∀ w', But (w.heap.size + 1 + 1) (blk Av) wn w' → (w'.cell? ⟨w.heap.size, 2, none⟩ = some (.slice (some ⟨gl, go, none⟩) n c) ∧ w'.cell? ⟨gl, go + k * 5, none⟩ = some (.int .i64 o) ∧ w'.cell? ⟨g9, 0, none⟩ = some (.bool hk) ∧ w'.cell? ⟨g9, 1, none⟩ = some (.string key2) ∧ w'.cell? ⟨g9, 2, none⟩ = some (.bool tb) ∧ w'.cell? ⟨g9, 3, none⟩ = some (.string val2)) ∧ But (w.heap.size + 1 + 1) (blk Av) wn w') := Lib.hid (fun w' q => ⟨⟨q.cell z2 (by dsimp only; omega) (n1 _ (by dsimp only; omega)), q.cell y0 q1 q2, q.cell r0 q3 q4, q.cell r1 q3 q4, q.cell r2 q3 q4, q.cell r3 q3 q4⟩, q⟩)
      refine wp_region_held_drew (S := fun w' => (w'.cell? ⟨w.heap.size, 2, none⟩ = some (.slice (some ⟨gl, go, none⟩) n c) ∧ w'.cell? ⟨gl, go + k * 5, none⟩ = some (.int .i64 o) ∧ w'.cell? ⟨g9, 0, none⟩ = some (.bool hk) ∧ w'.cell? ⟨g9, 1, none⟩ = some (.string key2) ∧ w'.cell? ⟨g9, 2, none⟩ = some (.bool tb) ∧ w'.cell? ⟨g9, 3, none⟩ = some (.string val2)) ∧ But (w.heap.size + 1 + 1) (blk Av) wn w') (by kernel_rfl) (HT.out _ (But.ofBelow (Below.refl _ _).drew)) (fun hHeld => ?_)
      refine wpAnyH_take (i := 0) (oi := ?o1) (v := ?v1) ?a1 (by kernel_rfl) (by kernel_rfl) (by kernel_rfl) ?q1 (Or.inl ⟨?g1, ?y1⟩) (by assumption) ?r1; (case' a1 => (simp only [List.getElem?_toArray, List.getElem?_cons_zero]; rfl)); (case' q1 => (exact fun _ _ _ h => h)); (case' g1 => rfl); (case' y1 => (intro w hSw; (try dsimp only at hSw); go_simp; try with_reducible rfl)); (case' r1 => (try simp only [Act.put, List.setIfInBounds_toArray, List.set_cons_zero, List.set_cons_succ]))
      refine wpAnyH_take (i := 2) (oi := ?o2) (v := ?v2) ?a2 (by kernel_rfl) (by kernel_rfl) (by kernel_rfl) ?q2 (Or.inl ⟨?g2, ?y2⟩) (by assumption) ?r2; (case' a2 => (simp only [List.getElem?_toArray, List.getElem?_cons_zero, List.getElem?_cons_succ]; rfl)); (case' q2 => (exact fun _ _ _ h => h)); (case' g2 => rfl); (case' y2 => (intro w hSw; (try dsimp only at hSw); go_simp; try with_reducible rfl)); (case' r2 => (try simp only [Act.put, List.setIfInBounds_toArray, List.set_cons_zero, List.set_cons_succ]))
      refine wpAnyH_take (i := 3) (oi := ?o3) (v := ?v3) ?a3 (by kernel_rfl) (by kernel_rfl) (by kernel_rfl) ?q3 (Or.inl ⟨?g3, ?y3⟩) (by assumption) ?r3; (case' a3 => (simp only [List.getElem?_toArray, List.getElem?_cons_zero, List.getElem?_cons_succ]; rfl)); (case' q3 => (exact fun _ _ _ h => h)); (case' g3 => rfl); (case' y3 => (intro w hSw; (try dsimp only at hSw); go_simp; try with_reducible rfl)); (case' r3 => (try simp only [Act.put, List.setIfInBounds_toArray, List.set_cons_zero, List.set_cons_succ]))
      refine wpAnyH_take (i := 4) (oi := ?o4) (v := ?v4) ?a4 (by kernel_rfl) (by kernel_rfl) (by kernel_rfl) ?q4 (Or.inl ⟨?g4, ?y4⟩) (by assumption) ?r4; (case' a4 => (simp only [List.getElem?_toArray, List.getElem?_cons_zero, List.getElem?_cons_succ]; rfl)); (case' q4 => (exact fun _ _ _ h => h)); (case' g4 => rfl); (case' y4 => (intro w hSw; (try dsimp only at hSw); go_simp; try with_reducible rfl)); (case' r4 => (try simp only [Act.put, List.setIfInBounds_toArray, List.set_cons_zero, List.set_cons_succ]))
      refine wpAnyH_take (i := 5) (oi := ?o5) (v := ?v5) ?a5 (by kernel_rfl) (by kernel_rfl) (by kernel_rfl) ?q5 (Or.inl ⟨?g5, ?y5⟩) (by assumption) ?r5; (case' a5 => (simp only [List.getElem?_toArray, List.getElem?_cons_zero, List.getElem?_cons_succ]; rfl)); (case' q5 => (exact fun _ _ _ h => h)); (case' g5 => rfl); (case' y5 => (intro w hSw; (try dsimp only at hSw); go_simp; try with_reducible rfl)); (case' r5 => (try simp only [Act.put, List.setIfInBounds_toArray, List.set_cons_zero, List.set_cons_succ]))
      refine wpAnyH_take (i := 6) (oi := ?o6) (v := ?v6) ?a6 (by kernel_rfl) (by kernel_rfl) (by kernel_rfl) ?q6 (Or.inl ⟨?g6, ?y6⟩) (by assumption) ?r6; (case' a6 => (simp only [List.getElem?_toArray, List.getElem?_cons_zero, List.getElem?_cons_succ]; rfl)); (case' q6 => (exact fun _ _ _ h => h)); (case' g6 => rfl); (case' y6 => (intro w hSw; (try dsimp only at hSw); go_simp; try with_reducible rfl)); (case' r6 => (try simp only [Act.put, List.setIfInBounds_toArray, List.set_cons_zero, List.set_cons_succ]))
      refine wpAnyH_take (i := 7) (oi := ?o7) (v := ?v7) ?a7 (by kernel_rfl) (by kernel_rfl) (by kernel_rfl) ?q7 (Or.inl ⟨?g7, ?y7⟩) (by assumption) ?r7; (case' a7 => (simp only [List.getElem?_toArray, List.getElem?_cons_zero, List.getElem?_cons_succ]; rfl)); (case' q7 => (exact fun _ _ _ h => h)); (case' g7 => rfl); (case' y7 => (intro w hSw; (try dsimp only at hSw); go_simp; try with_reducible rfl)); (case' r7 => (try simp only [Act.put, List.setIfInBounds_toArray, List.set_cons_zero, List.set_cons_succ]))
      refine wpAnyH_take (i := 8) (oi := ?o8) (v := ?v8) ?a8 (by kernel_rfl) (by kernel_rfl) (by kernel_rfl) ?q8 (Or.inl ⟨?g8, ?y8⟩) (by assumption) ?r8; (case' a8 => (simp only [List.getElem?_toArray, List.getElem?_cons_zero, List.getElem?_cons_succ]; rfl)); (case' q8 => (exact fun _ _ _ h => h)); (case' g8 => rfl); (case' y8 => (intro w hSw; (try dsimp only at hSw); go_simp; try with_reducible rfl)); (case' r8 => (try simp only [Act.put, List.setIfInBounds_toArray, List.set_cons_zero, List.set_cons_succ]))
      refine wpAnyH_take (i := 9) (oi := ?o9) (v := ?v9) ?a9 (by kernel_rfl) (by kernel_rfl) (by kernel_rfl) ?q9 (Or.inl ⟨?g9, ?y9⟩) (by assumption) ?r9; (case' a9 => (simp only [List.getElem?_toArray, List.getElem?_cons_zero, List.getElem?_cons_succ]; rfl)); (case' q9 => (exact fun _ _ _ h => h)); (case' g9 => rfl); (case' y9 => (intro w hSw; (try dsimp only at hSw); go_simp; try with_reducible rfl)); (case' r9 => (try simp only [Act.put, List.setIfInBounds_toArray, List.set_cons_zero, List.set_cons_succ]))
      refine wpAnyH_take (i := 10) (oi := ?o10) (v := ?v10) ?a10 (by kernel_rfl) (by kernel_rfl) (by kernel_rfl) ?q10 (Or.inl ⟨?g10, ?y10⟩) (by assumption) ?r10; (case' a10 => (simp only [List.getElem?_toArray, List.getElem?_cons_zero, List.getElem?_cons_succ]; rfl)); (case' q10 => (exact fun _ _ _ h => h)); (case' g10 => rfl); (case' y10 => (intro w hSw; (try dsimp only at hSw); go_simp; try with_reducible rfl)); (case' r10 => (try simp only [Act.put, List.setIfInBounds_toArray, List.set_cons_zero, List.set_cons_succ]))
      refine wpAnyH_take (i := 11) (oi := ?o11) (v := ?v11) ?a11 (by kernel_rfl) (by kernel_rfl) (by kernel_rfl) ?q11 (Or.inl ⟨?g11, ?y11⟩) (by assumption) ?r11; (case' a11 => (simp only [List.getElem?_toArray, List.getElem?_cons_zero, List.getElem?_cons_succ]; rfl)); (case' q11 => (exact fun _ _ _ h => h)); (case' g11 => rfl); (case' y11 => (intro w hSw; (try dsimp only at hSw); go_simp; try with_reducible rfl)); (case' r11 => (try simp only [Act.put, List.setIfInBounds_toArray, List.set_cons_zero, List.set_cons_succ]))
      refine wpAnyH_ready (rs := [1, 12]) (by kernel_rfl) (by simp) ?_
      refine AllReadyH.cons (o := ?o12) ?a12 (fun K hK => ?s12) ?m12; (case' a12 => (simp only [List.getElem?_toArray, List.getElem?_cons_zero, List.getElem?_cons_succ]; rfl))
      case s12 =>
        go_simp
        refine hK.out _ _ (hHeld) (fun hHeld => ?_)
        clear hK K
        (try simp only [Act.put, List.setIfInBounds_toArray, List.set_cons_zero, List.set_cons_succ])
        refine wpAnyH_ready (rs := [12]) (by kernel_rfl) (by simp) ?_
        refine AllReadyH.cons (o := ?o13) ?a13 (fun K hK => ?s13) ?m13; (case' a13 => (simp only [List.getElem?_toArray, List.getElem?_cons_zero, List.getElem?_cons_succ]; rfl))
        case s13 =>
          go_simp
          refine hK.out _ _ (HT.out _ (hHeld.2.alloc _)) (fun hHeld => ?_)
          clear hK K
          (try simp only [Act.put, List.setIfInBounds_toArray, List.set_cons_zero, List.set_cons_succ])
          refine wpAnyH_ready (rs := [13]) (by kernel_rfl) (by simp) ?_
          refine AllReadyH.cons (o := ?o14) ?a14 (fun K hK => ?s14) ?m14; (case' a14 => (simp only [List.getElem?_toArray, List.getElem?_cons_zero, List.getElem?_cons_succ]; rfl))
          case s14 =>
            refine step_append_lies _ (by rfl) _ _ _ (by rfl) (w.heap.size + 3) 43 i0 _ 5 56 Try.underlying36 hi0 hz0 hz1 hz2 rfl (by omega) (.slice Av k cv) k (rowF ((l.take k).map cutF)) (by rfl) ((own_below HO.out (Below.refl _ _).drew).alloc _) ⟨wn.heap.size, 0, none⟩ 1 1 [.int .i64 o, .bool hk, .string key2, .bool tb, .string val2] (by rfl) (by rfl) (World.news_of_block (cs := #[.int .i64 o, .bool hk, .string key2, .bool tb, .string val2]) (t := 43) (fr := (0, 0)) (heap_alloc_new wn.drew _)) (by simp [Value.oneCell']) (by omega) (by unfold maxLen; omega) (by omega) (by have := HZ.out; show w.heap.size + 3 ≤ (wn.heap.push _).size; simp; omega) (wn.heap.size + 1) (by simp) ?_
            intro gg cc w2 hown2 hgrow hat hltg
            have hrow := grown_row HX.out hgrow HNE.out
            have x2 := (cell_of_row _ _ 2 _ _ _ hrow).trans rfl
            have y2 := frozen_of_row _ _ 2 _ _ hrow
            have HROW := Lib.hid hrow
            clear hrow
            refine hK.out _ _ (HT.out _ (but_grown hgrow)) (fun hHeld => ?_)
            clear hK K
            (try simp only [Act.put, List.setIfInBounds_toArray, List.set_cons_zero, List.set_cons_succ])
            refine wpAnyH_take (i := 14) (oi := ?o15) (v := ?v15) ?a15 (by kernel_rfl) (by kernel_rfl) (by kernel_rfl) ?q15 (Or.inl ⟨?g15, ?y15⟩) (by assumption) ?r15; (case' a15 => (simp only [List.getElem?_toArray, List.getElem?_cons_zero, List.getElem?_cons_succ]; rfl)); (case' q15 => (exact fun _ _ _ h => h)); (case' g15 => rfl); (case' y15 => (intro w hSw; (try dsimp only at hSw); go_simp; try with_reducible rfl)); (case' r15 => (try simp only [Act.put, List.setIfInBounds_toArray, List.set_cons_zero, List.set_cons_succ]))
            refine wpAnyH_ready (rs := [15]) (by kernel_rfl) (by simp) ?_
            refine AllReadyH.cons (o := ?o16) ?a16 (fun K hK => ?s16) ?m16; (case' a16 => (simp only [List.getElem?_toArray, List.getElem?_cons_zero, List.getElem?_cons_succ]; rfl))
            case s16 =>
              go_simp
              refine hK.out _ _ (HT.out _ (hHeld.2.setCell (.inl rfl) _)) (fun hHeld => ?_)
              clear hK K
              (try simp only [Act.put, List.setIfInBounds_toArray, List.set_cons_zero, List.set_cons_succ])
              refine wpAnyH_done (by kernel_rfl) ?_ _
              go_wp2_with fail
              go_roundw
              case rel => exact ⟨k + 1, some ⟨gg, 0, none⟩, cc, by omega, by omega, by go_num, Lib.hid (by rw [HNX.out]; exact HSM2.out.stored HLK.out rfl hHeld.2 HROW.out hown2 hat)⟩
              case measure => simp [intOf]; omega
            exact AllReadyH.nil
          exact AllReadyH.nil
        exact AllReadyH.nil
      refine AllReadyH.cons (o := ?o17) ?a17 (fun K hK => ?s17) ?m17; (case' a17 => (simp only [List.getElem?_toArray, List.getElem?_cons_zero, List.getElem?_cons_succ]; rfl))
      case s17 =>
        go_simp
        refine hK.out _ _ (HT.out _ (hHeld.2.alloc _)) (fun hHeld => ?_)
        clear hK K
        (try simp only [Act.put, List.setIfInBounds_toArray, List.set_cons_zero, List.set_cons_succ])
        refine wpAnyH_ready (rs := [1]) (by kernel_rfl) (by simp) ?_
        refine AllReadyH.cons (o := ?o18) ?a18 (fun K hK => ?s18) ?m18; (case' a18 => (simp only [List.getElem?_toArray, List.getElem?_cons_zero, List.getElem?_cons_succ]; rfl))
        case s18 =>
          go_simp
          refine hK.out _ _ (hHeld) (fun hHeld => ?_)
          clear hK K
          (try simp only [Act.put, List.setIfInBounds_toArray, List.set_cons_zero, List.set_cons_succ])
          refine wpAnyH_ready (rs := [13]) (by kernel_rfl) (by simp) ?_
          refine AllReadyH.cons (o := ?o19) ?a19 (fun K hK => ?s19) ?m19; (case' a19 => (simp only [List.getElem?_toArray, List.getElem?_cons_zero, List.getElem?_cons_succ]; rfl))
          case s19 =>
            refine step_append_lies _ (by rfl) _ _ _ (by rfl) (w.heap.size + 3) 43 i0 _ 5 56 Try.underlying36 hi0 hz0 hz1 hz2 rfl (by omega) (.slice Av k cv) k (rowF ((l.take k).map cutF)) (by rfl) ((own_below HO.out (Below.refl _ _).drew).alloc _) ⟨wn.heap.size, 0, none⟩ 1 1 [.int .i64 o, .bool hk, .string key2, .bool tb, .string val2] (by rfl) (by rfl) (World.news_of_block (cs := #[.int .i64 o, .bool hk, .string key2, .bool tb, .string val2]) (t := 43) (fr := (0, 0)) (heap_alloc_new wn.drew _)) (by simp [Value.oneCell']) (by omega) (by unfold maxLen; omega) (by omega) (by have := HZ.out; show w.heap.size + 3 ≤ (wn.heap.push _).size; simp; omega) (wn.heap.size + 1) (by simp) ?_
            intro gg cc w2 hown2 hgrow hat hltg
            have hrow := grown_row HX.out hgrow HNE.out
            have x2 := (cell_of_row _ _ 2 _ _ _ hrow).trans rfl
            have y2 := frozen_of_row _ _ 2 _ _ hrow
            have HROW := Lib.hid hrow
            clear hrow
            refine hK.out _ _ (HT.out _ (but_grown hgrow)) (fun hHeld => ?_)
            clear hK K
            (try simp only [Act.put, List.setIfInBounds_toArray, List.set_cons_zero, List.set_cons_succ])
            refine wpAnyH_take (i := 14) (oi := ?o20) (v := ?v20) ?a20 (by kernel_rfl) (by kernel_rfl) (by kernel_rfl) ?q20 (Or.inl ⟨?g20, ?y20⟩) (by assumption) ?r20; (case' a20 => (simp only [List.getElem?_toArray, List.getElem?_cons_zero, List.getElem?_cons_succ]; rfl)); (case' q20 => (exact fun _ _ _ h => h)); (case' g20 => rfl); (case' y20 => (intro w hSw; (try dsimp only at hSw); go_simp; try with_reducible rfl)); (case' r20 => (try simp only [Act.put, List.setIfInBounds_toArray, List.set_cons_zero, List.set_cons_succ]))
            refine wpAnyH_ready (rs := [15]) (by kernel_rfl) (by simp) ?_
            refine AllReadyH.cons (o := ?o21) ?a21 (fun K hK => ?s21) ?m21; (case' a21 => (simp only [List.getElem?_toArray, List.getElem?_cons_zero, List.getElem?_cons_succ]; rfl))
            case s21 =>
              go_simp
              refine hK.out _ _ (HT.out _ (hHeld.2.setCell (.inl rfl) _)) (fun hHeld => ?_)
              clear hK K
              (try simp only [Act.put, List.setIfInBounds_toArray, List.set_cons_zero, List.set_cons_succ])
              refine wpAnyH_done (by kernel_rfl) ?_ _
              go_wp2_with fail
              go_roundw
              case rel => exact ⟨k + 1, some ⟨gg, 0, none⟩, cc, by omega, by omega, by go_num, Lib.hid (by rw [HNX.out]; exact HSM2.out.stored HLK.out rfl hHeld.2 HROW.out hown2 hat)⟩
              case measure => simp [intOf]; omega
            exact AllReadyH.nil
          exact AllReadyH.nil
        exact AllReadyH.nil
      exact AllReadyH.nil
    · have hd : ¬ ((k : Int) < (n : Int)) ∨ ((k : Int) < (n : Int) ∧ ¬ (k : Int) < 70) := by omega
      have hcut : (l.take k).map cutF = cutL l := by
        unfold cutL
        by_cases h70 : k = 70
        · rw [h70]
        · have := HN.out
          rw [List.take_of_length_le (by omega), List.take_of_length_le (by omega)]
      have hrow := SM.out.row
      have hlk : ((l.take k).map cutF).length = k := by rw [List.length_map, List.length_take]; have := HN.out; omega
      have HRES := Lib.hid SM.out.res
      have HBEL := Lib.hid SM.out.bel
      have hl0 := SM.out.lt
      obtain ⟨u0, u1, u2, v0, v1, v2⟩ := seg_rows SM.out.res
      obtain ⟨s0, s1, s2, _, _, _⟩ := seg_rows SM.out.out
      have HOUT : Hid ((cutL l).length = k ∧ wr.ownsRow (w.heap.size + 3) 43 5 (.slice Av k cv) k (rowF (cutL l))) := Lib.hid (by rw [← hcut]; rw [hlk] at hrow ⊢; exact ⟨rfl, hrow⟩)
      clear hcut hrow hlk SM hR hs HN
      rcases hd with hd | ⟨hd1, hd2⟩
      all_goals
        go_wp2_with fail
        refine bodyPost_ret (v := .agg #[.int .i64 b, .int .i64 n0, .slice Av k cv]) (results_cell_row (p := 2) (ty := 53) Try.results35 _ _ (w.heap.size + 1) 53 #[(.int .i64 b), (.int .i64 n0), (.slice Av k cv)] (0, 0) _ rfl ?row Try.underlying53 rfl (by kernel_rfl)) rfl ⟨Av, cv, by rw [HOUT.out.1], ?_, ?_⟩
        case row => exact heap_setCell_same _ (w.heap.size + 1) 2 _ _ (.slice Av k cv) (heap_setCell_same _ (w.heap.size + 1) 1 _ _ (.int .i64 n0) (heap_setCell_same _ (w.heap.size + 1) 0 _ _ (.int .i64 b) HRES.out))
        · rw [HOUT.out.1]
          refine ⟨HOUT.out.2.1, ?_⟩
          rcases HOUT.out.2.2 with e | ⟨g, cc, cur, e, q1, hh, q2⟩
          · exact .inl e
          · have hgw : g ≠ w.heap.size + 1 := by omega
            exact .inr ⟨g, cc, cur, e, by omega, (Below.heap_setCell _ _ _ _ (fun q => hgw q)).trans ((Below.heap_setCell _ _ _ _ (fun q => hgw q)).trans ((Below.heap_setCell _ _ _ _ (fun q => hgw q)).trans hh)), q2⟩
        · exact ((HBEL.out.setCell (p := ⟨w.heap.size + 1, 0, none⟩) (by simp) _).setCell (p := ⟨w.heap.size + 1, 1, none⟩) (by simp) _).setCell (p := ⟨w.heap.size + 1, 2, none⟩) (by simp) _
end Go.Proofs.Ytlemcijgjebekaa.L7
/-
  Segments held against each other by the document's function: equal ones.
-/
namespace Go.Proofs.Ytlemcijgjebekaa.L7
open Go.RowKit
open L3 L4

/-- a segment: its base, what comes next, its records -/
structure Sg where
  b : Int
  n : Int
  L : List L4.Fd
/-- a segment where it lies -/
structure Sa where
  b : Int
  n : Int
  A : Option Addr
  c : Nat
  L : List L4.Fd
def Sa.s (x : Sa) : Sg := ⟨x.b, x.n, x.L⟩
/-- segments that read so, from some place on -/
def ReadsT (w : World) (B : Nat) (X : Option Addr) (l : List Sa) : Prop :=
  (0 < l.length → ∃ g o, X = some ⟨g, o, none⟩ ∧ g < B ∧ ∀ i r, l[i]? = some r → w.cell? ⟨g, o + i * 3, none⟩ = some (.int .i64 r.b) ∧ w.cell? ⟨g, o + i * 3 + 1, none⟩ = some (.int .i64 r.n) ∧ w.cell? ⟨g, o + i * 3 + 2, none⟩ = some (.slice r.A r.L.length r.c)) ∧ ∀ r ∈ l, ReadsF w B r.A r.L
/-- one segment, in a row of its own -/
theorem ReadsT.one {w : World} {B k : Nat} {b n : Int} {A : Option Addr} {c m : Nat} {L : List L4.Fd} {T : TypeId} (h : w.heap[k]? = some (.cells #[.int .i64 b, .int .i64 n, .slice A m c] T (0, 0))) (hm : L.length = m) (hk : k < B) (hr : ReadsF w B A L) : ReadsT w B (some ⟨k, 0, none⟩) [⟨b, n, A, c, L⟩] := by
  subst hm
  refine ⟨fun _ => ⟨k, 0, rfl, hk, fun i r hr => ?_⟩, fun r hr' => by rw [List.mem_singleton.1 hr']; exact hr⟩
  cases i with
  | zero =>
    simp at hr; subst hr
    exact ⟨(cell_of_row _ _ 0 _ _ _ h).trans rfl, (cell_of_row _ _ 1 _ _ _ h).trans rfl, (cell_of_row _ _ 2 _ _ _ h).trans rfl⟩
  | succ i => simp at hr
theorem keepq {w w' : World} {p : Addr} {v : Value} (h : w.cell? p = some v) (b : Below w.heap.size w w') : w'.cell? p = some v := (b.cell (p := p) (World.block_lt_of_cell? _ _ h)).trans h
theorem keep_six {w w1 w2 : World} {p1 p2 p3 p4 p5 p6 : Addr} {v1 v2 v3 v4 v5 v6 : Value} (h : (w1.cell? p1 = some v1 ∧ w1.cell? p2 = some v2 ∧ w1.cell? p3 = some v3 ∧ w1.cell? p4 = some v4 ∧ w1.cell? p5 = some v5 ∧ w1.cell? p6 = some v6) ∧ Below w.heap.size w w1) (hb : Below w1.heap.size w1 w2) : (w2.cell? p1 = some v1 ∧ w2.cell? p2 = some v2 ∧ w2.cell? p3 = some v3 ∧ w2.cell? p4 = some v4 ∧ w2.cell? p5 = some v5 ∧ w2.cell? p6 = some v6) ∧ Below w.heap.size w w2 :=
  ⟨⟨keepq h.1.1 hb, keepq h.1.2.1 hb, keepq h.1.2.2.1 hb, keepq h.1.2.2.2.1 hb, keepq h.1.2.2.2.2.1 hb, keepq h.1.2.2.2.2.2 hb⟩, acc h.2 hb⟩
theorem found6_same (A A' : Option Addr) (M : List L4.Fd) (m c c' B : Nat) (w : World) (hR : Hid (ReadsF w B A M)) (hR' : Hid (ReadsF w B A' M)) (hB : B ≤ w.heap.size) (hm : M.length = m) (hl : m ≤ maxLen) :
    Calls Try.prog 21 #[.slice A m c, .slice A' m c'] w fun e w' => e = .returned (.bool true) ∧ Below w.heap.size w w' := by
  subst hm
  exact rfound_is A A' M M c c' B true w hR hR' hB hl (Lib.hid (by simp))

set_option maxRecDepth 100000 in
set_option maxHeartbeats 8000000 in
theorem rsegs_is (X Y : Option Addr) (la lb : List Sa) (n c c' B : Nat) (w : World) (hX : Hid (ReadsT w B X la)) (hY : Hid (ReadsT w B Y lb)) (hB : B ≤ w.heap.size) (hn : la.length = n) (hn1 : n ≤ 1000) (hs : Hid (la.map Sa.s = lb.map Sa.s)) (hl : Hid (∀ r ∈ la, r.L.length ≤ maxLen)) :
    Calls Try.prog 34 #[.slice X n c, .slice Y n c'] w fun e w' => e = .returned (.bool true) ∧ Below w.heap.size w w' := by
  have hn2 : lb.length = n := by have := congrArg List.length hs.out; simpa [hn] using this.symm
  have HN := Lib.hid hn
  have HN2 := Lib.hid hn2
  clear hn hn2
  go_enter Try.func34, Try.ntmps34
  go_wp2_with fail
  go_loopw [5] (fun i wr => ∃ t : Nat, t ≤ n ∧ i = .int .i64 t ∧ Below w.heap.size w wr) (fun i _ => n - (intOf i).toNat)
  case atStart => exact ⟨0, by omega, rfl, Below.refl _ _⟩
  case round =>
    obtain ⟨t, ht, rfl, hbel⟩ := hrel
    by_cases hlt : t < n
    · obtain ⟨xg, xo, rfl, hxg, hcx⟩ := hX.out.1 (by rw [HN.out]; omega)
      obtain ⟨yg, yo, rfl, hyg, hcy⟩ := hY.out.1 (by rw [HN2.out]; omega)
      obtain ⟨⟨sb, sn, sA, sc, sL⟩, hsx⟩ : ∃ s, la[t]? = some s := ⟨_, List.getElem?_eq_getElem (by rw [HN.out]; exact hlt)⟩
      obtain ⟨⟨sb', sn', sA', sc', sL'⟩, hsy⟩ : ∃ s, lb[t]? = some s := ⟨_, List.getElem?_eq_getElem (by rw [HN2.out]; exact hlt)⟩
      have hsame : (⟨sb, sn, sL⟩ : Sg) = ⟨sb', sn', sL'⟩ := by
        have h1 : (la.map Sa.s)[t]? = some ⟨sb, sn, sL⟩ := by rw [List.getElem?_map, hsx]; rfl
        have h2 : (lb.map Sa.s)[t]? = some ⟨sb', sn', sL'⟩ := by rw [List.getElem?_map, hsy]; rfl
        rw [hs.out, h2] at h1
        exact (Option.some.inj h1).symm
      injection hsame with s1 s2 s3
      subst s1 s2 s3
      obtain ⟨c0, c1, c2⟩ := hcx t _ hsx
      obtain ⟨c3, c4, c5⟩ := hcy t _ hsy
      have rx := hX.out.2 _ (List.mem_of_getElem? hsx)
      have ry := hY.out.2 _ (List.mem_of_getElem? hsy)
      have hlm := hl.out _ (List.mem_of_getElem? hsx)
      dsimp only at c0 c1 c2 c3 c4 c5 rx ry hlm
      obtain ⟨m, hm⟩ : ∃ m, sL.length = m := ⟨_, rfl⟩
      rw [hm] at c2 c5 hlm
      have hxw : xg < w.heap.size := Nat.lt_of_lt_of_le hxg hB
      have hyw : yg < w.heap.size := Nat.lt_of_lt_of_le hyg hB
      have d0 := (hbel.cell (p := ⟨xg, xo + t * 3, none⟩) hxw).trans c0
      have d1 := (hbel.cell (p := ⟨xg, xo + t * 3 + 1, none⟩) hxw).trans c1
      have d2 := (hbel.cell (p := ⟨xg, xo + t * 3 + 2, none⟩) hxw).trans c2
      have d3 := (hbel.cell (p := ⟨yg, yo + t * 3, none⟩) hyw).trans c3
      have d4 := (hbel.cell (p := ⟨yg, yo + t * 3 + 1, none⟩) hyw).trans c4
      have d5 := (hbel.cell (p := ⟨yg, yo + t * 3 + 2, none⟩) hyw).trans c5
      have RX := Lib.hid (ReadsF.below rx (hbel.mono hB))
      have RY := Lib.hid (ReadsF.below ry (hbel.mono hB))
      have HM := Lib.hid hm
      have t0 : (0 : Int) ≤ (t : Int) := by omega
      have t1 : (t : Int) < (n : Int) := by omega
      have hBr : B ≤ wr.heap.size := Nat.le_trans hB hbel.size
      have v1 : (sb != sb) = false := by simp
      have v2 : (sn != sn) = false := by simp
      clear hcx hcy hsx hsy c0 c1 c2 c3 c4 c5 rx ry hm
      go_wp2_with fail
      go_region_held3 (fun w' => (w'.cell? ⟨xg, xo + t * 3, none⟩ = some (.int .i64 sb) ∧ w'.cell? ⟨xg, xo + t * 3 + 1, none⟩ = some (.int .i64 sn) ∧ w'.cell? ⟨xg, xo + t * 3 + 2, none⟩ = some (.slice sA m sc) ∧ w'.cell? ⟨yg, yo + t * 3, none⟩ = some (.int .i64 sb) ∧ w'.cell? ⟨yg, yo + t * 3 + 1, none⟩ = some (.int .i64 sn) ∧ w'.cell? ⟨yg, yo + t * 3 + 2, none⟩ = some (.slice sA' m sc')) ∧ Below wr.heap.size wr w')
        (first | with_reducible assumption | exact ⟨⟨d0, d1, d2, d3, d4, d5⟩, (Below.refl _ _).drew⟩ | exact (Below.refl _ _).drew | exact keep_six (by assumption) (by assumption) | exact keep_six (by assumption) ((Below.refl _ _).drew) | exact keep_six (keep_six (by assumption) ((Below.refl _ _).drew)) (by assumption))
        ((go_at_call 21; refine (found6_same sA sA' sL m sc sc' B _ (Lib.hid (ReadsF.below RX.out ((by first | assumption | (rename_i hh; exact hh.2) | exact (Below.refl _ _).drew : Below wr.heap.size wr _).mono hBr))) (Lib.hid (ReadsF.below RY.out ((by first | assumption | (rename_i hh; exact hh.2) | exact (Below.refl _ _).drew : Below wr.heap.size wr _).mono hBr))) (Nat.le_trans hBr (by first | assumption | (rename_i hh; exact hh.2) | exact (Below.refl _ _).drew : Below wr.heap.size wr _).size) HM.out hlm).mono ?_; rintro e w2 ⟨rfl, hb2⟩))
      all_goals
        rename_i hh
        go_wp2_with fail
        go_roundw
        case rel => exact ⟨t + 1, by omega, by go_num, acc hbel hh.2⟩
        case measure => simp [intOf]; omega
    · obtain rfl : t = n := by omega
      go_wp2_with fail
      go_ret
      exact ⟨rfl, hbel⟩
end Go.Proofs.Ytlemcijgjebekaa.L7
/-
  What the laws on texts of segments and chunks share.
-/
namespace Go.Proofs.Ytlemcijgjebekaa.L7
open Go.RowKit
open L3 L4 L5

theorem reads_up {w : World} {B B' : Nat} {A : Option Addr} {l : List L4.Fd} (h : ReadsF w B A l) (hB : B ≤ B') : ReadsF w B' A l := fun h0 => by
  obtain ⟨g, e, hg, hc⟩ := h h0
  exact ⟨g, e, Nat.lt_of_lt_of_le hg hB, hc⟩
theorem fds_below {w w' : World} {B : Nat} {A : Option Addr} {l : List L4.Fd} (h : FdsO w B A l) (hb : Below B w w') : FdsO w' B A l := fun h0 => by
  obtain ⟨g, o, e, hg, hc⟩ := h h0
  refine ⟨g, o, e, hg, fun i r hr => ?_⟩
  obtain ⟨c0, c1, c2, c3, c4⟩ := hc i r hr
  exact ⟨(hb.cell (p := ⟨g, o + i * 5, none⟩) hg).trans c0, (hb.cell (p := ⟨g, o + i * 5 + 1, none⟩) hg).trans c1, (hb.cell (p := ⟨g, o + i * 5 + 2, none⟩) hg).trans c2, (hb.cell (p := ⟨g, o + i * 5 + 3, none⟩) hg).trans c3, (hb.cell (p := ⟨g, o + i * 5 + 4, none⟩) hg).trans c4⟩
theorem seg_cut (b n0 : Int) (A : Option Addr) (l L : List L4.Fd) (n c B m : Nat) (w : World) (hR : Hid (FdsO w B A l)) (hB : B ≤ w.heap.size) (hn : l.length = n) (hl : n ≤ 9223372036854775807) (hs : Hid (∀ f ∈ l, f.r.key.size ≤ maxLen ∧ f.r.val.size ≤ maxLen)) (hL : Hid (cutL l = L)) (hm : Hid (L.length = m)) :
    Calls Try.prog 35 #[.agg #[.int .i64 b, .int .i64 n0, .slice A n c]] w fun e w' => ∃ A' c', e = .returned (.agg #[.int .i64 b, .int .i64 n0, .slice A' m c']) ∧ w'.ownsRow w.heap.size 43 5 (.slice A' m c') m (rowF L) ∧ Below w.heap.size w w' := by
  have k := seg_is b n0 A l n c B w hR hB hn hl hs
  rw [hL.out, hm.out] at k
  exact k
theorem cut_sizes {l L : List L4.Fd} (hL : cutL l = L) : ∀ f ∈ L, f.r.key.size ≤ maxLen ∧ f.r.val.size ≤ maxLen := by
  subst hL
  exact cut_small _
theorem ctext_is (b n : Int) (A : Option Addr) (L : List L4.Fd) (m cap B : Nat) (t : ByteArray) (x : Int) (w : World) (hR : Hid (ReadsF w B A L)) (hB : B ≤ w.heap.size) (hm : L.length = m) (hl : m ≤ maxLen) (hs : Hid (∀ f ∈ L, f.r.key.size ≤ maxLen ∧ f.r.val.size ≤ maxLen)) (HX : Hid (loadE b n L = x)) (HT : Hid ((if x = 0 then textS b n L else ⟨#[]⟩) = t)) :
    Calls Try.prog 36 #[.agg #[.int .i64 b, .int .i64 n, .slice A m cap]] w fun e w' => e = .returned (.tuple #[.string t, .int .i64 x]) ∧ Below w.heap.size w w' := by
  by_cases hx : x = 0
  · subst hx
    have G := load_good HX.out
    have b0 := G.b0
    have bn := G.bn
    obtain ⟨b', rfl⟩ : ∃ b' : Nat, b = (b' : Int) := ⟨b.toNat, by omega⟩
    obtain ⟨n', rfl⟩ : ∃ n' : Nat, n = (n' : Int) := ⟨n.toNat, by omega⟩
    exact text_ok b' n' A L m cap B t w hR hB hm HX (Lib.hid (by have := HT.out; rwa [if_pos rfl] at this))
  · have ht := HT.out
    rw [if_neg hx] at ht
    subst ht
    exact text_no b n A L m cap B x w hR hB hm hl hs HX (by simpa using hx)
theorem right_nat {i n : Int} {d : Nat} {b : ByteArray} (h : right ⟨i, n, d, b⟩ = true) : ∃ i' n' : Nat, i = i' ∧ n = n' := by
  have := right_parts h
  dsimp only at this
  exact ⟨i.toNat, n.toNat, by omega, by omega⟩
theorem cput_is (i n : Int) (d : Nat) (b s : ByteArray) (x : Int) (w : World) (hd : d < 18446744073709551616) (hs : Hid (putU ⟨i, n, d, b⟩ = (s, x))) :
    Calls Try.prog 45 #[.agg #[.int .i64 i, .int .i64 n, .int .u64 d, .string b]] w fun e w' => e = .returned (.tuple #[.string s, .int .i64 x]) ∧ Below w.heap.size w w' := by
  have h := hs.out
  unfold putU at h
  split at h
  · rename_i q
    simp only [Prod.mk.injEq] at h
    obtain ⟨h1, rfl⟩ := h
    obtain ⟨i', n', rfl, rfl⟩ := right_nat q
    exact cput_ok i' n' d b s w (Lib.hid q) hd (Lib.hid h1)
  · rename_i q
    simp only [Prod.mk.injEq] at h
    obtain ⟨rfl, rfl⟩ := h
    exact cput_no i n d b w (Lib.hid (by simpa using q))
theorem rcputi_is (i n : Int) (d : Nat) (b s : ByteArray) (x : Int) (w : World) (hd : d < 18446744073709551616) (hs : Hid (putU ⟨i, n, d, b⟩ = (s, x))) :
    Calls Try.prog 46 #[.agg #[.int .i64 i, .int .i64 n, .int .u64 d, .string b]] w fun e w' => e = .returned (.tuple #[.string s, .int .i64 x]) ∧ Below w.heap.size w w' := by
  by_cases q : right ⟨i, n, d, b⟩ = true
  · obtain ⟨i', n', rfl, rfl⟩ := right_nat q
    exact rcput_is i' n' d b s x w hd hs
  · have h := hs.out
    unfold putU at h
    rw [if_neg q] at h
    simp only [Prod.mk.injEq] at h
    obtain ⟨rfl, rfl⟩ := h
    exact rcput_no i n d b w (Lib.hid (by simpa using q))
theorem putU_yes {c : Ck} {s : ByteArray} {x : Int} (h : putU c = (s, x)) (hx : x = 0) : right c = true ∧ putC c = s := by
  unfold putU at h
  split at h
  · rename_i q
    simp only [Prod.mk.injEq] at h
    exact ⟨q, h.1⟩
  · simp only [Prod.mk.injEq] at h
    omega
theorem putU_err {c : Ck} {s : ByteArray} {x : Int} (h : putU c = (s, x)) : x = 0 ∨ x = 70 := by
  unfold putU at h
  split at h <;> (simp only [Prod.mk.injEq] at h; omega)
theorem zero_load : loadE 0 0 [] = 0 := by decide
/-- a segment and a chunk, each in a box of its own -/
structure BX (w W : World) (g k : Nat) (b n : Int) (A : Option Addr) (m c : Nat) (L : List L4.Fd) (i q : Int) (d : Nat) (o : ByteArray) : Prop where
  seg : W.heap[g]? = some (.cells #[.int .i64 b, .int .i64 n, .slice A m c] 53 (0, 0))
  ck : W.heap[k]? = some (.cells #[.int .i64 i, .int .i64 q, .int .u64 d, .string o] 71 (0, 0))
  rd : ReadsF W W.heap.size A L
  b : Below w.heap.size w W
section
variable {w W W' : World} {g k : Nat} {b n : Int} {A : Option Addr} {m c : Nat} {L : List L4.Fd} {i q : Int} {d : Nat} {o : ByteArray}
theorem BX.below (h : BX w W g k b n A m c L i q d o) (x : Below W.heap.size W W') : BX w W' g k b n A m c L i q d o :=
  ⟨(x.block _ (Array.getElem?_eq_some_iff.1 h.seg).1).trans h.seg, (x.block _ (Array.getElem?_eq_some_iff.1 h.ck).1).trans h.ck, reads_up (h.rd.below x) x.size, h.b.trans (x.mono h.b.size)⟩
theorem BX.ltg (h : BX w W g k b n A m c L i q d o) : g < W.heap.size := (Array.getElem?_eq_some_iff.1 h.seg).1
theorem BX.ltk (h : BX w W g k b n A m c L i q d o) : k < W.heap.size := (Array.getElem?_eq_some_iff.1 h.ck).1
end
/-- at the start: the segment's box takes what was cut, the chunk's box its body cut -/
theorem bx_start {w W0 w1 : World} {x0 x1 : Int} {va : Value} {b n : Int} {A : Option Addr} {m c : Nat} {L : List L4.Fd} {i q : Int} {d : Nat} {o o' : ByteArray} (hm : L.length = m)
    (h0 : W0 = (w.alloc (.cells #[.int .i64 x0, .int .i64 x1, va] 53)).alloc (.cells #[.int .i64 i, .int .i64 q, .int .u64 d, .string o'] 71)) (hb : Below W0.heap.size W0 w1) (ho : w1.ownsRow W0.heap.size 43 5 (.slice A m c) m (rowF L)) :
    BX w ((((w1.setCell ⟨w.heap.size, 0, none⟩ (.int .i64 b)).setCell ⟨w.heap.size, 1, none⟩ (.int .i64 n)).setCell ⟨w.heap.size, 2, none⟩ (.slice A m c)).setCell ⟨w.heap.size + 1, 3, none⟩ (.string o)) w.heap.size (w.heap.size + 1) b n A m c L i q d o := by
  subst hm
  have hz : W0.heap.size = w.heap.size + 1 + 1 := by rw [h0]; simp
  have hz1 := hb.size
  have r0 : w1.heap[w.heap.size]? = some (.cells #[.int .i64 x0, .int .i64 x1, va] 53 (0, 0)) := (hb.block _ (by omega)).trans (by rw [h0]; exact (Below.heap_alloc _ _ _ (by simp)).trans (heap_alloc_new _ _))
  have r1 : w1.heap[w.heap.size + 1]? = some (.cells #[.int .i64 i, .int .i64 q, .int .u64 d, .string o'] 71 (0, 0)) := (hb.block _ (by omega)).trans (by rw [h0]; have := heap_alloc_new (w.alloc (.cells #[.int .i64 x0, .int .i64 x1, va] 53)) (.cells #[.int .i64 i, .int .i64 q, .int .u64 d, .string o'] 71); simpa using this)
  have s1 : ((((w1.setCell ⟨w.heap.size, 0, none⟩ (.int .i64 b)).setCell ⟨w.heap.size, 1, none⟩ (.int .i64 n)).setCell ⟨w.heap.size, 2, none⟩ (.slice A L.length c)).setCell ⟨w.heap.size + 1, 3, none⟩ (.string o)).heap.size = w1.heap.size := by simp [World.setCell]
  refine ⟨?_, ?_, ?_, ?_⟩
  · exact (Below.heap_setCell _ _ _ _ (by simp)).trans (heap_setCell_same _ w.heap.size 2 _ _ (.slice A L.length c) (heap_setCell_same _ w.heap.size 1 _ _ (.int .i64 n) (heap_setCell_same _ w.heap.size 0 _ _ (.int .i64 b) r0)))
  · exact heap_setCell_same _ (w.heap.size + 1) 3 _ _ (.string o) ((Below.heap_setCell _ _ _ _ (by simp)).trans ((Below.heap_setCell _ _ _ _ (by simp)).trans ((Below.heap_setCell _ _ _ _ (by simp)).trans r1)))
  · rw [s1]
    intro h0'
    obtain ⟨gg, e, hg, hc⟩ := ReadsF.own ho h0'
    have hgg : W0.heap.size ≤ gg := by subst e; exact (own_in ho gg rfl).1
    have key : ∀ j, ((((w1.setCell ⟨w.heap.size, 0, none⟩ (.int .i64 b)).setCell ⟨w.heap.size, 1, none⟩ (.int .i64 n)).setCell ⟨w.heap.size, 2, none⟩ (.slice A L.length c)).setCell ⟨w.heap.size + 1, 3, none⟩ (.string o)).cell? ⟨gg, j, none⟩ = w1.cell? ⟨gg, j, none⟩ := fun j => World.cell?_of_block (w := w1) ((Below.heap_setCell _ _ _ _ (by dsimp only; omega)).trans ((Below.heap_setCell _ _ _ _ (by dsimp only; omega)).trans ((Below.heap_setCell _ _ _ _ (by dsimp only; omega)).trans (Below.heap_setCell _ _ _ _ (by dsimp only; omega)))))
    refine ⟨gg, e, hg, fun j s hs => ?_⟩
    obtain ⟨c0, c1, c2, c3, c4⟩ := hc j s hs
    exact ⟨(key _).trans c0, (key _).trans c1, (key _).trans c2, (key _).trans c3, (key _).trans c4⟩
  · have hb1 : Below w.heap.size w w1 := by
      have : Below w.heap.size w W0 := by rw [h0]; exact ((Below.refl _ _).alloc (Nat.le_refl _) _).alloc (by simp) _
      exact this.trans (hb.mono (by omega))
    exact (((hb1.setCell (p := ⟨w.heap.size, 0, none⟩) (Nat.le_refl _) _).setCell (p := ⟨w.heap.size, 1, none⟩) (Nat.le_refl _) _).setCell (p := ⟨w.heap.size, 2, none⟩) (Nat.le_refl _) _).setCell (p := ⟨w.heap.size + 1, 3, none⟩) (by simp) _
end Go.Proofs.Ytlemcijgjebekaa.L7
