/-
  Contracts: how many bytes a log has; all its segments.
-/
import Derived.Test.YtflcggpeflagiaaPlRetain
namespace Go.Proofs.Ytflcggpeflagiaa.L6
open Go.RowKit
open L3 L4 L5

theorem bytes_app : ∀ (a b : List L4.Fd), bytesL (a ++ b) = bytesL a + bytesL b
  | [], b => by simp [bytesL]
  | f :: t, b => by
    show _ + bytesL (t ++ b) = _ + bytesL t + bytesL b
    rw [bytes_app t b]; omega
def first (ps : List Pl) (j : Nat) : List L4.Fd := allL ((ps.take j).map (·.s))
theorem first_next {ps : List Pl} {j : Nat} {p : Pl} (h : ps[j]? = some p) : first ps (j + 1) = first ps j ++ p.s.L := by
  unfold first
  rw [List.take_add_one, h, List.map_append, all_app]
  simp [allL]
set_option maxRecDepth 100000 in
set_option maxHeartbeats 2000000 in
theorem bytes6_is {W : World} {room g cap : Nat} {P : Option Addr} {ps : List Pl} (N : Nat) (HL : Hid (PLog W room g P cap ps)) (G : Hid (GoodL room (ps.map (·.s)))) (hN : ps.length = N) (hN1 : N ≤ 1000) :
    Calls Try.prog 45 #[.pointer (some ⟨g, 0, none⟩)] W fun e W' => e = .returned (.int .i64 (bytesL (allL (ps.map (·.s))) : Nat)) ∧ Below W.heap.size W W' := by
  have h0 : 0 < N := by have := G.out.ne; rw [List.length_map, hN] at this; exact this
  obtain ⟨pb, rfl, hpb, hnc, hcells⟩ := HL.out.form (by omega)
  rw [hN] at hnc
  have c1 := HL.out.c1
  rw [hN] at c1
  have HN := Lib.hid hN
  have HCE := Lib.hid hcells
  clear hN hcells
  go_enter Try.func45, Try.ntmps45
  go_wp2_with fail
  go_loopw [3, 11] (fun v i wr => ∃ (j q : Nat), j ≤ N ∧ q ≤ 38400 * j ∧ i = .int .i64 j ∧ v = .int .i64 q ∧ Hid (bytesL (first ps j) = q) ∧ Below W.heap.size W wr) (fun _ i _ => N - (intOf i).toNat)
  case atStart => exact ⟨0, 0, by omega, by omega, rfl, rfl, Lib.hid (by simp [first, allL, bytesL]), Below.refl _ _⟩
  case round =>
    obtain ⟨j, q, hj, hq, rfl, rfl, HQ, hbel⟩ := hrel
    by_cases hlt : j < N
    · obtain ⟨p, hp⟩ : ∃ p, ps[j]? = some p := ⟨_, List.getElem?_eq_getElem (by rw [HN.out]; omega)⟩
      have ck := keep_cell (HCE.out _ p hp) hbel
      have SP := Lib.hid ((HL.out.segs p (List.mem_of_getElem? hp)).below hbel)
      have gp := G.out.good p.s (List.mem_map_of_mem (List.mem_of_getElem? hp))
      have k0 : (0 : Int) ≤ (j : Int) := by omega
      have k1 : (j : Int) < (N : Int) := by omega
      obtain ⟨t, ht⟩ : ∃ t, bytesL p.s.L = t := ⟨_, rfl⟩
      have ht1 : t ≤ 38400 := by have := bytes_le p.s.L; have := gp.len; omega
      have HT := Lib.hid ht
      have HLEN := Lib.hid gp.len
      have HSM := Lib.hid gp.small
      have hnx := first_next hp
      have HNX := Lib.hid hnx
      clear hp gp ht hnx
      go_wp2_with (go_at_call 62; refine (bytes_is _ SP rfl HLEN.out HSM).mono ?_; rw [HT.out]; rintro e w2 ⟨rfl, hb2⟩)
      go_roundw
      case rel => exact ⟨j + 1, q + t, by omega, by omega, by go_num, by go_num, Lib.hid (by rw [HNX.out, bytes_app, HQ.out, HT.out]), acc hbel hb2⟩
      case measure => simp [intOf]; omega
    · obtain rfl : j = N := by omega
      have HF : Hid (bytesL (allL (ps.map (·.s))) = q) := Lib.hid (by have := HQ.out; unfold first at this; rwa [List.take_of_length_le (by rw [HN.out]; exact Nat.le_refl _)] at this)
      go_wp2_with fail
      go_ret
      exact ⟨by rw [HF.out]; rfl, hbel⟩

/-! ### Segs -/
def rowS (l : List Sa) : List Value := l.flatMap fun r => [.int .i64 r.b, .int .i64 r.n, .slice r.A r.L.length r.c]
theorem rowS_len (l : List Sa) : (rowS l).length = l.length * 3 := by
  induction l with
  | nil => rfl
  | cons a t ih => simp [rowS] at ih ⊢; omega
theorem rowS_at {l : List Sa} {i : Nat} {r : Sa} (h : l[i]? = some r) : (rowS l)[i * 3]? = some (.int .i64 r.b) ∧ (rowS l)[i * 3 + 1]? = some (.int .i64 r.n) ∧ (rowS l)[i * 3 + 2]? = some (.slice r.A r.L.length r.c) := by
  induction l generalizing i with
  | nil => simp at h
  | cons a t ih =>
    cases i with
    | zero => have e : a = r := by simpa using h
              subst e; exact ⟨rfl, rfl, rfl⟩
    | succ i =>
      have e : rowS (a :: t) = [.int .i64 a.b, .int .i64 a.n, .slice a.A a.L.length a.c] ++ rowS t := rfl
      have q := ih (i := i) (by simpa using h)
      rw [e]
      refine ⟨?_, ?_, ?_⟩
      · rw [List.getElem?_append_right (by simp; omega), show (i + 1) * 3 - [Value.int .i64 a.b, .int .i64 a.n, .slice a.A a.L.length a.c].length = i * 3 by simp; omega]; exact q.1
      · rw [List.getElem?_append_right (by simp; omega), show (i + 1) * 3 + 1 - [Value.int .i64 a.b, .int .i64 a.n, .slice a.A a.L.length a.c].length = i * 3 + 1 by simp; omega]; exact q.2.1
      · rw [List.getElem?_append_right (by simp; omega), show (i + 1) * 3 + 2 - [Value.int .i64 a.b, .int .i64 a.n, .slice a.A a.L.length a.c].length = i * 3 + 2 by simp; omega]; exact q.2.2
theorem take_three {xs ys : List Value} {j N : Nat} {a b c : Value} (h : xs.take (j * 3) = ys) (hl : xs.length = N * 3) (hj : j < N) : (((xs.set (j * 3) a).set (j * 3 + 1) b).set (j * 3 + 2) c).take ((j + 1) * 3) = ys ++ [a, b, c] := by
  have hd : (xs.drop (j * 3)).length = N * 3 - j * 3 := by rw [List.length_drop, hl]
  have hy : ys.length = j * 3 := by rw [← h, List.length_take, hl]; omega
  have hx : xs = ys ++ xs.drop (j * 3) := by rw [← h, List.take_append_drop]
  generalize xs.drop (j * 3) = ds at hd hx
  match ds, hd with
  | [], hd => simp at hd; omega
  | [_], hd => simp at hd; omega
  | [_, _], hd => simp at hd; omega
  | x :: y :: z :: t, _ =>
    rw [hx, List.set_append_right _ _ (by omega), List.set_append_right _ _ (by omega), List.set_append_right _ _ (by omega)]
    rw [show j * 3 - ys.length = 0 by omega, show j * 3 + 1 - ys.length = 1 by omega, show j * 3 + 2 - ys.length = 2 by omega]
    simp only [List.set_cons_zero, List.set_cons_succ]
    rw [List.take_append, List.take_of_length_le (by omega), show (j + 1) * 3 - ys.length = 3 by omega]
    rfl
theorem segInfo : (Try.prog.info? 53).map (fun i => (i.zero, i.size, i.bytes)) = some (some (.agg #[.int .i64 0, .int .i64 0, .slice none 0 0]), 3, 40) := by kernel_rfl
theorem own_cell2 {w : World} {base n c b t s : Nat} {T : TypeId} {xs : List Value} (h : w.ownsRow base T s (.slice (some ⟨b, 0, none⟩) n c) n xs) (ht : t < n * s) :
    (∃ u, w.cell? ⟨b, t, none⟩ = some u) ∧ w.frozen? ⟨b, t, none⟩ = false := by
  have hlt : t < xs.length := by rw [h.1]; omega
  have q := h.cells (g := b) rfl t _ (List.getElem?_eq_getElem hlt)
  rw [addr_add] at q
  exact ⟨⟨_, q⟩, h.frozenAt _⟩
/-- what Segs tells: its own, all of it new -/
def SegsP (W : World) (l : List Sg) (e : Ending) (W' : World) : Prop :=
  ∃ X c ll, e = .returned (.slice X l.length c) ∧ l.length ≤ c ∧ ll.map Sa.s = l ∧ ReadsS W' W'.heap.size X ll ∧ (∀ k, blk X = some k → W.heap.size ≤ k) ∧ (∀ r ∈ ll, ∀ k, blk r.A = some k → W.heap.size ≤ k) ∧ Below W.heap.size W W'

set_option maxRecDepth 100000 in
set_option maxHeartbeats 4000000 in
theorem segs6_is {W : World} {room g cap : Nat} {P : Option Addr} {ps : List Pl} (N : Nat) (HL : Hid (PLog W room g P cap ps)) (G : Hid (GoodL room (ps.map (·.s)))) (hN : ps.length = N) (hN1 : N ≤ 1000) :
    Calls Try.prog 48 #[.pointer (some ⟨g, 0, none⟩)] W (SegsP W (ps.map (·.s))) := by
  have h0 : 0 < N := by have := G.out.ne; rw [List.length_map, hN] at this; exact this
  obtain ⟨i0, hi0, hz0, hz1, hz2⟩ := info_parts segInfo
  obtain ⟨W1, hmk, hown, hgrow⟩ := run_make_full (P := Try.prog) W W.heap.size 51 53 i0 _ 3 Try.underlying51 hi0 hz0 hz1 .i64 .i64 N (by rw [hz2]; omega) (by unfold maxLen; omega) (Nat.le_refl _)
  have hb1 : Below W.heap.size W W1 := (Below.refl _ _).grown hgrow (Nat.le_refl _) (fun j e => by cases e)
  have hz1' : W.heap.size < W1.heap.size := (hown.lt W.heap.size rfl).2
  obtain ⟨pb, rfl, hpb, hnc, hcells⟩ := HL.out.form (by omega)
  rw [hN] at hnc
  have c1 := HL.out.c1
  rw [hN] at c1
  have d1 := keep_cell c1 hb1
  have HN := Lib.hid hN
  have HCE := Lib.hid hcells
  have HOWN := Lib.hid hown
  clear hN hcells hown hgrow hi0 hz0 hz1 hz2
  go_enter Try.func48, Try.ntmps48
  go_wp2_with fail
  clear hmk c1 d1
  go_loopw [17] (fun i wr => ∃ (j : Nat) (l : List Sa) (xs : List Value), j ≤ N ∧ i = .int .i64 j ∧ Hid (l.length = j) ∧ Hid (l.map Sa.s = (ps.take j).map (·.s)) ∧ Hid (wr.ownsRow W.heap.size 53 3 (.slice (some ⟨W.heap.size, 0, none⟩) N N) N xs) ∧ Hid (xs.take (j * 3) = rowS l) ∧ Hid (∀ r ∈ l, wr.ownsRow (W.heap.size + 1) 43 5 (.slice r.A r.L.length r.c) r.L.length (rowF r.L)) ∧ Below W.heap.size W wr) (fun i _ => N - (intOf i).toNat)
  case atStart => exact ⟨0, [], _, by omega, rfl, Lib.hid rfl, Lib.hid rfl, HOWN, Lib.hid (by simp [rowS]), Lib.hid (fun r hr => by simp at hr), hb1⟩
  case round =>
    obtain ⟨j, l, xs, hj, rfl, HJ, HS, HO, HT, HR, hbel⟩ := hrel
    by_cases hlt : j < N
    · obtain ⟨p, hp⟩ : ∃ p, ps[j]? = some p := ⟨_, List.getElem?_eq_getElem (by rw [HN.out]; omega)⟩
      have ck := keep_cell (HCE.out _ p hp) hbel
      have SP := Lib.hid (HL.out.segs p (List.mem_of_getElem? hp))
      have gp := G.out.good p.s (List.mem_map_of_mem (List.mem_of_getElem? hp))
      have k0 : (0 : Int) ≤ (j : Int) := by omega
      have k1 : (j : Int) < (N : Int) := by omega
      have HLEN := Lib.hid gp.len
      have HPP := Lib.hid hp
      clear hp gp
      go_wp2_with (first
        | (go_at_call 41; have _q := B3; refine (all_is (Lib.hid (SP.out.below B3.out)) HLEN.out).mono ?_; rintro e w4 ⟨A4, c4, rfl, ho4, hb4⟩; have O4 := Lib.hid ho4; have HB4 := Lib.hid hb4; have s4 := own_below O3.out hb4; obtain ⟨⟨u2, x2⟩, y2⟩ := own_cell2 s4 (by omega : j * 3 + 2 < N * 3); clear ho4)
        | (go_at_call 52; refine (span_is (Lib.hid (SP.out.below hbel))).mono ?_; rintro e w2 ⟨rfl, hb2⟩; have s2 := own_below HO.out hb2; obtain ⟨⟨u0, x0⟩, y0⟩ := own_cell2 s2 (by omega : j * 3 < N * 3); obtain ⟨⟨u1, x1⟩, y1⟩ := own_cell2 s2 (by omega : j * 3 + 1 < N * 3); have O3 := Lib.hid (((s2.stored (j * 3) (.int .i64 p.s.b)).1.stored (j * 3 + 1) (.int .i64 p.s.n)).1); have B3 := Lib.hid (((acc hbel hb2).setCell (p := ⟨W.heap.size, j * 3, none⟩) (Nat.le_refl _) (.int .i64 p.s.b)).setCell (p := ⟨W.heap.size, j * 3 + 1, none⟩) (Nat.le_refl _) (.int .i64 p.s.n)); have HB2 := Lib.hid hb2; clear s2))
      go_roundw
      case rel =>
        have s5 := (own_below O3.out HB4.out).stored (j * 3 + 2) (.slice A4 p.s.L.length c4)
        refine ⟨j + 1, l ++ [⟨p.s.b, p.s.n, A4, c4, p.s.L⟩], _, by omega, by go_num, Lib.hid (by rw [List.length_append, HJ.out]; rfl), Lib.hid ?_, Lib.hid s5.1, Lib.hid ?_, Lib.hid (fun r hr => ?_), ((B3.out.trans (HB4.out.mono B3.out.size)).setCell (p := ⟨W.heap.size, j * 3 + 2, none⟩) (Nat.le_refl _) _)⟩
        · rw [List.take_add_one, HPP.out, List.map_append, HS.out, List.map_append]; rfl
        · rw [take_three HT.out HO.out.1 hlt]; simp [rowS]
        · rcases List.mem_append.1 hr with hr | hr
          · have o1 := HR.out r hr
            have o2 := own_below o1 HB2.out
            have o3 := own_at o2 (w' := (_ : World).setCell ⟨W.heap.size, j * 3, none⟩ (.int .i64 p.s.b)) (fun k e => Below.heap_setCell _ _ _ _ (fun q => by have h1 := (o2.lt k e).1; have : k = W.heap.size := q; omega))
            have o4 := own_at o3 (w' := (_ : World).setCell ⟨W.heap.size, j * 3 + 1, none⟩ (.int .i64 p.s.n)) (fun k e => Below.heap_setCell _ _ _ _ (fun q => by have h1 := (o2.lt k e).1; have : k = W.heap.size := q; omega))
            have o5 := own_below o4 HB4.out
            exact own_at o5 (fun k e => Below.heap_setCell _ _ _ _ (fun q => by have h1 := (o2.lt k e).1; have : k = W.heap.size := q; omega))
          · rw [List.mem_singleton.1 hr]
            refine own_at (own_low O4.out ?_) (fun k e => Below.heap_setCell _ _ _ _ (fun q => ?_))
            · have := HB2.out.size; have h3 : W.heap.size < wr.heap.size := (HO.out.lt _ rfl).2; simp [World.setCell]; omega
            · have h1 := (O4.out.lt k e).1
              have h2 : k = W.heap.size := q
              have := HB2.out.size; have h3 : W.heap.size < wr.heap.size := (HO.out.lt _ rfl).2; simp [World.setCell] at h1; omega
      case measure => simp [intOf]; omega
    · obtain rfl : j = N := by omega
      have hnl : (ps.map (·.s)).length = j := by rw [List.length_map, HN.out]
      go_wp2_with fail
      go_ret
      have hs := HS.out
      rw [List.take_of_length_le (by rw [HN.out]; exact Nat.le_refl _)] at hs
      have ho := HO.out
      have hxs : xs = rowS l := by have := HT.out; rwa [List.take_of_length_le (by rw [ho.1]; exact Nat.le_refl _)] at this
      rw [hxs] at ho
      refine ⟨some ⟨W.heap.size, 0, none⟩, j, l, by rw [hnl]; rfl, by rw [hnl]; exact Nat.le_refl _, hs, ⟨fun h0 => ⟨W.heap.size, rfl, (ho.lt _ rfl).2, fun i r hr => ?_⟩, fun r hr => ReadsF.own (HR.out r hr)⟩, fun k e => ?_, fun r hr k e => ?_, hbel⟩
      · obtain ⟨q0, q1, q2⟩ := rowS_at hr
        have p0 := ho.cells (g := W.heap.size) rfl _ _ q0
        have p1 := ho.cells (g := W.heap.size) rfl _ _ q1
        have p2 := ho.cells (g := W.heap.size) rfl _ _ q2
        rw [addr_add] at p0 p1 p2
        exact ⟨p0, p1, p2⟩
      · have : W.heap.size = k := by injection e
        omega
      · have := (own_blk (HR.out r hr) k e).1; omega
end Go.Proofs.Ytflcggpeflagiaa.L6
