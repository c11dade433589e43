/-
  What is told of each member, one behind the other; the document's Whose over it.
-/
import Derived.Test.YtidgifnnkaheeaaMGpMine
import Derived.Test.YtidgifnnkaheeaaAsRng
import Derived.Test.YtidgifnnkaheeaaAsFacts
import Derived.Test.YtidgifnnkaheeaaAsRwho
namespace Go.Proofs.Ytidgifnnkaheeaa.L11
open Go.RowKit
open L3 L4 L9 L10

/-- lists that are told one by one -/
def ReadsL2 (w : World) (B : Nat) (A : Option Addr) (L : List (List Pt)) : Prop :=
  0 < L.length → ∃ g, A = some ⟨g, 0, none⟩ ∧ g < B ∧ ∀ i x, L[i]? = some x → ∃ Ai ci, w.cell? ⟨g, i, none⟩ = some (.slice Ai x.length ci) ∧ ReadsP w B Ai x
theorem ReadsL2.up {w w' : World} {B B' : Nat} {A : Option Addr} {L : List (List Pt)} (h : ReadsL2 w B A L) (hb : Below B w w') (hB : B ≤ B') : ReadsL2 w' B' A L := fun h0 => by
  obtain ⟨g, e, hg, hc⟩ := h h0
  refine ⟨g, e, by omega, fun i x hx => ?_⟩
  obtain ⟨Ai, ci, c, hr⟩ := hc i x hx
  exact ⟨Ai, ci, (hb.cell (p := ⟨g, i, none⟩) hg).trans c, (hr.below hb).mono hB⟩

/-! ### plain -/
theorem rise_ms {Q : List Se} (h : RiseS Q) : RiseTo (Q.map (·.m)) (Q.map (·.m)).length := fun i h0 hi x y hx hy => by
  rw [List.getElem?_map] at hx hy
  obtain ⟨s, hs, rfl⟩ := Option.map_eq_some_iff.1 hx
  obtain ⟨t, ht, rfl⟩ := Option.map_eq_some_iff.1 hy
  obtain ⟨h1, e1⟩ := List.getElem?_eq_some_iff.1 hs
  obtain ⟨h2, e2⟩ := List.getElem?_eq_some_iff.1 ht
  have := List.pairwise_iff_getElem.1 h (i - 1) i h2 h1 (by omega)
  rw [e1, e2] at this
  exact this
theorem chk_nil {l : List Pt} {Q : List Se} {G y : Int} (g : GoodG G Q) (h : chkE l (Q.map (·.m)) y) : chkE l [] y := by
  obtain ⟨z, hz, h⟩ := h
  rcases h with h | ⟨h1, h2⟩
  · exact ⟨z, hz, .inl h⟩
  · refine ⟨z, hz, .inr ⟨h1, .inr (.inl ⟨Nat.zero_le _, fun i _ hi => absurd hi (Nat.not_lt_zero _), ?_⟩)⟩⟩
    have h8 := g.len
    rcases h2 with ⟨a, b⟩ | ⟨a, b, c⟩ | ⟨a, b, c⟩
    · rw [List.length_map] at a; omega
    · exact c
    · exact absurd (rise_ms g.rise) b
/-- what is told of all members: each one's share, or nothing -/
def toldL (y : Int) (r : Bool) (l : List Pt) (Q : List Se) : List (List Pt) := if y = 0 then shareL r l (Q.map (·.m)) else Q.map (fun _ => [])
theorem told_len (y : Int) (r : Bool) (l : List Pt) (Q : List Se) : (toldL y r l Q).length = Q.length := by unfold toldL; split <;> simp [shareL_len]
theorem who_lists {l : List Pt} {ms : List Mb} {s : List (Nat × Pt)} (hg : L9.Good l) (hs : s.map (·.2) = someL l ms) (ha : ∀ y ∈ s, y.1 ∈ able ms y.2.t) {i nm : Nat} {x : List Pt} {y : Pt} (hx : (listsL nm s)[i]? = some x) (hy : y ∈ x) : WhoP (listsL nm s) y (i : Int) ∧ wantAt ms i y.t = true := by
  have hi : i < nm := by have := (List.getElem?_eq_some_iff.1 hx).1; rwa [listsL_len] at this
  rw [listsL_at s hi] at hx
  injection hx with hx
  subst hx
  have hnd : (s.map (·.2)).Nodup := by rw [hs]; exact some_nodup hg.rise ms
  refine ⟨.inl ⟨i, rfl, by rw [listsL_len]; exact hi, ⟨_, listsL_at s hi, hy⟩, fun j hj z hz hm => ?_⟩, ?_⟩
  · rw [listsL_at s (by omega)] at hz
    injection hz with hz
    subst hz
    have := own_one hnd hm hy
    omega
  · exact mem_able.1 (ha _ (mem_own.1 hy))
theorem told_who {l : List Pt} {Q : List Se} {r : Bool} {y : Int} (h : chkE l (Q.map (·.m)) y) {i : Nat} {x : List Pt} {p : Pt} (hx : (toldL y r l Q)[i]? = some x) (hp : p ∈ x) : WhoP (toldL y r l Q) p (i : Int) ∧ wantAt (Q.map (·.m)) i p.t = true := by
  by_cases hy : y = 0
  · subst hy
    have e : toldL 0 r l Q = shareL r l (Q.map (·.m)) := rfl
    rw [e] at hx ⊢
    cases r
    · exact who_lists (chk_ok h).1 (seq_snd chR _ l 0) (seq_able chR_ok _ l 0) hx hp
    · exact who_lists (chk_ok h).1 (seq_snd chB _ l 0) (seq_able chB_ok _ l 0) hx hp
  · unfold toldL at hx
    rw [if_neg hy, List.getElem?_map] at hx
    obtain ⟨_, _, rfl⟩ := Option.map_eq_some_iff.1 hx
    cases hp
theorem told_64 {l : List Pt} {Q : List Se} {r : Bool} {y : Int} (h : chkE l (Q.map (·.m)) y) : ∀ x ∈ toldL y r l Q, x.length ≤ 64 := fun x hx => by
  by_cases hy : y = 0
  · subst hy
    have e : toldL 0 r l Q = shareL r l (Q.map (·.m)) := rfl
    rw [e] at hx
    cases r
    · exact range_64 h hx
    · exact robin_64 h hx
  · unfold toldL at hx
    rw [if_neg hy] at hx
    obtain ⟨_, _, rfl⟩ := List.mem_map.1 hx
    simp
theorem asg_first {G y : Int} {Q : List Se} {a : ByteArray} {l : List Pt} (hy : chkE l (Q.map (·.m)) y) (hs : hasS Q a = true) : asgE G Q a G l y := by
  refine ⟨y, hy, ?_⟩
  by_cases h : y = 0
  · exact .inr ⟨h, by unfold fenceE; rw [if_neg (by simp [hs]), if_pos rfl]; exact h⟩
  · exact .inl ⟨h, rfl⟩
theorem asg_next {G y : Int} {Q : List Se} {a : ByteArray} {l : List Pt} (hy : chkE l (Q.map (·.m)) y) (hs : hasS Q a = true) : asgE G Q a (G - 1) l (if y = 0 then 111 else y) := by
  refine ⟨y, hy, ?_⟩
  by_cases h : y = 0
  · rw [if_pos h]; exact .inr ⟨h, by unfold fenceE; rw [if_neg (by simp [hs]), if_neg (by omega)]⟩
  · rw [if_neg h]; exact .inl ⟨h, rfl⟩
theorem told_one {w w' : World} {Q : List Se} {G y : Int} {r : Bool} {l : List Pt} {i : Nat} {s : Se} {e : Ending} (g : GoodG G Q) (hi : Q[i]? = some s) (h : AsgP w r Q s.m.name l y e w') :
    ∃ X A c, (toldL y r l Q)[i]? = some X ∧ e = .returned (.tuple #[.slice A X.length c, .int .i64 y]) ∧ ReadsP w' w'.heap.size A X := by
  rcases h.2 with ⟨h1, h2⟩ | ⟨h1, j, t, L, A, c, h3, h4, h5, h6, h7, -⟩
  · refine ⟨[], none, 0, ?_, h2, fun h0 => absurd h0 (Nat.lt_irrefl _)⟩
    unfold toldL
    rw [if_neg h1, List.getElem?_map, hi]; rfl
  · subst h1
    have hij : j = i := by
      obtain ⟨l1, e1⟩ := List.getElem?_eq_some_iff.1 h3
      obtain ⟨l2, e2⟩ := List.getElem?_eq_some_iff.1 hi
      have hp := List.pairwise_iff_getElem.1 g.rise.ne
      rcases Nat.lt_trichotomy j i with q | q | q
      · have := hp j i l1 l2 q; rw [e1, e2] at this; exact absurd h4 this
      · exact q
      · have := hp i j l2 l1 q; rw [e1, e2] at this; exact absurd h4.symm this
    subst hij
    exact ⟨L, A, c, h5, h6, h7⟩

/-! ### where it lies -/
structure AllI (wr : World) (B : Nat) (A : Option Addr) (k c : Nat) (L : List (List Pt)) (sl : List Sl) : Prop where
  own : wr.ownsRow B 36 1 (.slice A k c) k (sl.map Sl.v)
  xs : sl.map (·.x) = L.take k
  len : sl.length = k
  rd : ∀ s ∈ sl, ReadsP wr wr.heap.size s.A s.x
  nil : k = 0 → c = 0
theorem AllI.below {w w' : World} {B k c : Nat} {A : Option Addr} {L : List (List Pt)} {sl : List Sl} (h : AllI w B A k c L sl) (hb : Below w.heap.size w w') : AllI w' B A k c L sl :=
  ⟨own_below h.own hb, h.xs, h.len, fun s hs => ((h.rd s hs).below hb).mono hb.size, h.nil⟩
/-- a list that reads lies in no block of lists -/
theorem AllI.apart {w : World} {B k c g : Nat} {A : Option Addr} {L : List (List Pt)} {sl : List Sl} {t : ByteArray} (h : AllI w B A k c L sl) (hc : w.cell? ⟨g, 0, none⟩ = some (.string t)) : g ∉ bk A := fun hg => by
  rcases h.own.2 with ⟨e, _⟩ | ⟨g', cap, cur, e, h1, hh, h2, h3, h4, h5⟩
  · injection e with e; rw [e] at hg; cases hg
  · injection e with e1 e2 e3
    rw [e1] at hg
    have hgg : g = g' := by simpa [bk] using hg
    subst hgg
    rw [cell_of_row _ _ 0 _ _ _ hh] at hc
    rcases Nat.eq_zero_or_pos k with hk | hk
    · have := h.nil hk
      have hz : cur.size = 0 := by rw [h4]; omega
      rw [Array.getElem?_eq_none (by omega)] at hc
      cases hc
    · obtain ⟨s, hs⟩ : ∃ s, sl[0]? = some s := ⟨_, List.getElem?_eq_getElem (by rw [h.len]; exact hk)⟩
      have q : (cur.toList.take (k * 1))[0]? = some s.v := by rw [h5, List.getElem?_map, hs]; rfl
      rw [List.getElem?_take_of_lt (by omega)] at q
      have q' : cur[0]? = some s.v := by simpa using q
      rw [q'] at hc
      injection hc with hc
      cases hc
theorem AllI.push {wr w5 : World} {B k c cx : Nat} {A Ax : Option Addr} {L : List (List Pt)} {sl : List Sl} {X : List Pt} {v' : Value} {o : Obj} (h : AllI wr B A k c L sl) (hX : L[k]? = some X) (hR : ReadsP wr wr.heap.size Ax X)
    (hown : w5.ownsRow B 36 1 v' (k + 1) (sl.map Sl.v ++ [.slice Ax X.length cx])) (hg : (wr.alloc o).grownBy w5 (Value.slice A k c).ownBlock) : ∃ A' c' sl', v' = .slice A' (k + 1) c' ∧ AllI w5 B A' (k + 1) c' L sl' := by
  have hsz : wr.heap.size ≤ w5.heap.size := by have := hg.size; simp at this; omega
  have keep : ∀ (Ay : Option Addr) (y : List Pt), ReadsP wr wr.heap.size Ay y → ReadsP w5 w5.heap.size Ay y := fun Ay y hy h0 => by
    obtain ⟨g, e, hgl, hc⟩ := hy h0
    obtain ⟨s, hs⟩ : ∃ s, y[0]? = some s := ⟨_, List.getElem?_eq_getElem h0⟩
    have hn : g ∉ bk A := h.apart (by have := (hc 0 s hs).1; rwa [Nat.zero_mul] at this)
    have hb : w5.heap[g]? = wr.heap[g]? := (hg.block g (by simp; omega) (fun e => hn (mem_bk.2 (by rw [blk_own] at e; exact e.symm)))).trans (Below.heap_alloc _ _ _ hgl)
    exact ⟨g, e, by omega, fun i s hs => ⟨(World.cell?_of_block (a := ⟨g, i * 2, none⟩) hb).trans (hc i s hs).1, (World.cell?_of_block (a := ⟨g, i * 2 + 1, none⟩) hb).trans (hc i s hs).2⟩⟩
  obtain ⟨A', c', hv⟩ : ∃ A' c', v' = .slice A' (k + 1) c' := by
    rcases hown.2 with ⟨_, e⟩ | ⟨g, cap, cur, e, _⟩
    · omega
    · exact ⟨_, _, e⟩
  subst hv
  refine ⟨A', c', sl ++ [⟨Ax, cx, X⟩], rfl, ?_, ?_, by rw [List.length_append, h.len]; rfl, fun s hs => ?_, fun e => by omega⟩
  · rw [List.map_append]; exact hown
  · rw [List.map_append, h.xs, List.take_add_one, hX, Option.toList_some]; rfl
  · rcases List.mem_append.1 hs with hs | hs
    · exact keep _ _ (h.rd s hs)
    · rw [List.mem_singleton.1 hs]; exact keep _ _ hR
theorem AllI.reads {w : World} {B k c : Nat} {A : Option Addr} {L : List (List Pt)} {sl : List Sl} (h : AllI w B A k c L sl) (hk : L.length = k) : ReadsL2 w w.heap.size A L := fun h0 => by
  have e : sl.map (·.x) = L := by rw [h.xs, List.take_of_length_le (by omega)]
  rcases h.own.2 with ⟨_, q⟩ | ⟨g, cap, cur, q, h1, hh, _⟩
  · omega
  · injection q with q1; subst q1
    refine ⟨g, rfl, (Array.getElem?_eq_some_iff.1 hh).1, fun i x hx => ?_⟩
    rw [← e, List.getElem?_map] at hx
    obtain ⟨s, hs, rfl⟩ := Option.map_eq_some_iff.1 hx
    have c := h.own.cells (g := g) rfl i s.v (by rw [List.getElem?_map, hs]; rfl)
    rw [Addr.add_lit, Nat.zero_add] at c
    exact ⟨s.A, s.c, c, h.rd s (List.mem_of_getElem? hs)⟩

set_option maxRecDepth 100000 in
set_option maxHeartbeats 4000000 in
theorem rwhose2_is (w : World) (A : Option Addr) (n c : Nat) (L : List (List Pt)) (t : ByteArray) (k0 v : Int) (hL : Hid (ReadsL2 w w.heap.size A L)) (hn : Hid (L.length = n)) (hn1 : n ≤ 1000000) (hx : Hid (∀ x ∈ L, x.length ≤ 1000000)) (HV : Hid (WhoP L ⟨t, k0⟩ v)) :
    Calls Try.prog 17 #[.slice A n c, .agg #[.string t, .int .i64 k0]] w fun e w' => e = .returned (.int .i64 v) ∧ Below w.heap.size w w' := by
  have hb1 : Below w.heap.size w (w.alloc (.cells #[.string t, .int .i64 k0] 27)) := one_box' _
  have hr1 := heap_alloc_new w (.cells #[.string t, .int .i64 k0] 27)
  go_enter Try.func17, Try.ntmps17
  go_wp2_with fail
  obtain ⟨w1, hw1⟩ : ∃ w1, w.alloc (.cells #[.string t, .int .i64 k0] 27) = w1 := ⟨_, rfl⟩
  rw [hw1] at hb1 hr1 ⊢
  have HB1 := Lib.hid hb1
  have HR1 := Lib.hid hr1
  have HZ1 : Hid (w.heap.size < w1.heap.size) := Lib.hid (Array.getElem?_eq_some_iff.1 hr1).1
  clear hb1 hr1 hw1
  go_loopw [5] (fun s wr => ∃ i : Nat, i ≤ n ∧ s = .int .i64 i ∧ Hid (∀ j < i, ∀ x, L[j]? = some x → (⟨t, k0⟩ : Pt) ∉ x) ∧ Hid (Below w1.heap.size w1 wr)) (fun s _ => n - (intOf s).toNat)
  case atStart => exact ⟨0, by omega, rfl, Lib.hid (fun j h => by omega), Lib.hid (Below.refl _ _)⟩
  case round =>
    obtain ⟨i, hi, rfl, HNO, HB⟩ := hrel
    by_cases hlt : i < n
    · obtain ⟨g, rfl, hg, hc⟩ := hL.out (by rw [hn.out]; omega)
      obtain ⟨x, hx0⟩ : ∃ x, L[i]? = some x := ⟨_, List.getElem?_eq_getElem (by rw [hn.out]; omega)⟩
      obtain ⟨Ai, ci, d0, hrd⟩ := hc i x hx0
      have b0 : (0 : Int) ≤ (i : Int) := by omega
      have b1 : (i : Int) < (n : Int) := by omega
      have hxl := hx.out x (List.mem_of_getElem? hx0)
      obtain ⟨m, hm⟩ : ∃ m, x.length = m := ⟨_, rfl⟩
      rw [hm] at d0 hxl
      have D0 := Lib.hid d0
      have HM := Lib.hid hm
      have HX0 := Lib.hid hx0
      have HRD := Lib.hid hrd
      clear hc hrd hm hx0 d0
      go_wp2_with fail
      obtain ⟨wo, hwo⟩ : ∃ wo, wo = wr := ⟨_, rfl⟩
      rw [← hwo] at HB ⊢
      clear hwo
      go_loopw [6] (fun s wr => ∃ q : Nat, q ≤ m ∧ s = .int .i64 q ∧ Hid ((⟨t, k0⟩ : Pt) ∉ x.take q) ∧ Hid (Below w1.heap.size w1 wr)) (fun s _ => m - (intOf s).toNat)
      case atStart => exact ⟨0, by omega, rfl, Lib.hid (by simp), HB⟩
      case round =>
        obtain ⟨q, hq, rfl, HNQ, HBQ⟩ := hrel
        have hw2 : Below w.heap.size w wr := HB1.out.trans (HBQ.out.mono HB1.out.size)
        have d0 := (hw2.cell (p := ⟨g, i, none⟩) hg).trans D0.out
        by_cases hqm : q < m
        · obtain ⟨gi, rfl, hgi, hci⟩ := HRD.out (by rw [HM.out]; omega)
          obtain ⟨⟨t', k'⟩, hs⟩ : ∃ s, x[q]? = some s := ⟨_, List.getElem?_eq_getElem (by rw [HM.out]; omega)⟩
          obtain ⟨e0, e1⟩ := hci q _ hs
          have e0 := (hw2.cell (p := ⟨gi, q * 2, none⟩) hgi).trans e0
          have e1 := (hw2.cell (p := ⟨gi, q * 2 + 1, none⟩) hgi).trans e1
          dsimp only at e0 e1
          have hrw := (HBQ.out.block w.heap.size HZ1.out).trans HR1.out
          have f0 := (cell_of_row _ _ 0 _ _ _ hrw).trans rfl
          have f1 := (cell_of_row _ _ 1 _ _ _ hrw).trans rfl
          have j0 : (0 : Int) ≤ (q : Int) := by omega
          have j1 : (q : Int) < (m : Int) := by omega
          have HS := Lib.hid hs
          clear hci hs hw2 hrw
          by_cases heq : t' = t ∧ k' = k0
          · obtain ⟨rfl, rfl⟩ := heq
            have HD : Hid (v = (i : Int)) := Lib.hid (who_one HV.out (.inl ⟨i, rfl, by rw [hn.out]; exact hlt, ⟨x, HX0.out, List.mem_of_getElem? HS.out⟩, HNO.out⟩))
            go_wp2_with fail
            go_quiet (fail)
            go_wp2_with fail
            go_ret
            exact ⟨congrArg Ending.returned (congrArg (Value.int .i64) HD.out.symm), HB1.out.trans ((drewN_below HBQ.out _).mono HB1.out.size)⟩
          · have HNX : Hid ((⟨t, k0⟩ : Pt) ∉ x.take (q + 1)) := Lib.hid (by
              rw [List.take_add_one, HS.out]
              intro hmem
              rcases List.mem_append.1 hmem with hmem | hmem
              · exact HNQ.out hmem
              · simp at hmem
                exact heq ⟨hmem.1.symm, hmem.2.symm⟩)
            rcases ways2 heq with hne | ⟨rfl, hne⟩
            all_goals
              go_wp2_with fail
              go_quiet (fail)
              go_wp2_with fail
              go_roundw
              case rel => exact ⟨q + 1, by omega, by go_num, HNX, Lib.hid (drewN_below HBQ.out _)⟩
              case measure => simp [intOf]; omega
        · have HNX : Hid (∀ j < i + 1, ∀ y, L[j]? = some y → (⟨t, k0⟩ : Pt) ∉ y) := Lib.hid (fun j hj y hy => by
            rcases Nat.lt_or_ge j i with z | z
            · exact HNO.out j z y hy
            · obtain rfl : j = i := by omega
              rw [HX0.out] at hy; injection hy with hy; subst hy
              have := HNQ.out
              rwa [List.take_of_length_le (by rw [HM.out]; omega)] at this)
          obtain rfl : q = m := by omega
          clear hw2
          go_wp2_with fail
          go_roundw
          case rel => exact ⟨i + 1, by omega, by go_num, HNX, HBQ⟩
          case measure => simp [intOf]; omega
    · obtain rfl : i = n := by omega
      have HD : Hid (v = -1) := Lib.hid (who_one HV.out (.inr ⟨rfl, fun x hx => by
        obtain ⟨j, hj, rfl⟩ := List.mem_iff_getElem.1 hx
        exact HNO.out j (by rw [← hn.out]; exact hj) _ (List.getElem?_eq_getElem hj)⟩))
      go_wp2_with fail
      go_ret
      exact ⟨congrArg Ending.returned (congrArg (Value.int .i64) HD.out.symm), HB1.out.trans (HB.out.mono HB1.out.size)⟩

/-- the same lists, the same length of each -/
theorem parts_is (A A' : Option Addr) (l l' : List Pt) (n n' cap cap' B : Nat) (v : Bool) (w : World) (hR : Hid (ReadsP w B A l)) (hR' : Hid (ReadsP w B A' l')) (hB : B ≤ w.heap.size) (hn : Hid (l.length = n)) (hn' : Hid (l'.length = n')) (hl : n ≤ 1000000) (HV : Hid (v = true ↔ l = l')) :
    Calls Try.prog 41 #[.slice A n cap, .slice A' n' cap'] w fun e w' => e = .returned (.bool v) ∧ Below w.heap.size w w' := by
  have h := rparts_is A A' l l' cap cap' B v w hR hR' hB (by rw [hn.out]; unfold maxLen; omega) HV
  rw [hn.out, hn'.out] at h
  exact h
end Go.Proofs.Ytidgifnnkaheeaa.L11
