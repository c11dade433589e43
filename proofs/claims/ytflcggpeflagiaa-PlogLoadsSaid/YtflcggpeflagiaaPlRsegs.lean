/-
  Contracts: segments held against each other.
-/
import Derived.Test.YtflcggpeflagiaaPlLaws
namespace Go.Proofs.Ytflcggpeflagiaa.L6
open Go.RowKit
open L3 L4 L5

/-- segments that read so, from some place on -/
def ReadsT (w : World) (B : Nat) (X : Option Addr) (l : List Sa) : Prop :=
  (0 < l.length → ∃ g o, X = some ⟨g, o, none⟩ ∧ g < B ∧ ∀ i r, l[i]? = some r → w.cell? ⟨g, o + i * 3, none⟩ = some (.int .i64 r.b) ∧ w.cell? ⟨g, o + i * 3 + 1, none⟩ = some (.int .i64 r.n) ∧ w.cell? ⟨g, o + i * 3 + 2, none⟩ = some (.slice r.A r.L.length r.c)) ∧ ∀ r ∈ l, ReadsF w B r.A r.L
theorem ReadsS.t {w : World} {B : Nat} {X : Option Addr} {l : List Sa} (h : ReadsS w B X l) : ReadsT w B X l := by
  refine ⟨fun h0 => ?_, h.2⟩
  obtain ⟨g, e, hg, hc⟩ := h.1 h0
  exact ⟨g, 0, e, hg, fun i r hr => by rw [Nat.zero_add]; exact hc i r hr⟩
theorem ReadsS.drop {w : World} {B g : Nat} {l : List Sa} (h : ReadsS w B (some ⟨g, 0, none⟩) l) (d : Nat) : ReadsT w B (some ⟨g, d * 3, none⟩) (l.drop d) := by
  refine ⟨fun h0 => ?_, fun r hr => h.2 r (List.mem_of_mem_drop hr)⟩
  rw [List.length_drop] at h0
  obtain ⟨g', e, hg, hc⟩ := h.1 (by omega)
  have e' : g = g' := by injection e with e; injection e
  subst e'
  refine ⟨g, d * 3, rfl, hg, fun i r hr => ?_⟩
  rw [List.getElem?_drop] at hr
  have := hc (d + i) r hr
  rwa [show (d + i) * 3 = d * 3 + i * 3 by omega] at this
theorem ReadsT.below {w w' : World} {B : Nat} {X : Option Addr} {l : List Sa} (h : ReadsT w B X l) (hb : Below B w w') : ReadsT w' B X l := by
  refine ⟨fun h0 => ?_, fun r hr => readsF_below (h.2 r hr) hb⟩
  obtain ⟨g, o, e, hg, hc⟩ := h.1 h0
  refine ⟨g, o, e, hg, fun i r hr => ?_⟩
  obtain ⟨c0, c1, c2⟩ := hc i r hr
  exact ⟨(hb.cell (p := ⟨g, o + i * 3, none⟩) hg).trans c0, (hb.cell (p := ⟨g, o + i * 3 + 1, none⟩) hg).trans c1, (hb.cell (p := ⟨g, o + i * 3 + 2, none⟩) hg).trans c2⟩
theorem readsF_only {S : List Nat} {w w' : World} {B : Nat} {A : Option Addr} {l : List L4.Fd} (h : ReadsF w B A l) (o : Only S w w') (hA : ∀ k, blk A = some k → k ∉ S) : ReadsF w' B A l := fun h0 => by
  obtain ⟨g, e, hg, hc⟩ := h h0
  have hk := hA g (by rw [e]; rfl)
  refine ⟨g, e, hg, fun i r hr => ?_⟩
  obtain ⟨c0, c1, c2, c3, c4⟩ := hc i r hr
  exact ⟨o.cell c0 hk, o.cell c1 hk, o.cell c2 hk, o.cell c3 hk, o.cell c4 hk⟩
theorem readsS_only {S : List Nat} {w w' : World} {B : Nat} {X : Option Addr} {l : List Sa} (h : ReadsS w B X l) (o : Only S w w') (hX : ∀ k, blk X = some k → k ∉ S) (hA : ∀ r ∈ l, ∀ k, blk r.A = some k → k ∉ S) : ReadsS w' B X l := by
  refine ⟨fun h0 => ?_, fun r hr => readsF_only (h.2 r hr) o (hA r hr)⟩
  obtain ⟨g, e, hg, hc⟩ := h.1 h0
  have hk := hX g (by rw [e]; rfl)
  refine ⟨g, e, hg, fun i r hr => ?_⟩
  obtain ⟨c0, c1, c2⟩ := hc i r hr
  exact ⟨o.cell c0 hk, o.cell c1 hk, o.cell c2 hk⟩
theorem ReadsS.mono {w : World} {B B' : Nat} {X : Option Addr} {l : List Sa} (h : ReadsS w B X l) (hB : B ≤ B') : ReadsS w B' X l := by
  refine ⟨fun h0 => ?_, fun r hr => fun h0 => ?_⟩
  · obtain ⟨g, e, hg, hc⟩ := h.1 h0
    exact ⟨g, e, by omega, hc⟩
  · obtain ⟨g, e, hg, hc⟩ := h.2 r hr h0
    exact ⟨g, e, by omega, hc⟩
theorem keep_six {w w1 w2 : World} {p1 p2 p3 p4 p5 p6 : Addr} {v1 v2 v3 v4 v5 v6 : Value} (h : (w1.cell? p1 = some v1 ∧ w1.cell? p2 = some v2 ∧ w1.cell? p3 = some v3 ∧ w1.cell? p4 = some v4 ∧ w1.cell? p5 = some v5 ∧ w1.cell? p6 = some v6) ∧ Below w.heap.size w w1) (hb : Below w1.heap.size w1 w2) : (w2.cell? p1 = some v1 ∧ w2.cell? p2 = some v2 ∧ w2.cell? p3 = some v3 ∧ w2.cell? p4 = some v4 ∧ w2.cell? p5 = some v5 ∧ w2.cell? p6 = some v6) ∧ Below w.heap.size w w2 :=
  ⟨⟨keep_cell h.1.1 hb, keep_cell h.1.2.1 hb, keep_cell h.1.2.2.1 hb, keep_cell h.1.2.2.2.1 hb, keep_cell h.1.2.2.2.2.1 hb, keep_cell h.1.2.2.2.2.2 hb⟩, acc h.2 hb⟩
theorem found6_same (A A' : Option Addr) (M : List L4.Fd) (m c c' B : Nat) (w : World) (hR : Hid (ReadsF w B A M)) (hR' : Hid (ReadsF w B A' M)) (hB : B ≤ w.heap.size) (hm : M.length = m) (hl : m ≤ maxLen) :
    Calls Try.prog 12 #[.slice A m c, .slice A' m c'] w fun e w' => e = .returned (.bool true) ∧ Below w.heap.size w w' := by
  subst hm
  exact rfound_is A A' M M c c' B true w hR hR' hB hl (Lib.hid (by simp))

set_option maxRecDepth 100000 in
set_option maxHeartbeats 8000000 in
theorem rsegs_is (X Y : Option Addr) (la lb : List Sa) (n c c' B : Nat) (w : World) (hX : Hid (ReadsT w B X la)) (hY : Hid (ReadsT w B Y lb)) (hB : B ≤ w.heap.size) (hn : la.length = n) (hn1 : n ≤ 1000) (hs : Hid (la.map Sa.s = lb.map Sa.s)) (hl : Hid (∀ r ∈ la, r.L.length ≤ maxLen)) :
    Calls Try.prog 47 #[.slice X n c, .slice Y n c'] w fun e w' => e = .returned (.bool true) ∧ Below w.heap.size w w' := by
  have hn2 : lb.length = n := by have := congrArg List.length hs.out; simpa [hn] using this.symm
  have HN := Lib.hid hn
  have HN2 := Lib.hid hn2
  clear hn hn2
  go_enter Try.func47, Try.ntmps47
  go_wp2_with fail
  go_loopw [5] (fun i wr => ∃ t : Nat, t ≤ n ∧ i = .int .i64 t ∧ Below w.heap.size w wr) (fun i _ => n - (intOf i).toNat)
  case atStart => exact ⟨0, by omega, rfl, Below.refl _ _⟩
  case round =>
    obtain ⟨t, ht, rfl, hbel⟩ := hrel
    by_cases hlt : t < n
    · obtain ⟨xg, xo, rfl, hxg, hcx⟩ := hX.out.1 (by rw [HN.out]; omega)
      obtain ⟨yg, yo, rfl, hyg, hcy⟩ := hY.out.1 (by rw [HN2.out]; omega)
      obtain ⟨⟨sb, sn, sA, sc, sL⟩, hsx⟩ : ∃ s, la[t]? = some s := ⟨_, List.getElem?_eq_getElem (by rw [HN.out]; exact hlt)⟩
      obtain ⟨⟨sb', sn', sA', sc', sL'⟩, hsy⟩ : ∃ s, lb[t]? = some s := ⟨_, List.getElem?_eq_getElem (by rw [HN2.out]; exact hlt)⟩
      have hsame : (⟨sb, sn, sL⟩ : Sg) = ⟨sb', sn', sL'⟩ := by
        have h1 : (la.map Sa.s)[t]? = some ⟨sb, sn, sL⟩ := by rw [List.getElem?_map, hsx]; rfl
        have h2 : (lb.map Sa.s)[t]? = some ⟨sb', sn', sL'⟩ := by rw [List.getElem?_map, hsy]; rfl
        rw [hs.out, h2] at h1
        exact (Option.some.inj h1).symm
      injection hsame with s1 s2 s3
      subst s1 s2 s3
      obtain ⟨c0, c1, c2⟩ := hcx t _ hsx
      obtain ⟨c3, c4, c5⟩ := hcy t _ hsy
      have rx := hX.out.2 _ (List.mem_of_getElem? hsx)
      have ry := hY.out.2 _ (List.mem_of_getElem? hsy)
      have hlm := hl.out _ (List.mem_of_getElem? hsx)
      dsimp only at c0 c1 c2 c3 c4 c5 rx ry hlm
      obtain ⟨m, hm⟩ : ∃ m, sL.length = m := ⟨_, rfl⟩
      rw [hm] at c2 c5 hlm
      have hxw : xg < w.heap.size := Nat.lt_of_lt_of_le hxg hB
      have hyw : yg < w.heap.size := Nat.lt_of_lt_of_le hyg hB
      have d0 := (hbel.cell (p := ⟨xg, xo + t * 3, none⟩) hxw).trans c0
      have d1 := (hbel.cell (p := ⟨xg, xo + t * 3 + 1, none⟩) hxw).trans c1
      have d2 := (hbel.cell (p := ⟨xg, xo + t * 3 + 2, none⟩) hxw).trans c2
      have d3 := (hbel.cell (p := ⟨yg, yo + t * 3, none⟩) hyw).trans c3
      have d4 := (hbel.cell (p := ⟨yg, yo + t * 3 + 1, none⟩) hyw).trans c4
      have d5 := (hbel.cell (p := ⟨yg, yo + t * 3 + 2, none⟩) hyw).trans c5
      have RX := Lib.hid (readsF_below rx (hbel.mono hB))
      have RY := Lib.hid (readsF_below ry (hbel.mono hB))
      have HM := Lib.hid hm
      have t0 : (0 : Int) ≤ (t : Int) := by omega
      have t1 : (t : Int) < (n : Int) := by omega
      have hBr : B ≤ wr.heap.size := Nat.le_trans hB hbel.size
      have v1 : (sb != sb) = false := by simp
      have v2 : (sn != sn) = false := by simp
      clear hcx hcy hsx hsy c0 c1 c2 c3 c4 c5 rx ry hm
      go_wp2_with fail
      go_region_held3 (fun w' => (w'.cell? ⟨xg, xo + t * 3, none⟩ = some (.int .i64 sb) ∧ w'.cell? ⟨xg, xo + t * 3 + 1, none⟩ = some (.int .i64 sn) ∧ w'.cell? ⟨xg, xo + t * 3 + 2, none⟩ = some (.slice sA m sc) ∧ w'.cell? ⟨yg, yo + t * 3, none⟩ = some (.int .i64 sb) ∧ w'.cell? ⟨yg, yo + t * 3 + 1, none⟩ = some (.int .i64 sn) ∧ w'.cell? ⟨yg, yo + t * 3 + 2, none⟩ = some (.slice sA' m sc')) ∧ Below wr.heap.size wr w')
        (first | with_reducible assumption | exact ⟨⟨d0, d1, d2, d3, d4, d5⟩, (Below.refl _ _).drew⟩ | exact (Below.refl _ _).drew | exact keep_six (by assumption) (by assumption) | exact keep_six (by assumption) ((Below.refl _ _).drew) | exact keep_six (keep_six (by assumption) ((Below.refl _ _).drew)) (by assumption))
        ((go_at_call 12; refine (found6_same sA sA' sL m sc sc' B _ (Lib.hid (readsF_below RX.out ((by first | assumption | (rename_i hh; exact hh.2) | exact (Below.refl _ _).drew : Below wr.heap.size wr _).mono hBr))) (Lib.hid (readsF_below RY.out ((by first | assumption | (rename_i hh; exact hh.2) | exact (Below.refl _ _).drew : Below wr.heap.size wr _).mono hBr))) (Nat.le_trans hBr (by first | assumption | (rename_i hh; exact hh.2) | exact (Below.refl _ _).drew : Below wr.heap.size wr _).size) HM.out hlm).mono ?_; rintro e w2 ⟨rfl, hb2⟩))
      all_goals
        rename_i hh
        go_wp2_with fail
        go_roundw
        case rel => exact ⟨t + 1, by omega, by go_num, acc hbel hh.2⟩
        case measure => simp [intOf]; omega
    · obtain rfl : t = n := by omega
      go_wp2_with fail
      go_ret
      exact ⟨rfl, hbel⟩
end Go.Proofs.Ytflcggpeflagiaa.L6
