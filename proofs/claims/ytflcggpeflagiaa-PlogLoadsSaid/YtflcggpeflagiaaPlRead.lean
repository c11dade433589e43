/-
  Contracts: what is read of a log.
-/
import Derived.Test.YtflcggpeflagiaaPlApp
import Derived.Laws.AppendOwnNone
namespace Go.Proofs.Ytflcggpeflagiaa.L6
open Go.RowKit
open L3 L4 L5

/-- append of a row of one's own, perhaps nil -/
theorem wpList_append_src {P : Program} {w : World} {ops : Array Oper} {rest : List Oper} {o : Oper} {a : Act} {Q : Exit → Act → World → Prop} (hgd : o.guard = none) (s x : Operand) (t : TypeId)
    (ho : o.op = .call { callee := .builtin .append, args := #[s, x], argTypes := #[t, t] })
    (base : Nat) (e : TypeId) (i : TypeInfo) (z : Value) (size bytes : Nat) (ht : P.underlying t = some (.slice e)) (hi : P.info? e = some i) (hz : i.zero = some z)
    (hsize : i.size = size) (hby : i.bytes = bytes) (hzs : z.cells.size = size) (hsz : 0 < size)
    (v : Value) (n : Nat) (xs : List Value) (hs : a.eval s = v) (hown : w.ownsRow base e size v n xs)
    (base2 : Nat) (A : Option Addr) (m c : Nat) (news : List Value) (hx : a.eval x = .slice A m c) (hown2 : w.ownsRow base2 e size (.slice A m c) m news) (h1 : ∀ u ∈ news, u.oneCell' = true)
    (h63 : n + m ≤ maxLen) (hbytes : (n + m) * bytes ≤ 140737488355328) (hbase : base ≤ w.heap.size)
    (h : ∀ v' w', w'.ownsRow base e size v' (n + m) (xs ++ news) → w.grownBy w' v.ownBlock → wpList P ops Q rest (a.put o.dst v') w') : wpList P ops Q (o :: rest) a w := by
  rcases hown2.2 with ⟨e0, em⟩ | ⟨g, c', cur, e0, _, hh, _⟩
  · injection e0 with e1 e2 e3
    subst e1 e3 em
    have hnews : news = [] := List.eq_nil_of_length_eq_zero (by have := hown2.1; omega)
    subst hnews
    exact wpList_append_own_none hgd s x t ho base e i size ht hi v n xs hs hown hx (h v w (by simpa using hown) (World.grownBy.refl w _))
  · injection e0 with e1 e2 e3
    subst e1
    exact wpList_append_own w hgd s x t ho base e i z size bytes ht hi hz hsize hby hzs hsz v n xs hs hown ⟨g, 0, none⟩ m c news hx hown2.1 (fun j u hu => hown2.cells (g := g) rfl j u hu) h1 h63 hbytes hbase (fun v' w' q1 q2 _ => h v' w' q1 q2)

/-- Read's error -/
def readE (l : List Sg) (a : Int) : Int := if a < startL l then 60 else if endL l < a then 61 else 0
def ReadP (W : World) (l : List Sg) (a c x : Int) (e : Ending) (W' : World) : Prop :=
  (x ≠ 0 ∧ e = .returned (.tuple #[.slice none 0 0, .int .i64 x]) ∧ Below W.heap.size W W') ∨
    (x = 0 ∧ ∃ A cap, e = .returned (.tuple #[.slice A (readL (allL l) a c).length cap, .int .i64 0]) ∧ W'.ownsRow W.heap.size 43 5 (.slice A (readL (allL l) a c).length cap) (readL (allL l) a c).length (rowF (readL (allL l) a c)) ∧ Below W.heap.size W W')
/-- what the first ones of some segments' records read -/
def upto (ps : List Pl) (m : Nat) (a c : Int) (j : Nat) : List L4.Fd := readL (allL (((ps.drop m).take j).map (·.s))) a c
theorem upto_next {ps : List Pl} {m j : Nat} {a c : Int} {p : Pl} (h : ps[m + j]? = some p) : upto ps m a c (j + 1) = upto ps m a c j ++ readL p.s.L a (c - (upto ps m a c j).length) := by
  unfold upto
  rw [List.take_add_one, List.getElem?_drop, h, List.map_append, all_app, read_app]
  simp [allL]
theorem upto_all {ps : List Pl} {m j n : Nat} {a c : Int} (h : ps.length = m + n) (hj : j ≤ n) (hd : j = n ∨ c ≤ ((upto ps m a c j).length : Int)) : upto ps m a c j = readL (allL ((ps.drop m).map (·.s))) a c := by
  rcases hd with hd | hd
  · subst hd
    unfold upto
    rw [List.take_of_length_le (by rw [List.length_drop]; omega)]
  · unfold upto at hd ⊢
    conv => rhs; rw [← List.take_append_drop j (ps.drop m), List.map_append, all_app, read_app]
    rw [read_zero (by omega : c - ((readL (allL (((ps.drop m).take j).map (·.s))) a c).length : Int) ≤ 0), List.append_nil]
theorem all_len {room : Nat} : ∀ {l : List Sg}, (∀ s ∈ l, s.L.length ≤ room) → (allL l).length ≤ l.length * room
  | [], _ => Nat.zero_le _
  | s :: t, h => by
    have h1 := all_len (l := t) (fun u hu => h u (List.mem_cons_of_mem _ hu))
    have h2 := h s (by simp)
    show (s.L ++ allL t).length ≤ _
    rw [List.length_append, List.length_cons, Nat.add_mul]
    omega
theorem readl_len (L : List L4.Fd) (a c : Int) : (readL L a c).length ≤ L.length := by
  unfold readL
  rw [List.length_take]
  have := List.length_filter_le (fun f : L4.Fd => decide (a ≤ f.o)) L
  omega
theorem upto_len {room N : Nat} {ps : List Pl} (G : GoodL room (ps.map (·.s))) (hN : ps.length = N) (m : Nat) (a c : Int) (j : Nat) : (upto ps m a c j).length ≤ N * 64 := by
  have h1 : (allL (((ps.drop m).take j).map (·.s))).length ≤ (((ps.drop m).take j).map (·.s)).length * 64 := all_len (fun s hs => by
    have : s ∈ ps.map (·.s) := by
      obtain ⟨p, hp, rfl⟩ := List.mem_map.1 hs
      exact List.mem_map_of_mem (List.mem_of_mem_drop (List.mem_of_mem_take hp))
    exact Nat.le_trans (G.few s this) G.r64)
  have h2 := readl_len (allL (((ps.drop m).take j).map (·.s))) a c
  have h3 : (((ps.drop m).take j).map (·.s)).length ≤ N := by rw [List.length_map, List.length_take, List.length_drop]; omega
  have h4 := Nat.mul_le_mul_right 64 h3
  unfold upto
  omega
theorem keep_one {w w1 w2 : World} {p1 : Addr} {v1 : Value} (h : (w1.cell? p1 = some v1) ∧ Below w.heap.size w w1) (hb : Below w1.heap.size w1 w2) : (w2.cell? p1 = some v1) ∧ Below w.heap.size w w2 :=
  ⟨keep_cell h.1 hb, acc h.2 hb⟩
theorem readseg_is {T : TypeId} {w : World} {g : Nat} {A : Option Addr} {cap : Nat} {base next : Int} {L : List L4.Fd} (a c : Int) (n q : Nat) (h : Hid (Seg T w g A cap base next L)) (hr : Hid (riseB base next L = true)) (hn : L.length = n) (hl : n ≤ 64) (hq : (readL L a c).length = q) :
    Calls Try.prog 35 #[.pointer (some ⟨g, 0, none⟩), .int .i64 a, .int .i64 c] w fun e w' => ∃ A' c', e = .returned (.slice A' q c') ∧ w'.ownsRow w.heap.size 43 5 (.slice A' q c') q (rowF (readL L a c)) ∧ Below w.heap.size w w' := by
  subst hq
  exact read_ok a c n _ h hr hn hl (Lib.hid rfl)

set_option maxRecDepth 100000 in
set_option maxHeartbeats 8000000 in
theorem read6_is {W : World} {room g cap : Nat} {P : Option Addr} {ps : List Pl} (a c : Int) (N : Nat) (x : Int) (HL : Hid (PLog W room g P cap ps)) (G : Hid (GoodL room (ps.map (·.s)))) (hN : ps.length = N) (hN1 : N ≤ 1000) (hc : c ≤ 9223372036854775807) (HX : Hid (readE (ps.map (·.s)) a = x)) :
    Calls Try.prog 10 #[.pointer (some ⟨g, 0, none⟩), .int .i64 a, .int .i64 c] W (ReadP W (ps.map (·.s)) a c x) := by
  obtain ⟨i0, hi0, hz0, hz1, hz2⟩ := info_parts fdInfo
  have h0 : 0 < N := by have := G.out.ne; rw [List.length_map, hN] at this; exact this
  obtain ⟨x0, hx0⟩ : ∃ x0, startL (ps.map (·.s)) = x0 := ⟨_, rfl⟩
  obtain ⟨x1, hx1⟩ : ∃ x1, endL (ps.map (·.s)) = x1 := ⟨_, rfl⟩
  have hx := HX.out
  unfold readE at hx
  rw [hx0, hx1] at hx
  have HN := Lib.hid hN
  have HX0 := Lib.hid hx0
  have HX1 := Lib.hid hx1
  obtain ⟨pb, rfl, hpb, hnc, hcells⟩ := HL.out.form (by omega)
  have HCE := Lib.hid hcells
  rw [hN] at hnc
  have c1 := HL.out.c1
  rw [hN] at c1
  clear hN hx0 hx1 hcells
  go_enter Try.func10, Try.ntmps10
  by_cases hf1 : a < x0
  · rw [if_pos hf1] at hx
    subst hx
    go_wp2_with (go_at_call 33; refine (logspan_is N HL HN.out h0 hN1).mono ?_; rw [HX0.out, HX1.out]; rintro e w1 ⟨rfl, hb1⟩)
    go_ret2
    exact .inl ⟨by decide, rfl, hb1⟩
  · rw [if_neg hf1] at hx
    by_cases hf2 : x1 < a
    · rw [if_pos hf2] at hx
      subst hx
      go_wp2_with (go_at_call 33; refine (logspan_is N HL HN.out h0 hN1).mono ?_; rw [HX0.out, HX1.out]; rintro e w1 ⟨rfl, hb1⟩)
      go_ret2
      exact .inl ⟨by decide, rfl, hb1⟩
    · rw [if_neg hf2] at hx
      subst hx
      obtain ⟨m, hm⟩ : ∃ m, ended (ps.map (·.s)) a = m := ⟨_, rfl⟩
      have hmN : m ≤ N := by rw [← hm]; have := ended_le (ps.map (·.s)) a; rw [List.length_map, HN.out] at this; exact this
      have HM := Lib.hid hm
      have hall := read_ended G.out (o := a) (n := c)
      rw [hm, ← List.map_drop] at hall
      have HALL := Lib.hid hall
      have m0 : (0 : Int) ≤ (m : Int) := by omega
      have m1 : (m : Int) ≤ (N : Int) := by omega
      clear hm hall
      go_wp2_with (go_at_call 33; refine (logspan_is N HL HN.out h0 hN1).mono ?_; rw [HX0.out, HX1.out]; rintro e w1 ⟨rfl, hb1⟩; have d1 := keep_cell c1 hb1)
      by_cases hmc : m = cap
      · have hNm : N = m := by omega
        subst hNm
        subst hmc
        go_region_held3 (fun w' => (w'.cell? ⟨g, 1, none⟩ = some (.slice (some ⟨pb, 0, none⟩) N N)) ∧ Below W.heap.size W w')
          (first | assumption | exact ⟨d1, hb1.drew⟩ | exact hb1.drew | exact keep_one (by assumption) (by assumption) | exact keep_one (by assumption) ((Below.refl _ _).drew) | exact keep_one (keep_one (by assumption) ((Below.refl _ _).drew)) (by assumption))
          ((go_at_call 34; refine (ended_any a N N (Lib.hid (HL.out.below (by first | assumption | (rename_i hh; exact hh.2) | exact hb1.drew))) G HN.out hN1 HM).mono ?_; rintro e w2 ⟨rfl, hb2⟩))
        rename_i hh
        have hb2 := hh.2
        clear hh
        go_wp2_with fail
        go_loopw [10, 33] (fun v i wr => i = .int .i64 0 ∧ v = .slice none 0 0 ∧ Below W.heap.size W wr) (fun _ _ _ => 0)
        case atStart => exact ⟨rfl, rfl, hb2⟩
        case round =>
          obtain ⟨rfl, rfl, hbel⟩ := hrel
          have HF : Hid (readL (allL (ps.map (·.s))) a c = []) := Lib.hid (by rw [HALL.out, List.drop_of_length_le (by rw [HN.out]; exact Nat.le_refl _)]; simp [allL, readL])
          go_wp2_with fail
          go_ret2
          exact .inr ⟨rfl, none, 0, by rw [HF.out]; rfl, by rw [HF.out]; exact World.ownsRow_nil _ _ _ _, hbel⟩
      · have hmc2 : m < cap := by omega
        have hmc3 : ¬ cap = m := fun e => hmc e.symm
        have hmc4 : ((m : Int) == (cap : Int)) = false := by simp; omega
        go_region_held3 (fun w' => (w'.cell? ⟨g, 1, none⟩ = some (.slice (some ⟨pb, 0, none⟩) N cap)) ∧ Below W.heap.size W w')
          (first | assumption | exact ⟨d1, hb1.drew⟩ | exact hb1.drew | exact keep_one (by assumption) (by assumption) | exact keep_one (by assumption) ((Below.refl _ _).drew) | exact keep_one (keep_one (by assumption) ((Below.refl _ _).drew)) (by assumption))
          ((go_at_call 34; refine (ended_any a N m (Lib.hid (HL.out.below (by first | assumption | (rename_i hh; exact hh.2) | exact hb1.drew))) G HN.out hN1 HM).mono ?_; rintro e w2 ⟨rfl, hb2⟩))
        go_wp2_with fail
        rename_i hh
        have hb2 := hh.2
        clear hh
        obtain ⟨r, hr⟩ : ∃ r, N - m = r := ⟨_, rfl⟩
        rw [hr]
        have hNr : N = m + r := by omega
        have hr1000 : r ≤ 1000 := by omega
        clear hr hmc hmc2 hmc3 hmc4 d1 c1
        go_loopw [10, 33] (fun v i wr => ∃ (j q : Nat) (A1 : Option Addr) (c1 : Nat), j ≤ r ∧ q ≤ N * 64 ∧ i = .int .i64 j ∧ v = .slice A1 q c1 ∧ Hid ((upto ps m a c j).length = q) ∧ Hid (wr.ownsRow W.heap.size 43 5 (.slice A1 q c1) q (rowF (upto ps m a c j))) ∧ Below W.heap.size W wr) (fun _ i _ => r - (intOf i).toNat)
        case atStart => exact ⟨0, 0, none, 0, by omega, by omega, rfl, rfl, Lib.hid (by simp [upto, allL, readL]), Lib.hid (by simpa [upto, allL, readL, rowF] using World.ownsRow_nil _ _ _ _), hb2⟩
        case round =>
          obtain ⟨j, q, A1, cp, hj, hq, rfl, rfl, HQ, HO, hbel⟩ := hrel
          by_cases hlt : j < r
          · obtain ⟨p, hp⟩ : ∃ p, ps[m + j]? = some p := ⟨_, List.getElem?_eq_getElem (by rw [HN.out]; omega)⟩
            have ck := keep_cell (HCE.out _ p hp) hbel
            have SP := Lib.hid ((HL.out.segs p (List.mem_of_getElem? hp)).below hbel)
            have gp := G.out.good p.s (List.mem_map_of_mem (List.mem_of_getElem? hp))
            have k0 : (0 : Int) ≤ (j : Int) := by omega
            have k1 : (j : Int) < (r : Int) := by omega
            by_cases hqc : c ≤ (q : Int)
            · have HF := Lib.hid (upto_all (a := a) (c := c) (HN.out.trans hNr) hj (.inr (by rw [HQ.out]; exact hqc)))
              clear hp gp hNr
              go_wp2_with fail
              go_ret2
              rw [HF.out, ← HALL.out] at HQ HO
              exact .inr ⟨rfl, A1, cp, by rw [HQ.out]; rfl, by rw [HQ.out]; exact HO.out, hbel⟩
            · have hqc2 : (q : Int) < c := by omega
              have w1 : wrap64 (c - (q : Int)) = c - (q : Int) := by simp only [wrap64]; omega
              obtain ⟨z, hz⟩ : ∃ z, c - (q : Int) = z := ⟨_, rfl⟩
              rw [hz] at w1
              obtain ⟨t, ht⟩ : ∃ t, (readL p.s.L a z).length = t := ⟨_, rfl⟩
              obtain ⟨sn, hsn⟩ : ∃ sn, p.s.L.length = sn := ⟨_, rfl⟩
              have hnx := upto_next (a := a) (c := c) hp
              rw [HQ.out, hz] at hnx
              have HNX := Lib.hid hnx
              have HSN := Lib.hid hsn
              have HT := Lib.hid ht
              have HRI := Lib.hid gp.rise
              have hs64 : sn ≤ 64 := by rw [← hsn]; exact gp.len
              have ht64 : t ≤ 64 := by have := readl_len p.s.L a z; omega
              have hql := upto_len G.out HN.out m a c (j + 1)
              rw [hnx, List.length_append, HQ.out, ht] at hql
              have HZ := Lib.hid hz
              have HNr := Lib.hid hNr
              have H15 := Lib.hid (rowF_one (readL p.s.L a z))
              clear hp gp hnx hsn ht hNr
              go_wp2_with (first
                | (at_builtin; have _q := hb4; refine wpList_append_src rfl _ _ 36 (by rfl) W.heap.size 43 i0 _ 5 56 Try.underlying36 hi0 hz0 hz1 hz2 rfl (by omega) (.slice A1 q cp) q (rowF (upto ps m a c j)) (by rfl) (own_below HO.out hb4) _ A4 t c4 (rowF (readL p.s.L a z)) (by rfl) O4.out H15.out (by unfold maxLen; omega) (by omega) (Nat.le_trans hbel.size hb4.size) ?_; intro v5 w5 hown5 hgrow5)
                | (go_at_call 35; (with_reducible refine (readseg_is a z sn t SP HRI HSN.out hs64 HT.out).mono ?_); rintro e w4 ⟨A4, c4, rfl, ho4, hb4⟩; have O4 := Lib.hid ho4; clear ho4))
              obtain ⟨A5, c5, rfl⟩ := own_form hown5
              go_roundw
              case rel => exact ⟨j + 1, q + t, A5, c5, by omega, hql, by go_num, rfl, Lib.hid (by rw [HNX.out, List.length_append, HQ.out, HT.out]), Lib.hid (by rw [HNX.out, rowF_app]; exact hown5), (acc hbel hb4).grown hgrow5 (Nat.le_trans hbel.size hb4.size) (fun k e => (HO.out.lt k e).1)⟩
              case measure => simp [intOf]; omega
          · obtain rfl : j = r := by omega
            have HF := Lib.hid (upto_all (a := a) (c := c) (HN.out.trans hNr) hj (.inl rfl))
            go_wp2_with fail
            go_ret2
            rw [HF.out, ← HALL.out] at HQ HO
            exact .inr ⟨rfl, A1, cp, by rw [HQ.out]; rfl, by rw [HQ.out]; exact HO.out, hbel⟩
end Go.Proofs.Ytflcggpeflagiaa.L6
