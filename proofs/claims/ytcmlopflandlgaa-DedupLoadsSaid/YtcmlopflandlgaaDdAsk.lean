/-
  Contracts: Ask.
-/
import Derived.Test.YtcmlopflandlgaaDdOpen3
namespace Go.Proofs.Ytcmlopflandlgaa.L8
open Go.RowKit
open Go.Maps
open L3 L4

theorem zeroDids (w : World) : (zeroValue 46).run Try.prog w = .ok (.slice none 0 0) w := by kernel_rfl
set_option maxRecDepth 100000 in
/-- what is found, in any later world -/
theorem IsTab.look {w : World} {b N : Nat} {ms : List Mk} (h : IsTab w b N ms) (hs : Sorted ms) (hK : Keys ms) {id p : Int} {t : ByteArray} (hi : (Lit.int .i64 id).wf = true) (ht : t.size ≤ maxLen) (hp : (Lit.int .i64 p).wf = true) :
    ∃ A c, RowC w A c (lastOf ms id t p) ∧ ∀ W', Below w.heap.size w W' → (Instr.lookup 63 (.map (some b)) (.agg #[.int .i64 id, .string t, .int .i64 p]) false).run Try.prog W' = .ok (.slice A (lastOf ms id t p).length c) W' := by
  obtain ⟨D, ho, hh, hr⟩ := h
  have hx : ∀ W', Below w.heap.size w W' → ∃ x : Option Addr × Nat × Nat, (Instr.lookup 63 (.map (some b)) (.agg #[.int .i64 id, .string t, .int .i64 p]) false).run Try.prog W' = .ok (.slice x.1 x.2.1 x.2.2) W' ∧ D.atKey (kLit id t p) (.held (.slice none 0 0)) = .held (.slice x.1 x.2.1 x.2.2) := fun W' hb => by
    have ho' : W'.ownsMap Try.prog 72 rd b N D := by
      obtain ⟨es, c, h1, h2⟩ := ho
      exact ⟨es, c, (hb.block b (Array.getElem?_eq_some_iff.1 h1).1).trans h1, h2⟩
    obtain ⟨v, ps, hrun, hv⟩ := ho'.lookup lawSpot Try.underlying63 (zeroDids W') (show rd (.slice none 0 0) = some (.held (.slice none 0 0), []) from rfl) (keyOf_spot hi ht hp)
    obtain ⟨x, rfl, e⟩ := rd_inv hv
    exact ⟨x, hrun, congrArg Prod.fst e⟩
  by_cases hm : ∃ m ∈ ms, m.id = id ∧ m.t = t ∧ m.p = p
  · obtain ⟨m, hm, rfl, rfl, rfl⟩ := hm
    obtain ⟨A, c, ha, hR⟩ := hr m hm
    rw [lastOf_mem hs hm]
    refine ⟨A, c, hR, fun W' hb => ?_⟩
    obtain ⟨x, hrun, e⟩ := hx W' hb
    have e' := ha (.held (.slice none 0 0))
    rw [show m.k = kLit m.id m.t m.p from rfl, e] at e'
    injection e' with e'
    rw [hrun, e']
  · have hl : lastOf ms id t p = [] := lastOf_none (fun m h1 => by
      cases q : isK id t p m
      · rfl
      · exact absurd ⟨m, h1, isK_iff.1 q⟩ hm)
    have hn := has_false (kl := kLit id t p) hh (fun m h1 e => hm ⟨m, h1, kLit_inj (hK m h1).1 (hK m h1).2.1 (hK m h1).2.2 hi ht hp e⟩)
    rw [hl]
    refine ⟨none, 0, ⟨rowD_nil _ _, by simp⟩, fun W' hb => ?_⟩
    obtain ⟨x, hrun, e⟩ := hx W' hb
    rw [atKey_of_not_has hn] at e
    injection e with e
    rw [hrun, ← e]; rfl
/-- what Ask says, once the epoch is right -/
def hitP (l : List Did) (sq : Int) (n : Nat) : Int × Bool × Int :=
  if sq = due l then (0, false, 0) else match l.find? (fun d => decide (d.s = sq) && decide (d.n = (n : Int))) with | some d => (d.o, true, 0) | none => (0, false, 82)
def found (l : List Did) (sq : Int) (n : Nat) : Option Did := l.find? (fun d => decide (d.s = sq) && decide (d.n = (n : Int)))
theorem found_next {l : List Did} {k : Nat} {d : Did} {sq : Int} {n : Nat} (h : l[k]? = some d) : found (l.drop k) sq n = if d.s = sq ∧ d.n = n then some d else found (l.drop (k + 1)) sq n := by
  obtain ⟨hlt, hl⟩ := List.getElem?_eq_some_iff.1 h
  unfold found
  rw [List.drop_eq_getElem_cons hlt, hl, List.find?_cons]
  by_cases hc : d.s = sq ∧ d.n = n
  · rw [if_pos hc]; simp [hc.1, hc.2]
  · rw [if_neg hc]
    have : (decide (d.s = sq) && decide (d.n = (n : Int))) = false := by
      rw [Bool.and_eq_false_iff, decide_eq_false_iff_not, decide_eq_false_iff_not]
      by_cases q : d.s = sq
      · exact .inr (fun q' => hc ⟨q, q'⟩)
      · exact .inl q
    rw [this]
theorem cell_at {w w' : World} (hb : Below w.heap.size w w') {a : Addr} {v : Value} (h : w.cell? a = some v) : w'.cell? a = some v := (hb.cell (World.block_lt_of_cell? _ _ h)).trans h
theorem ask_keep {w w1 w2 : World} {h : Nat} {u v : Value} (a : (w1.cell? ⟨h, 2, none⟩ = some u ∧ w1.cell? ⟨h, 3, none⟩ = some v) ∧ Below w.heap.size w w1) (hb : Below w1.heap.size w1 w2) : (w2.cell? ⟨h, 2, none⟩ = some u ∧ w2.cell? ⟨h, 3, none⟩ = some v) ∧ Below w.heap.size w w2 :=
  ⟨⟨cell_at hb a.1.1, cell_at hb a.1.2⟩, a.2.trans (hb.mono a.2.size)⟩
theorem ask_boxes {w : World} {pr ep sq p : Int} {t : ByteArray} {v : Value} :
    let W := (w.alloc (.cells #[.string t, .int .i64 p] 31)).alloc (.cells #[.int .i64 pr, .int .i64 ep, .int .i64 sq, v] 34)
    Below w.heap.size w W ∧ (W.heap[w.heap.size]? = some (.cells #[.string t, .int .i64 p] 31 (0, 0)) ∧ W.heap[w.heap.size + 1]? = some (.cells #[.int .i64 pr, .int .i64 ep, .int .i64 sq, v] 34 (0, 0))) := by
  intro W
  have b1 := one_box' (w := w) (.cells #[.string t, .int .i64 p] 31)
  have e1 : (w.alloc (.cells #[.string t, .int .i64 p] 31)).heap.size = w.heap.size + 1 := by simp
  refine ⟨b1.alloc b1.size _, (Below.heap_alloc _ _ _ (by omega)).trans (heap_alloc_new _ _), ?_⟩
  rw [← e1]; exact heap_alloc_new _ _
set_option maxRecDepth 100000 in
set_option maxHeartbeats 4000000 in
theorem ask_hit {w : World} {g cap b N k : Nat} {es : List Int} {ms : List Mk} (t : ByteArray) (p pr ep sq x er : Int) (v : Bool) (R : Option Addr) (n rc j L ne : Nat) (l : List Did) (h : Hid (Tab w g (some ⟨k, 0, none⟩) cap b N es ms)) (G : Hid (Good es ms)) (ht : t.size ≤ maxLen) (hp : Hid ((Lit.int .i64 p).wf = true))
    (hne : Hid (es.length = ne)) (hl : ne ≤ 32) (hj : Hid (pr = (j : Int) + 1)) (j1 : (j : Int) < (ne : Int)) (hc : w.cell? ⟨k, j, none⟩ = some (.int .i64 ep)) (Hl : Hid (lastOf ms pr t p = l)) (HL : Hid (l.length = L)) (HX : Hid (hitP l sq n = (x, v, er))) :
    Calls Try.prog 11 #[.pointer (some ⟨g, 0, none⟩), .agg #[.string t, .int .i64 p], .agg #[.int .i64 pr, .int .i64 ep, .int .i64 sq, .slice R n rc]] w fun e w' => e = .returned (.tuple #[.int .i64 x, .bool v, .int .i64 er]) ∧ Below w.heap.size w w' := by
  have HI : Hid ((Lit.int .i64 pr).wf = true) := Lib.hid (num_wf (by have := hj.out; omega) (by have := hj.out; omega))
  have HV : Hid (decide (1 ≤ pr ∧ pr ≤ es.length) = true) := Lib.hid (by rw [hne.out]; simp; have := hj.out; omega)
  have HL5 : Hid (L ≤ 5) := Lib.hid (by rw [← HL.out, ← Hl.out]; exact G.out.last_len _ _ _)
  obtain ⟨A, c, ⟨hR, _⟩, hlook⟩ := h.out.map.look G.out.sorted G.out.keys HI.out ht hp.out
  rw [Hl.out, HL.out] at hlook
  rw [Hl.out] at hR
  obtain ⟨W, hW⟩ : ∃ W, (w.alloc (.cells #[.string t, .int .i64 p] 31)).alloc (.cells #[.int .i64 pr, .int .i64 ep, .int .i64 sq, .slice R n rc] 34) = W := ⟨_, rfl⟩
  obtain ⟨hbW, r1, r2⟩ : Below w.heap.size w W ∧ (W.heap[w.heap.size]? = some (.cells #[.string t, .int .i64 p] 31 (0, 0)) ∧ W.heap[w.heap.size + 1]? = some (.cells #[.int .i64 pr, .int .i64 ep, .int .i64 sq, .slice R n rc] 34 (0, 0))) := by
    rw [← hW]; exact ask_boxes
  have b1 : W.cell? ⟨w.heap.size, 0, none⟩ = some (.string t) := (cell_of_row _ _ 0 _ _ _ r1).trans rfl
  have b2 : W.cell? ⟨w.heap.size, 1, none⟩ = some (.int .i64 p) := (cell_of_row _ _ 1 _ _ _ r1).trans rfl
  have b3 : W.cell? ⟨w.heap.size + 1, 0, none⟩ = some (.int .i64 pr) := (cell_of_row _ _ 0 _ _ _ r2).trans rfl
  have b4 : W.cell? ⟨w.heap.size + 1, 1, none⟩ = some (.int .i64 ep) := (cell_of_row _ _ 1 _ _ _ r2).trans rfl
  have b5 : W.cell? ⟨w.heap.size + 1, 2, none⟩ = some (.int .i64 sq) := (cell_of_row _ _ 2 _ _ _ r2).trans rfl
  have b6 : W.cell? ⟨w.heap.size + 1, 3, none⟩ = some (.slice R n rc) := (cell_of_row _ _ 3 _ _ _ r2).trans rfl
  have HT := Lib.hid (h.out.below hbW)
  have c0 := HT.out.c0
  have c1 := HT.out.c1
  rw [hne.out] at c0
  have ck := (hbW.cell (p := ⟨k, j, none⟩) (World.block_lt_of_cell? _ _ hc)).trans hc
  have i0 : (pr == 0) = false := by simpa using (by have := hj.out; omega : pr ≠ 0)
  have e1 : wrap64 (pr - 1) = (j : Int) := by have := hj.out; simp only [wrap64]; omega
  have e2 : pr - 1 = (j : Int) := by have := hj.out; omega
  have j0 : (0 : Int) ≤ (j : Int) := by omega
  have HW := Lib.hid hW
  have HBW := Lib.hid hbW
  have HLO : Hid (∀ W', Below W.heap.size W W' → (Instr.lookup 63 (.map (some b)) (.agg #[.int .i64 pr, .string t, .int .i64 p]) false).run Try.prog W' = .ok (.slice A L c) W') := Lib.hid (fun W' q => hlook W' (hbW.trans (q.mono hbW.size)))
  have HRD := Lib.hid (hR.below hbW)
  have t1 : ¬ ep < ep := by omega
  have t2 : ¬ ep > ep := by omega
  clear hlook hR hbW r1 r2 hc hW h
  go_enter Try.func11, Try.ntmps11
  go_upto_region 5 with (go_at_call 27; rw [HW.out]; refine (there_is pr true HT HV).mono ?_; rintro e w' ⟨rfl, rfl⟩)
  go_quiet (fail)
  go_upto_region 10 with (fail)
  obtain ⟨W5, hW5⟩ : ∃ W5, W.drewN nq = W5 := ⟨_, rfl⟩
  have hb5 : Below W.heap.size W W5 := by rw [← hW5]; exact drewN_below (Below.refl _ _) _
  rw [hW5]
  have b1' := cell_at hb5 b1; have b2' := cell_at hb5 b2; have b3' := cell_at hb5 b3; have b5' := cell_at hb5 b5; have b6' := cell_at hb5 b6; have c1' := cell_at hb5 c1
  have hb0 : ∀ q, Below W.heap.size W (W5.drewN q) := fun q => drewN_below hb5 q
  have u1 := HLO.out W5.drew (hb0 1)
  have u2 := HLO.out W5.drew.drew (hb0 2)
  have u3 := HLO.out W5.drew.drew.drew (hb0 3)
  have u4 := HLO.out W5.drew.drew.drew.drew (hb0 4)
  have HB5 := Lib.hid hb5
  clear b1 b2 b3 b4 b5 b6 c0 c1 ck e1 e2 hb5 hW5 hb0 t1 t2 i0
  go_region
  obtain ⟨W6, hW6⟩ : ∃ W6, W5.drew = W6 := ⟨_, rfl⟩
  have hb6 : Below W.heap.size W W6 := by rw [← hW6]; exact drewN_below HB5.out 1
  have d2 : W6.cell? ⟨w.heap.size + 1, 2, none⟩ = some (.int .i64 sq) := by rw [← hW6]; exact b5'
  have d3 : W6.cell? ⟨w.heap.size + 1, 3, none⟩ = some (.slice R n rc) := by rw [← hW6]; exact b6'
  rw [hW6]
  have HB6 := Lib.hid hb6
  obtain ⟨dv, hdv⟩ : ∃ dv, due l = dv := ⟨_, rfl⟩
  have HDV := Lib.hid hdv
  have HD : ∀ W', Below W6.heap.size W6 W' → Calls Try.prog 29 #[.slice A L c] W' fun e w' => e = .returned (.int .i64 dv) ∧ Below W'.heap.size W' w' := fun W' q => due_is L c dv HL.out (by have := HL5.out; omega) (Lib.hid ((HRD.out.below HB6.out).below q)) HDV
  have hB := Below.refl W6.heap.size W6
  clear u1 u2 u3 u4 b1' b2' b3' b5' b6' c1' hb6 hW6 hdv
  go_wp2_with fail
  go_region_held3 (fun w' => (w'.cell? ⟨w.heap.size + 1, 2, none⟩ = some (.int .i64 sq) ∧ w'.cell? ⟨w.heap.size + 1, 3, none⟩ = some (.slice R n rc)) ∧ Below W6.heap.size W6 w')
    (first | assumption | exact ⟨⟨d2, d3⟩, hB.drew⟩ | exact hB.drew | exact ask_keep (by assumption) (by assumption) | exact ask_keep (by assumption) ((Below.refl _ _).drew) | exact ask_keep (ask_keep (by assumption) ((Below.refl _ _).drew)) (by assumption))
    (first | (go_at_call 29; refine (HD _ (by first | assumption | exact hB.drew | exact hB.drew.drew | exact (And.right (by assumption)))).mono ?_; rintro e w2 ⟨rfl, hb2⟩))
  all_goals
    rename_i hh
    obtain ⟨⟨f2, f3⟩, hb7⟩ := hh
    have HB7 := Lib.hid hb7
    have HFIN : Hid (Below w.heap.size w w2) := Lib.hid (HBW.out.trans ((HB6.out.trans (hb7.mono HB6.out.size)).mono HBW.out.size))
    have HRE : Hid (RowD w2 A l) := Lib.hid ((HRD.out.below HB6.out).below hb7)
    clear HD hB d2 d3 hb7 hb2
    have hx := HX.out
    unfold hitP at hx
    rw [HDV.out] at hx
    by_cases hs : sq = dv
    · have s1 : (sq == dv) = true := by simpa using hs
      obtain ⟨rfl, rfl, rfl⟩ : 0 = x ∧ false = v ∧ 0 = er := by rw [if_pos hs] at hx; simpa using hx
      clear hx hs HX
      go_wp2_with fail
      go_ret3
      exact ⟨rfl, HFIN.out⟩
    · have s1 : (sq == dv) = false := by simpa using hs
      rw [if_neg hs] at hx
      have HX2 : Hid ((match found l sq n with | some d => (d.o, true, (0 : Int)) | none => (0, false, 82)) = (x, v, er)) := Lib.hid hx
      obtain ⟨res, hres⟩ : ∃ res, found l sq n = res := ⟨_, rfl⟩
      rw [hres] at HX2
      have HRES := Lib.hid hres
      clear hx hs HX hres
      go_wp2_with fail
      clear s1
      go_loopw [54] (fun i wr => ∃ q : Nat, q ≤ L ∧ i = .int .i64 q ∧ Hid (found (l.drop q) sq n = res) ∧ Hid (Below w2.heap.size w2 wr)) (fun i _ => L - (intOf i).toNat)
      case atStart => exact ⟨0, by omega, rfl, Lib.hid (by rw [List.drop_zero]; exact HRES.out), Lib.hid (Below.refl _ _)⟩
      case round =>
        obtain ⟨q, hq, rfl, HF, HBE⟩ := hrel
        by_cases hlt : q < L
        · obtain ⟨g1, o1, cs, fr, rfl, hg1, hcells⟩ := (HRE.out.below HBE.out) (by rw [HL.out]; omega)
          obtain ⟨⟨ds, dn, dd⟩, hd⟩ : ∃ d, l[q]? = some d := ⟨_, List.getElem?_eq_getElem (by rw [HL.out]; omega)⟩
          obtain ⟨k0, k1, k2⟩ := hcells q _ hd
          have hL5 : L ≤ 5 := HL5.out
          have g2 := cell_at HBE.out f2
          have g3 := cell_at HBE.out f3
          have g4 : w.heap.size + 1 < wr.heap.size := World.block_lt_of_cell? _ _ g2
          have q0 : (0 : Int) ≤ (q : Int) := by omega
          have q1 : (q : Int) < (L : Int) := by omega
          have hnx := found_next (sq := sq) (n := n) hd
          rw [HF.out] at hnx
          have HNX := Lib.hid hnx
          dsimp only at k0 k1 k2
          clear hcells hg1 hd hnx
          by_cases z1 : ds = sq
          · have y1 : (ds == sq) = true := by simpa using z1
            by_cases z2 : dn = (n : Int)
            · have y2 : (dn == (n : Int)) = true := by simpa using z2
              obtain ⟨rfl, rfl, rfl⟩ : dd = x ∧ true = v ∧ 0 = er := by
                have e := HX2.out
                rw [HNX.out, if_pos ⟨z1, z2⟩] at e
                simpa using e
              clear z1 z2 HNX
              go_wp2_with fail
              go_ret3
              exact ⟨rfl, HFIN.out.trans ((HBE.out.trans ((one_box' _).mono HBE.out.size)).mono HFIN.out.size)⟩
            · have y2 : (dn == (n : Int)) = false := by simpa using z2
              have HF2 : Hid (found (l.drop (q + 1)) sq n = res) := Lib.hid (by have e := HNX.out; rw [if_neg (fun h => z2 h.2)] at e; exact e.symm)
              clear z1 z2 HNX
              go_wp2_with fail
              go_roundw
              case rel => exact ⟨q + 1, by omega, by go_num, HF2, Lib.hid (HBE.out.trans ((one_box' _).mono HBE.out.size))⟩
              case measure => simp [intOf]; omega
          · have y1 : (ds == sq) = false := by simpa using z1
            have HF2 : Hid (found (l.drop (q + 1)) sq n = res) := Lib.hid (by have e := HNX.out; rw [if_neg (fun h => z1 h.1)] at e; exact e.symm)
            clear z1 HNX
            go_wp2_with fail
            go_roundw
            case rel => exact ⟨q + 1, by omega, by go_num, HF2, Lib.hid (HBE.out.trans ((one_box' _).mono HBE.out.size))⟩
            case measure => simp [intOf]; omega
        · obtain rfl : q = L := by omega
          obtain ⟨rfl, rfl, rfl⟩ : 0 = x ∧ false = v ∧ 82 = er := by
            have e := HX2.out
            have e2 := HF.out
            rw [List.drop_of_length_le (by rw [HL.out]; exact Nat.le_refl _)] at e2
            rw [← e2] at e
            simpa [found] using e
          go_wp2_with fail
          go_ret3
          exact ⟨rfl, HFIN.out.trans (HBE.out.mono HFIN.out.size)⟩

set_option maxRecDepth 100000 in
set_option maxHeartbeats 4000000 in
theorem ask_is {w : World} {g cap b N : Nat} {A : Option Addr} {es : List Int} {ms : List Mk} (t : ByteArray) (p pr ep sq x er : Int) (v : Bool) (R : Option Addr) (n rc : Nat) (h : Hid (Tab w g A cap b N es ms)) (G : Hid (Good es ms)) (ht : t.size ≤ maxLen) (hp : Hid ((Lit.int .i64 p).wf = true))
    (HX : Hid (askP es ms t p pr ep sq n = (x, v, er))) :
    Calls Try.prog 11 #[.pointer (some ⟨g, 0, none⟩), .agg #[.string t, .int .i64 p], .agg #[.int .i64 pr, .int .i64 ep, .int .i64 sq, .slice R n rc]] w fun e w' => e = .returned (.tuple #[.int .i64 x, .bool v, .int .i64 er]) ∧ Below w.heap.size w w' := by
  obtain ⟨ne, hne⟩ : ∃ n, es.length = n := ⟨_, rfl⟩
  have hl : ne ≤ 32 := by rw [← hne]; exact G.out.len
  have hx := HX.out
  unfold askP at hx
  rw [hne] at hx
  by_cases h0 : pr = 0
  · rw [if_pos h0] at hx
    obtain ⟨rfl, rfl, rfl⟩ : 0 = x ∧ false = v ∧ 0 = er := by simpa using hx
    subst h0
    have hb := (ask_boxes (w := w) (pr := 0) (ep := ep) (sq := sq) (p := p) (t := t) (v := .slice R n rc)).1
    clear hx hne
    go_enter Try.func11, Try.ntmps11
    go_wp2_with fail
    go_ret3
    exact ⟨rfl, hb⟩
  · rw [if_neg h0] at hx
    have i0 : (pr == 0) = false := by simpa using h0
    have hb := (ask_boxes (w := w) (pr := pr) (ep := ep) (sq := sq) (p := p) (t := t) (v := .slice R n rc)).1
    by_cases h1 : ¬ (1 ≤ pr ∧ pr ≤ ne)
    · rw [if_pos h1] at hx
      obtain ⟨rfl, rfl, rfl⟩ : 0 = x ∧ false = v ∧ 80 = er := by simpa using hx
      have HV : Hid (decide (1 ≤ pr ∧ pr ≤ es.length) = false) := Lib.hid (by rw [hne]; exact decide_eq_false h1)
      have HT := Lib.hid (h.out.below hb)
      have HB := Lib.hid hb
      clear hx h1 hne h0 hb
      go_enter Try.func11, Try.ntmps11
      go_wp2_with (go_at_call 27; refine (there_is pr false HT HV).mono ?_; rintro e w' ⟨rfl, rfl⟩)
      go_ret3
      exact ⟨rfl, HB.out⟩
    · rw [if_neg h1] at hx
      have h2 : 1 ≤ pr ∧ pr ≤ ne := by omega
      obtain ⟨j, hj⟩ : ∃ j : Nat, (pr - 1).toNat = j := ⟨_, rfl⟩
      have hj' : pr = (j : Int) + 1 := by omega
      have hat : es[j]? = some (es.getD j 0) := at_getD (by omega)
      obtain ⟨k, rfl, _, _, _, hc, hf⟩ := own_num h.out.own hat
      rw [hj] at hx
      obtain ⟨y, hy⟩ : ∃ y, es.getD j 0 = y := ⟨_, rfl⟩
      rw [hy] at hx hc
      by_cases hye : y = ep
      · subst hye
        rw [if_neg (by omega), if_neg (by omega)] at hx
        exact ask_hit t p pr y sq x er v R n rc j _ ne _ h G ht hp (Lib.hid hne) hl (Lib.hid hj') (by omega) hc (Lib.hid rfl) (Lib.hid rfl) (Lib.hid hx)
      · have HV : Hid (decide (1 ≤ pr ∧ pr ≤ es.length) = true) := Lib.hid (by rw [hne]; exact decide_eq_true h2)
        obtain ⟨W, hW⟩ : ∃ W, (w.alloc (.cells #[.string t, .int .i64 p] 31)).alloc (.cells #[.int .i64 pr, .int .i64 ep, .int .i64 sq, .slice R n rc] 34) = W := ⟨_, rfl⟩
        have r2 := (ask_boxes (w := w) (pr := pr) (ep := ep) (sq := sq) (p := p) (t := t) (v := .slice R n rc)).2.2
        rw [hW] at hb r2
        have b3 : W.cell? ⟨w.heap.size + 1, 0, none⟩ = some (.int .i64 pr) := (cell_of_row _ _ 0 _ _ _ r2).trans rfl
        have b4 : W.cell? ⟨w.heap.size + 1, 1, none⟩ = some (.int .i64 ep) := (cell_of_row _ _ 1 _ _ _ r2).trans rfl
        have HT := Lib.hid (h.out.below hb)
        have c0 := HT.out.c0
        rw [hne] at c0
        have ck := cell_at hb hc
        have e1 : wrap64 (pr - 1) = (j : Int) := by simp only [wrap64]; omega
        have e2 : pr - 1 = (j : Int) := by omega
        have j0 : (0 : Int) ≤ (j : Int) := by omega
        have j1 : (j : Int) < (ne : Int) := by omega
        have HW := Lib.hid hW
        have HB := Lib.hid hb
        by_cases h3 : ep < y
        · rw [if_pos h3] at hx
          obtain ⟨rfl, rfl, rfl⟩ : 0 = x ∧ false = v ∧ 81 = er := by simpa using hx
          clear hx h1 hne h0 hb r2 hW h2 hj hj' hat hf hy hye hc
          go_enter Try.func11, Try.ntmps11
          go_upto_region 5 with (go_at_call 27; rw [HW.out]; refine (there_is pr true HT HV).mono ?_; rintro e w' ⟨rfl, rfl⟩)
          go_quiet (fail)
          go_wp2_with fail
          go_ret3
          exact ⟨rfl, HB.out.trans ((drewN_below (Below.refl _ _) _).mono HB.out.size)⟩
        · rw [if_neg h3, if_pos (by omega)] at hx
          have h4 : y < ep := by omega
          have h3' : ¬ y > ep := by omega
          obtain ⟨rfl, rfl, rfl⟩ : 0 = x ∧ false = v ∧ 80 = er := by simpa using hx
          clear hx h1 hne h0 hb r2 hW h2 hj hj' hat hf hy hye hc h3
          go_enter Try.func11, Try.ntmps11
          go_upto_region 5 with (go_at_call 27; rw [HW.out]; refine (there_is pr true HT HV).mono ?_; rintro e w' ⟨rfl, rfl⟩)
          go_quiet (fail)
          go_wp2_with fail
          go_ret3
          exact ⟨rfl, HB.out.trans ((drewN_below (Below.refl _ _) _).mono HB.out.size)⟩
end Go.Proofs.Ytcmlopflandlgaa.L8
