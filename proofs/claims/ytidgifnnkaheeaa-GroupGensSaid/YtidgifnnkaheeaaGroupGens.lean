/-
  The statement GroupGens, without conditions: the generation never goes back, and is another one whenever the members, or what they want, are others; a beat changes neither.
-/
import Derived.Test.YtidgifnnkaheeaaRows
import Derived.WalkKit
import Derived.ProofKit
import Derived.OpenShut
import Derived.ShutString
import Derived.ChangeOld
import Derived.Below
import Derived.Test.YtidgifnnkaheeaaMGpMine
import Derived.Test.YtidgifnnkaheeaaGpCut
import Derived.Test.YtidgifnnkaheeaaMReqTops
import Derived.LoopTactic
import Derived.IntWalk
import Derived.Deep.RegionHeld3
import Derived.Deep.QuietTactic
import Derived.BigQuiet
namespace Go.Proofs.Ytidgifnnkaheeaa.groupGens
open Go.ChangeShapes Go.WideShapes Go.ChangeAt Go.RowKit Go.Deep
open Go.ChangeMaps (open_string shut_string)
open L3 L4 L9 L10 L11

theorem own : ownKnob Try.prog.godebug = none := by kernel_rfl
theorem laidOut : laidOutB Try.prog = true := by kernel_rfl

/-- what a call makes of a generation -/
structure StepF (kd G : Int) (Q : List Se) (G' : Int) (Q' : List Se) : Prop where
  up : G' = G ∨ G' = G + 1
  same : G' = G → Q.map (·.m) = Q'.map (·.m)
  beat : kd = 1 → G' = G
theorem step_none (kd G : Int) (Q : List Se) : StepF kd G Q G Q := ⟨.inl rfl, fun _ => rfl, fun _ => rfl⟩
theorem step_join {kd G x : Int} (Q : List Se) (s : Se) (hk : kd ≠ 1) : StepF kd G Q (joinG G x) (joinQ Q s x) := by
  unfold joinG joinQ
  split
  · exact ⟨.inr rfl, fun h => by omega, fun h => absurd h hk⟩
  · exact ⟨.inl rfl, fun _ => rfl, fun h => absurd h hk⟩
theorem step_beat (kd G : Int) (Q : List Se) (a : ByteArray) (now x : Int) : StepF kd G Q G (beatQ Q a now x) := by
  refine ⟨.inl rfl, fun _ => ?_, fun _ => rfl⟩
  unfold beatQ
  split
  · rw [List.map_map]; exact List.map_congr_left fun s _ => by simp [Function.comp, beat_m]
  · rfl
theorem step_leave {kd G x : Int} (Q : List Se) (a : ByteArray) (hk : kd ≠ 1) (h60 : G ≤ 60) : StepF kd G Q (leaveG G x) (leaveQ Q a x) := by
  unfold leaveG leaveQ upG
  split
  · exact ⟨.inr (by omega), fun h => by omega, fun h => absurd h hk⟩
  · exact ⟨.inl rfl, fun _ => rfl, fun h => absurd h hk⟩
theorem step_expire {kd G : Int} (Q : List Se) (p : Se → Bool) (hk : kd ≠ 1) (h60 : G ≤ 60) : StepF kd G Q (goneG p G Q) (stayQ p Q) := by
  unfold goneG upG
  split
  · rename_i h
    refine ⟨.inl rfl, fun _ => ?_, fun h => absurd h hk⟩
    have h1 : Q.filter p = [] := by
      unfold goneQ at h
      rw [List.length_map] at h
      exact List.eq_nil_of_length_eq_zero h
    unfold stayQ
    rw [List.filter_eq_self.2 (fun s hs => by
      have := List.filter_eq_nil_iff.1 h1 s hs
      simpa using this)]
  · exact ⟨.inr (by omega), fun h => by omega, fun h => absurd h hk⟩
/-- are the first so many members the same? -/
def AlikeTo (Q Q' : List Se) (j : Nat) (al : Bool) : Prop := al = true ↔ Q.length = Q'.length ∧ ∀ i < j, ∀ s s', Q[i]? = some s → Q'[i]? = some s' → s.m.name = s'.m.name ∧ s.m.ts = s'.m.ts
theorem alike_start (Q Q' : List Se) (al : Bool) (h : al = decide (Q.length = Q'.length)) : AlikeTo Q Q' 0 al := by
  subst h
  unfold AlikeTo
  rw [decide_eq_true_eq]
  exact ⟨fun h => ⟨h, fun i hi => absurd hi (by omega)⟩, fun h => h.1⟩
theorem alike_next {Q Q' : List Se} {j : Nat} {al : Bool} {s s' : Se} (h : AlikeTo Q Q' j true) (hs : Q[j]? = some s) (hs' : Q'[j]? = some s') (ha : al = true ↔ s.m.name = s'.m.name ∧ s.m.ts = s'.m.ts) : AlikeTo Q Q' (j + 1) al := by
  obtain ⟨h1, h2⟩ := h.1 rfl
  constructor
  · intro q
    refine ⟨h1, fun i hi => ?_⟩
    by_cases e : i = j
    · subst e
      intro a b ha' hb'
      rw [hs] at ha'; rw [hs'] at hb'
      injection ha' with ha'; injection hb' with hb'
      subst ha'; subst hb'
      exact ha.1 q
    · exact h2 i (by omega)
  · rintro ⟨_, q⟩
    exact ha.2 (q j (by omega) s s' hs hs')
theorem alike_end {Q Q' : List Se} {j : Nat} {al : Bool} (h : AlikeTo Q Q' j al) (hq : Q.map (·.m) = Q'.map (·.m)) : al = true := by
  have hl : Q.length = Q'.length := by have := congrArg List.length hq; simpa using this
  refine h.2 ⟨hl, fun i _ s s' hs hs' => ?_⟩
  have e := congrArg (·[i]?) hq
  simp only [List.getElem?_map, hs, hs', Option.map_some] at e
  injection e with e
  rw [e]
  exact ⟨rfl, rfl⟩
/-- a script's call, in cells -/
theorem oc_cells {w : World} {A : Option Addr} {l : List Oc} (h : RowsO ocC 8 w A l) {i : Nat} {r : Oc} (hi : l[i]? = some r) : ∃ g o, A = some ⟨g, o, none⟩ ∧ g < w.heap.size ∧ w.cell? ⟨g, o + i * 8, none⟩ = some (.int .i64 r.kind) ∧ w.cell? ⟨g, o + i * 8 + 1, none⟩ = some (.string r.v.s.m.name) ∧ w.cell? ⟨g, o + i * 8 + 2, none⟩ = some (.slice r.v.A r.v.s.m.ts.length r.v.c) ∧ w.cell? ⟨g, o + i * 8 + 3, none⟩ = some (.int .i64 r.v.s.tm) ∧ w.cell? ⟨g, o + i * 8 + 4, none⟩ = some (.int .i64 r.v.s.sn) ∧ w.cell? ⟨g, o + i * 8 + 5, none⟩ = some (.int .i64 r.gen) ∧ w.cell? ⟨g, o + i * 8 + 6, none⟩ = some (.int .i64 r.now) ∧ w.cell? ⟨g, o + i * 8 + 7, none⟩ = some (.bool r.rb) := by
  obtain ⟨g, o, e, hg, hc⟩ := h (by have := (List.getElem?_eq_some_iff.1 hi).1; omega)
  have q := hc i r hi
  exact ⟨g, o, e, hg, q 0 _ rfl, q 1 _ rfl, q 2 _ rfl, q 3 _ rfl, q 4 _ rfl, q 5 _ rfl, q 6 _ rfl, q 7 _ rfl⟩
theorem rows_keep {α : Type} {row : α → List Value} {k : Nat} {w w' : World} {A : Option Addr} {l : List α} (h : RowsO row k w A l) (b : Below w.heap.size w w') : RowsO row k w' A l := fun h0 => by
  obtain ⟨g, o, e, hg, hc⟩ := h h0
  exact ⟨g, o, e, Nat.lt_of_lt_of_le hg b.size, fun i r hr j u hu => (b.cell (p := ⟨g, o + i * k + j, none⟩) hg).trans (hc i r hr j u hu)⟩
theorem kinds (kd : Int) : ((kd == 0) = true ∧ (kd == 1) = false) ∨ ((kd == 0) = false ∧ (kd == 1) = true) ∨ ((kd == 0) = false ∧ (kd == 1) = false ∧ (kd == 2) = true) ∨ ((kd == 0) = false ∧ (kd == 1) = false ∧ (kd == 2) = false ∧ (kd == 3) = true) ∨ ((kd == 0) = false ∧ (kd == 1) = false ∧ (kd == 2) = false ∧ (kd == 3) = false) := by
  simp only [beq_iff_eq, beq_eq_false_iff_ne]
  omega
theorem keep4z {W w1 w2 : World} {a0 a1 a2 a3 : Addr} {v0 v1 v2 v3 : Value} (h : (w1.cell? a0 = some v0 ∧ w1.cell? a1 = some v1 ∧ w1.cell? a2 = some v2 ∧ w1.cell? a3 = some v3) ∧ Below W.heap.size W w1) (hb : Below w1.heap.size w1 w2) :
    (w2.cell? a0 = some v0 ∧ w2.cell? a1 = some v1 ∧ w2.cell? a2 = some v2 ∧ w2.cell? a3 = some v3) ∧ Below W.heap.size W w2 := ⟨below4 hb h.1, h.2.trans (hb.mono h.2.size)⟩
/-- a row stays -/
theorem row_only {w w' : World} {S : List Nat} {g : Nat} {o : Obj} (h : w.heap[g]? = some o) (k : Only S w w') (hn : g ∉ S) : w'.heap[g]? = some o := (k.block g (Array.getElem?_eq_some_iff.1 h).1 hn).trans h
theorem row_below {w w' : World} {g : Nat} {o : Obj} (h : w.heap[g]? = some o) (k : Below w.heap.size w w') : w'.heap[g]? = some o := (k.block g (Array.getElem?_eq_some_iff.1 h).1).trans h

set_option maxRecDepth 100000 in
set_option maxHeartbeats 16000000 in
theorem walk (W : World) (A0 : Option Addr) (l0 : List Oc) (c0 : Nat) (R0 : Hid (RowsO ocC 8 W A0 l0)) (S0 : Hid (∀ r ∈ l0, IsOc W r)) (Z0 : l0.length ≤ maxLen) :
    Calls Try.prog 5 #[.slice A0 l0.length c0] W fun e w' => e = .returned (.bool true) ∧ Below W.heap.size W w' := by
  obtain ⟨n0, hn0⟩ : ∃ n, l0.length = n := ⟨_, rfl⟩
  have HN0 := Lib.hid hn0
  have Z0 : n0 ≤ 9223372036854775807 := by unfold maxLen at Z0; omega
  rw [hn0]
  clear hn0
  go_enter Try.func5, Try.ntmps5
  go_wp2_with (go_at_call 21; refine (m_new W W (Below.refl _ _)).mono ?_; rintro e w1 ⟨g, b, rfl, h1, -⟩; have H1 := Lib.hid h1; clear h1)
  go_loopw [4] (fun i wr => ∃ (k N : Nat) (G : Int) (r : Bool) (Q : List Se), k ≤ n0 ∧ k ≤ 60 ∧ i = .int .i64 k ∧ N ≤ k ∧ G ≤ k ∧ Hid (GM W wr g b N G r Q)) (fun i _ => n0 - (intOf i).toNat)
  case atStart => exact ⟨0, 0, 0, false, [], by omega, by omega, rfl, by omega, by omega, H1⟩
  case round =>
    obtain ⟨k, N, G, rg, Q, hk, hk60, rfl, hN, hGk, HG⟩ := hrel
    by_cases hlt : k < n0 ∧ k < 60
    · obtain ⟨hlt, hlt60⟩ := hlt
      obtain ⟨r, hr⟩ : ∃ r, l0[k]? = some r := ⟨_, List.getElem?_eq_getElem (by rw [HN0.out]; exact hlt)⟩
      have HBG : Hid (Below W.heap.size W wr) := Lib.hid HG.out.bel
      obtain ⟨g0, o0, rfl, hg0, d0, d1, d2, d3, d4, d5, d6, d7⟩ := oc_cells (rows_keep R0.out HBG.out) hr
      have HOC := Lib.hid (S0.out r (List.mem_of_getElem? hr))
      obtain ⟨kd, hkd⟩ : ∃ kd, r.kind = kd := ⟨_, rfl⟩
      obtain ⟨nm, hnm⟩ : ∃ nm, r.v.s.m.name = nm := ⟨_, rfl⟩
      obtain ⟨tn, htn0⟩ : ∃ tn, r.v.s.m.ts.length = tn := ⟨_, rfl⟩
      obtain ⟨tc, htc⟩ : ∃ tc, r.v.c = tc := ⟨_, rfl⟩
      obtain ⟨tm, htm⟩ : ∃ tm, r.v.s.tm = tm := ⟨_, rfl⟩
      obtain ⟨sn, hsn⟩ : ∃ sn, r.v.s.sn = sn := ⟨_, rfl⟩
      obtain ⟨gn, hgn⟩ : ∃ gn, r.gen = gn := ⟨_, rfl⟩
      obtain ⟨nw, hnw⟩ : ∃ nw, r.now = nw := ⟨_, rfl⟩
      obtain ⟨rb, hrb⟩ : ∃ rb, r.rb = rb := ⟨_, rfl⟩
      obtain ⟨kk, hkk⟩ : ∃ kk, (cutSe r.v.s).m.ts.length = kk := ⟨_, rfl⟩
      rw [hkd] at d0
      rw [hnm] at d1
      rw [htn0, htc] at d2
      rw [htm] at d3
      rw [hsn] at d4
      rw [hgn] at d5
      rw [hnw] at d6
      rw [hrb] at d7
      have HS : Hid (r.v.s.m.name = nm ∧ r.v.s.m.ts.length = tn ∧ r.v.s.tm = tm ∧ r.v.s.sn = sn) := Lib.hid ⟨hnm, htn0, htm, hsn⟩
      have HSZ : Hid (r.v.s.m.name.size ≤ maxLen ∧ ∀ x ∈ r.v.s.m.ts, x.size ≤ maxLen) := Lib.hid ⟨HOC.out.1.1, HOC.out.1.2.2.1⟩
      have htn : tn ≤ maxLen := by rw [← htn0]; exact HOC.out.1.2.2.2.1
      have HKK := Lib.hid hkk
      have hkk10 : kk ≤ 1000000 := by rw [← hkk]; have := cutSe_len r.v.s; omega
      have k0 : (0 : Int) ≤ (k : Int) := by omega
      have k1 : (k : Int) < (n0 : Int) := by omega
      have k2 : (k : Int) < 60 := by omega
      have hr5 := heap_alloc_new wr (.cells #[.int .i64 kd, .string nm, .slice r.v.A tn tc, .int .i64 tm, .int .i64 sn, .int .i64 gn, .int .i64 nw, .bool rb] 50)
      have hb5 := one_box' (w := wr) (.cells #[.int .i64 kd, .string nm, .slice r.v.A tn tc, .int .i64 tm, .int .i64 sn, .int .i64 gn, .int .i64 nw, .bool rb] 50)
      obtain ⟨W5, hW5⟩ : ∃ W5, wr.alloc (.cells #[.int .i64 kd, .string nm, .slice r.v.A tn tc, .int .i64 tm, .int .i64 sn, .int .i64 gn, .int .i64 nw, .bool rb] 50) = W5 := ⟨_, rfl⟩
      obtain ⟨b5, hb5e⟩ : ∃ b, wr.heap.size = b := ⟨_, rfl⟩
      rw [hW5] at hr5 hb5
      rw [hb5e] at hr5
      have y1 := (cell_of_row _ _ 1 _ _ _ hr5).trans rfl
      have y2 := (cell_of_row _ _ 2 _ _ _ hr5).trans rfl
      have y3 := (cell_of_row _ _ 3 _ _ _ hr5).trans rfl
      have y4 := (cell_of_row _ _ 4 _ _ _ hr5).trans rfl
      have HR5 := Lib.hid hr5
      have HW5 := Lib.hid hW5
      have HE5 := Lib.hid hb5e
      have HBW5 : Hid (Below W.heap.size W W5) := Lib.hid (HBG.out.trans (hb5.mono HBG.out.size))
      have HG5 := Lib.hid (HG.out.below hb5)
      have HLT5 : Hid (g < b5 ∧ b < b5) := Lib.hid (by have := HG.out.lt; omega)
      clear hr hkd htc hgn hnw hrb hkk hnm htn0 htm hsn hr5 hb5
      go_upto_region 9 with (first
        | (rw [HW5.out, HE5.out])
        | (go_at_call 22; refine (cut_is _ r.v.s r.v.A tn tc kk nm tm sn HS (Lib.hid (rows_keep HOC.out.1.2.1 HBW5.out)) HSZ htn HKK).mono ?_; rintro e w2 ⟨A2, c2, rfl, ht2, hb2⟩; have HT2 := Lib.hid ht2; have HB2 := Lib.hid hb2; clear ht2 hb2))
      obtain ⟨cn, hcn⟩ : ∃ cn, (cutSe r.v.s).m.name = cn := ⟨_, rfl⟩
      obtain ⟨-, -, q3, q4⟩ := HS.out
      rw [q3, q4, hcn]
      have HCS : Hid ((cutSe r.v.s).m.name = cn ∧ (cutSe r.v.s).m.ts.length = kk ∧ (cutSe r.v.s).tm = tm ∧ (cutSe r.v.s).sn = sn) := Lib.hid ⟨hcn, HKK.out, q3, q4⟩
      have HCZ : Hid ((cutSe r.v.s).m.name.size ≤ 281474976710656 ∧ ∀ x ∈ (cutSe r.v.s).m.ts, x.size ≤ 281474976710656) := Lib.hid (cutSe_sz r.v.s)
      have HCN : Hid (cn.size ≤ maxLen) := Lib.hid (by rw [← hcn]; have := (cutSe_sz r.v.s).1; unfold maxLen; omega)
      obtain ⟨se, hse⟩ : ∃ se, cutSe r.v.s = se := ⟨_, rfl⟩
      rw [hse] at HCS HCZ HT2
      have hr6 := heap_alloc_new w2 (.cells #[.string cn, .slice A2 kk c2, .int .i64 tm, .int .i64 sn] 47)
      have hb6 := one_box' (w := w2) (.cells #[.string cn, .slice A2 kk c2, .int .i64 tm, .int .i64 sn] 47)
      obtain ⟨W6, hW6⟩ : ∃ W6, w2.alloc (.cells #[.string cn, .slice A2 kk c2, .int .i64 tm, .int .i64 sn] 47) = W6 := ⟨_, rfl⟩
      obtain ⟨b6, hb6e⟩ : ∃ b, w2.heap.size = b := ⟨_, rfl⟩
      rw [hW6, hb6e] at hr6
      rw [hW6] at hb6 ⊢
      rw [hb6e]
      have HR56 := Lib.hid (row_below (row_below HR5.out HB2.out) hb6)
      have HR66 := Lib.hid hr6
      have HT6 := Lib.hid (HT2.out.below hb6)
      have HG6 := Lib.hid ((HG5.out.below HB2.out).below hb6)
      have HLT6 : Hid (b5 < b6) := Lib.hid (by have := (Array.getElem?_eq_some_iff.1 HR5.out).1; have := HB2.out.size; omega)
      obtain ⟨m1, hm1⟩ : ∃ m, Q.length = m := ⟨_, rfl⟩
      have HM1 := Lib.hid hm1
      have hm18 : m1 ≤ 8 := by rw [← hm1]; exact HG.out.good.len
      clear q3 q4 hcn hse hr6 hb6 hW6 hb6e hm1
      go_upto_region 11 with (first
        | (go_at_call 25; refine (m_gen HG6).mono ?_; rintro e w7 ⟨rfl, h7, hb7⟩; have HG7 := Lib.hid h7; have HB7 := Lib.hid hb7; clear h7 hb7)
        | (go_at_call 26; refine (m_seats m1 HG7 HM1).mono ?_; rintro e w8 ⟨A8, d8, vs1, rfl, HV1, ho8, h8, hb8⟩; have HG8 := Lib.hid h8; have HE8 := Lib.hid ho8; have HB8 : Hid (Below W6.heap.size W6 w8) := Lib.hid (HB7.out.trans (hb8.mono HB7.out.size)); clear h8 ho8 hb8))
      have hr58 := row_below HR56.out HB8.out
      have hr68 := row_below HR66.out HB8.out
      have p0 := (cell_of_row _ _ 0 _ _ _ hr58).trans rfl
      have p5 := (cell_of_row _ _ 5 _ _ _ hr58).trans rfl
      have p6 := (cell_of_row _ _ 6 _ _ _ hr58).trans rfl
      have p7 := (cell_of_row _ _ 7 _ _ _ hr58).trans rfl
      have t0 := (cell_of_row _ _ 0 _ _ _ hr68).trans rfl
      have t1 := (cell_of_row _ _ 1 _ _ _ hr68).trans rfl
      have t2 := (cell_of_row _ _ 2 _ _ _ hr68).trans rfl
      have t3 := (cell_of_row _ _ 3 _ _ _ hr68).trans rfl
      have HR58 := Lib.hid hr58
      have HT8 := Lib.hid (HT6.out.below HB8.out)
      have HL7 : Hid (g < w7.heap.size ∧ b < w7.heap.size) := Lib.hid HG7.out.lt
      have hN6 : N ≤ 1000000 := by omega
      have HGK : Hid (G ≤ 60) := Lib.hid (by omega)
      have HNN := Lib.hid hN
      have HGG := Lib.hid hGk
      clear hr58 hr68 hN hGk y1 y2 y3 y4
      have hways : ((kd == 0) = true ∧ (kd == 1) = false) ∨ ((kd == 0) = false ∧ (kd == 1) = true) ∨ ((kd == 0) = false ∧ (kd == 1) = false ∧ (kd == 2) = true) ∨ ((kd == 0) = false ∧ (kd == 1) = false ∧ (kd == 2) = false ∧ (kd == 3) = true) ∨ ((kd == 0) = false ∧ (kd == 1) = false ∧ (kd == 2) = false ∧ (kd == 3) = false) := kinds kd
      rcases hways with ⟨c0, c1⟩ | ⟨c0, c1⟩ | ⟨c0, c1, c2'⟩ | ⟨c0, c1, c2', c3⟩ | ⟨c0, c1, c2', c3⟩
      · have HK1 : Hid (kd ≠ 1) := Lib.hid (by simpa using c1)
        obtain ⟨xj, hxj⟩ : ∃ x, joinE G rg Q se rb = x := ⟨_, rfl⟩
        have HXJ := Lib.hid hxj
        obtain ⟨yj, hyj⟩ : ∃ y, (if xj = 0 then G + 1 else 0) = y := ⟨_, rfl⟩
        have HYJ := Lib.hid hyj
        clear hxj hyj
        go_upto_region 20 with (go_at_call 24; refine (m_join (n := kk) se cn A2 tm sn xj yj rb HG8 hN6 HCS HT8 HCZ hkk10 HXJ HYJ).mono ?_; rintro e w9 ⟨rfl, h9, ho9⟩; obtain ⟨N', G', r', Q', hN', HX9, HSF⟩ : ∃ N' G' r' Q', N' ≤ N + 1 ∧ Hid (GM W w9 g b N' G' r' Q') ∧ Hid (StepF kd G Q G' Q') := ⟨N + 1, joinG G xj, joinR rg rb xj, joinQ Q se xj, by omega, Lib.hid h9, Lib.hid (step_join Q se HK1.out)⟩; have HO9 := Lib.hid ho9; clear h9 ho9 HK1)
        as_aux_lemma =>
        have HR59 := Lib.hid (row_only HR58.out HO9.out (by have := HLT5.out; simp; omega))
        have HE9 := Lib.hid (HE8.out.only HO9.out (fun k hk => by have := HL7.out; simp at hk; omega))
        obtain ⟨m2, hm2⟩ : ∃ m, Q'.length = m := ⟨_, rfl⟩
        have HM2 := Lib.hid hm2
        have hm28 : m2 ≤ 8 := by rw [← hm2]; exact HX9.out.good.len
        obtain ⟨al0, hal0⟩ : ∃ al, ((m1 : Int) == (m2 : Int)) = al := ⟨_, rfl⟩
        have HAL0 : Hid (AlikeTo Q Q' 0 al0) := Lib.hid (alike_start Q Q' al0 (by rw [← hal0, HM1.out, hm2, Bool.eq_iff_iff]; simp; omega))
        clear hm2 p0 p5 p6 p7 t0 t1 t2 t3
        go_wp2_with (first
          | (go_at_call 25; refine (m_gen HX9).mono ?_; rintro e w10 ⟨rfl, h10, hb10⟩; have HG10 := Lib.hid h10; have HB10 := Lib.hid hb10; clear h10 hb10)
          | (go_at_call 26; refine (m_seats m2 HG10 HM2).mono ?_; rintro e w11 ⟨A11, d11, vs2, rfl, HV2, ho11, h11, hb11⟩; have HG11 := Lib.hid h11; have HE2 := Lib.hid ho11; have HB11 : Hid (Below w9.heap.size w9 w11) := Lib.hid (HB10.out.trans (hb11.mono HB10.out.size)); clear h11 ho11 hb11))
        have HE1 := Lib.hid (HE9.out.below HB11.out)
        have HR511 := Lib.hid (row_below HR59.out HB11.out)
        clear hal0
        obtain ⟨wo, hwo⟩ : ∃ wo, wo = wr := ⟨_, rfl⟩
        rw [← hwo] at HG HBG HE5
        go_loopw [13, 14] (fun v13 v14 wr => ∃ (j : Nat) (al : Bool), j ≤ m1 ∧ v13 = .bool al ∧ v14 = .int .i64 j ∧ Hid (AlikeTo Q Q' j al) ∧ Hid (Below w11.heap.size w11 wr)) (fun _ v14 _ => m1 - (intOf v14).toNat)
        case atStart => exact ⟨0, al0, by omega, rfl, rfl, HAL0, Lib.hid (Below.refl _ _)⟩
        case round =>
          obtain ⟨j, al, hj, rfl, rfl, HAL, HBW⟩ := hrel
          have j0 : (0 : Int) ≤ (j : Int) := by omega
          by_cases hjm : j < m1 ∧ al = true
          · as_aux_lemma =>
            obtain ⟨hjm, hal⟩ := hjm
            subst hal
            have hmm : m1 = m2 := by have := (HAL.out.1 rfl).1; rw [HM1.out, HM2.out] at this; exact this
            obtain ⟨s, hs⟩ : ∃ s, Q[j]? = some s := ⟨_, List.getElem?_eq_getElem (by rw [HM1.out]; exact hjm)⟩
            obtain ⟨s', hs'⟩ : ∃ s, Q'[j]? = some s := ⟨_, List.getElem?_eq_getElem (by rw [HM2.out]; omega)⟩
            obtain ⟨g1, rfl, hg1, hc1⟩ := (HE1.out.below HBW.out).reads (by rw [HV1.out, HM1.out]; omega)
            obtain ⟨g2, rfl, hg2, hc2⟩ := (HE2.out.below HBW.out).reads (by rw [HV2.out, HM2.out]; omega)
            obtain ⟨At1, ct1, hrt1, a0, a1, -, -⟩ := hc1 j s (by rw [HV1.out]; exact hs)
            obtain ⟨At2, ct2, hrt2, b0, b1, -, -⟩ := hc2 j s' (by rw [HV2.out]; exact hs')
            have HRT1 := Lib.hid hrt1
            have HRT2 := Lib.hid hrt2
            have HSS := Lib.hid hs
            have HSS' := Lib.hid hs'
            have j1 : (j : Int) < (m1 : Int) := by omega
            have j2 : (j : Int) < (m2 : Int) := by omega
            have HTL : Hid (s.m.ts.length ≤ maxLen) := Lib.hid (by have := (mayS_fit (HG.out.good.may s (List.mem_of_getElem? hs))).2.1; unfold maxLen; omega)
            clear hc1 hc2 hrt1 hrt2 hs hs' hmm
            by_cases hn : s.m.name = s'.m.name
            · have e0 : (s.m.name.toList == s'.m.name.toList) = true := by simp [hn]
              obtain ⟨v, hv⟩ : ∃ v : Bool, (v = true ↔ s.m.ts = s'.m.ts) := ⟨decide (s.m.ts = s'.m.ts), by simp⟩
              have HV := Lib.hid hv
              have HNX : Hid (AlikeTo Q Q' (j + 1) v) := Lib.hid (alike_next HAL.out HSS.out HSS'.out ⟨fun q => ⟨hn, hv.1 q⟩, fun q => hv.2 q.2⟩)
              clear hn hv
              go_wp2_with fail
              go_region_held3 (fun w' => (w'.cell? ⟨g1, j * 4, none⟩ = some (.string s.m.name) ∧ w'.cell? ⟨g2, j * 4, none⟩ = some (.string s'.m.name) ∧ w'.cell? ⟨g1, j * 4 + 1, none⟩ = some (.slice At1 s.m.ts.length ct1) ∧ w'.cell? ⟨g2, j * 4 + 1, none⟩ = some (.slice At2 s'.m.ts.length ct2)) ∧ Below wr.heap.size wr w')
                (first | assumption | exact ⟨⟨a0, b0, a1, b1⟩, (Below.refl _ _).drew⟩ | exact ⟨⟨a0, b0, a1, b1⟩, Below.refl _ _⟩ | exact keep4z (by assumption) ((Below.refl _ _).drew) | exact keep4z (by assumption) (by assumption))
                (first | (go_at_call 31; refine (rtexts_is At1 At2 s.m.ts s'.m.ts ct1 ct2 _ v _ (Lib.hid (HRT1.out.below (by first | exact (And.right (by assumption)) | exact (Below.refl _ _).drew | exact Below.refl _ _)).row.reads) (Lib.hid (HRT2.out.below (by first | exact (And.right (by assumption)) | exact (Below.refl _ _).drew | exact Below.refl _ _)).row.reads) (Nat.le_refl _) HTL.out HV).mono ?_; rintro e wt ⟨rfl, hbt⟩))
              all_goals
                rename_i hh
                have HHB := Lib.hid hh.2
                clear hh
                go_wp2_with fail
                go_roundw
                case rel => exact ⟨j + 1, v, by omega, rfl, by go_num, HNX, Lib.hid (HBW.out.trans (HHB.out.mono HBW.out.size))⟩
                case measure => (simp [intOf]; try omega)
            · have e0 : (s.m.name.toList == s'.m.name.toList) = false := bytes_off hn
              have HNX : Hid (AlikeTo Q Q' (j + 1) false) := Lib.hid (alike_next HAL.out HSS.out HSS'.out ⟨(fun q => by cases q), (fun q => absurd q.1 hn)⟩)
              clear hn
              go_wp2_with fail
              go_quiet (fail)
              go_wp2_with fail
              go_roundw
              case rel => exact ⟨j + 1, false, by omega, rfl, by go_num, HNX, Lib.hid (HBW.out.trans ((drewN_below (Below.refl _ _) _).mono HBW.out.size))⟩
              case measure => (simp [intOf]; try omega)
          · as_aux_lemma =>
            have hjd : (j < m1 ∧ al = false) ∨ (¬ j < m1) := by
              by_cases q : j < m1
              · exact .inl ⟨q, by cases al; rfl; exact absurd ⟨q, rfl⟩ hjm⟩
              · exact .inr q
            have HALS : Hid (G' = G → al = true) := Lib.hid (fun e => alike_end HAL.out (HSF.out.same e))
            have p0 := (cell_of_row _ _ 0 _ _ _ (row_below HR511.out HBW.out)).trans rfl
            have g3 : wrap64 (G + 1) = G + 1 := by have := HG.out.good.gen; have := HGK.out; simp only [wrap64]; omega
            have HGM := Lib.hid (HG11.out.below HBW.out)
            have HKB : Hid (kd = 1 → G' = G) := Lib.hid HSF.out.beat
            have hk60' : k + 1 ≤ 60 := by omega
            have hN'' : N' ≤ k + 1 := by have := HNN.out; omega
            have hk' : k + 1 ≤ n0 := by omega
            rcases HSF.out.up with hup | hup
            · have hal : al = true := HALS.out hup
              have f1 : ¬ G' < G := by omega
              have f2 : ¬ G + 1 < G' := by omega
              have f3 : (G' == G) = true := by simpa using hup
              have f4 : ¬ j < m1 := by
                rcases hjd with ⟨_, q⟩ | q
                · rw [hal] at q; cases q
                · exact q
              have f5 : ¬ (j : Int) < (m1 : Int) := by omega
              have hGk' : G' ≤ (k + 1 : Nat) := by have := HGG.out; omega
              subst hal
              clear hup hjd hjm
              go_wp2_with fail
              go_roundw
              case rel => exact ⟨k + 1, N', G', r', Q', hk', hk60', by go_num, hN'', hGk', HGM⟩
              case measure => (simp [intOf]; try omega)
            · have f1 : ¬ G' < G := by omega
              have f2 : ¬ G + 1 < G' := by omega
              have f3 : (G' == G) = false := by simp; omega
              have hGk' : G' ≤ (k + 1 : Nat) := by have := HGG.out; omega
              have HC1 : Hid ((kd == 1) = false) := Lib.hid (by
                have := HKB.out
                simp
                intro e
                have := this e
                omega)
              have cc := HC1.out
              clear hup
              rcases hjd with ⟨q1, rfl⟩ | q1
              · have f5 : (j : Int) < (m1 : Int) := by omega
                clear hjm
                go_wp2_with fail
                all_goals
                  go_roundw
                  case rel => exact ⟨k + 1, N', G', r', Q', hk', hk60', by go_num, hN'', hGk', HGM⟩
                  case measure => (simp [intOf]; try omega)
              · have f5 : ¬ (j : Int) < (m1 : Int) := by omega
                clear hjm
                cases al
                all_goals
                  go_wp2_with fail
                  all_goals
                    go_roundw
                    case rel => exact ⟨k + 1, N', G', r', Q', hk', hk60', by go_num, hN'', hGk', HGM⟩
                    case measure => (simp [intOf]; try omega)
      · obtain ⟨xj, hxj⟩ : ∃ x, beatE G Q cn gn nw = x := ⟨_, rfl⟩
        have HXJ := Lib.hid hxj
        clear hxj
        go_upto_region 20 with (go_at_call 29; refine (m_beat cn gn nw xj HG8 hN6 HCN HXJ).mono ?_; rintro e w9 ⟨rfl, h9, ho9⟩; obtain ⟨N', G', r', Q', hN', HX9, HSF⟩ : ∃ N' G' r' Q', N' ≤ N + 1 ∧ Hid (GM W w9 g b N' G' r' Q') ∧ Hid (StepF kd G Q G' Q') := ⟨N + 1, G, rg, beatQ Q cn nw xj, by omega, Lib.hid h9, Lib.hid (step_beat kd G Q cn nw xj)⟩; have HO9 := Lib.hid ho9; clear h9 ho9)
        as_aux_lemma =>
        have HR59 := Lib.hid (row_only HR58.out HO9.out (by have := HLT5.out; simp; omega))
        have HE9 := Lib.hid (HE8.out.only HO9.out (fun k hk => by have := HL7.out; simp at hk; omega))
        obtain ⟨m2, hm2⟩ : ∃ m, Q'.length = m := ⟨_, rfl⟩
        have HM2 := Lib.hid hm2
        have hm28 : m2 ≤ 8 := by rw [← hm2]; exact HX9.out.good.len
        obtain ⟨al0, hal0⟩ : ∃ al, ((m1 : Int) == (m2 : Int)) = al := ⟨_, rfl⟩
        have HAL0 : Hid (AlikeTo Q Q' 0 al0) := Lib.hid (alike_start Q Q' al0 (by rw [← hal0, HM1.out, hm2, Bool.eq_iff_iff]; simp; omega))
        clear hm2 p0 p5 p6 p7 t0 t1 t2 t3
        go_wp2_with (first
          | (go_at_call 25; refine (m_gen HX9).mono ?_; rintro e w10 ⟨rfl, h10, hb10⟩; have HG10 := Lib.hid h10; have HB10 := Lib.hid hb10; clear h10 hb10)
          | (go_at_call 26; refine (m_seats m2 HG10 HM2).mono ?_; rintro e w11 ⟨A11, d11, vs2, rfl, HV2, ho11, h11, hb11⟩; have HG11 := Lib.hid h11; have HE2 := Lib.hid ho11; have HB11 : Hid (Below w9.heap.size w9 w11) := Lib.hid (HB10.out.trans (hb11.mono HB10.out.size)); clear h11 ho11 hb11))
        have HE1 := Lib.hid (HE9.out.below HB11.out)
        have HR511 := Lib.hid (row_below HR59.out HB11.out)
        clear hal0
        obtain ⟨wo, hwo⟩ : ∃ wo, wo = wr := ⟨_, rfl⟩
        rw [← hwo] at HG HBG HE5
        go_loopw [13, 14] (fun v13 v14 wr => ∃ (j : Nat) (al : Bool), j ≤ m1 ∧ v13 = .bool al ∧ v14 = .int .i64 j ∧ Hid (AlikeTo Q Q' j al) ∧ Hid (Below w11.heap.size w11 wr)) (fun _ v14 _ => m1 - (intOf v14).toNat)
        case atStart => exact ⟨0, al0, by omega, rfl, rfl, HAL0, Lib.hid (Below.refl _ _)⟩
        case round =>
          obtain ⟨j, al, hj, rfl, rfl, HAL, HBW⟩ := hrel
          have j0 : (0 : Int) ≤ (j : Int) := by omega
          by_cases hjm : j < m1 ∧ al = true
          · as_aux_lemma =>
            obtain ⟨hjm, hal⟩ := hjm
            subst hal
            have hmm : m1 = m2 := by have := (HAL.out.1 rfl).1; rw [HM1.out, HM2.out] at this; exact this
            obtain ⟨s, hs⟩ : ∃ s, Q[j]? = some s := ⟨_, List.getElem?_eq_getElem (by rw [HM1.out]; exact hjm)⟩
            obtain ⟨s', hs'⟩ : ∃ s, Q'[j]? = some s := ⟨_, List.getElem?_eq_getElem (by rw [HM2.out]; omega)⟩
            obtain ⟨g1, rfl, hg1, hc1⟩ := (HE1.out.below HBW.out).reads (by rw [HV1.out, HM1.out]; omega)
            obtain ⟨g2, rfl, hg2, hc2⟩ := (HE2.out.below HBW.out).reads (by rw [HV2.out, HM2.out]; omega)
            obtain ⟨At1, ct1, hrt1, a0, a1, -, -⟩ := hc1 j s (by rw [HV1.out]; exact hs)
            obtain ⟨At2, ct2, hrt2, b0, b1, -, -⟩ := hc2 j s' (by rw [HV2.out]; exact hs')
            have HRT1 := Lib.hid hrt1
            have HRT2 := Lib.hid hrt2
            have HSS := Lib.hid hs
            have HSS' := Lib.hid hs'
            have j1 : (j : Int) < (m1 : Int) := by omega
            have j2 : (j : Int) < (m2 : Int) := by omega
            have HTL : Hid (s.m.ts.length ≤ maxLen) := Lib.hid (by have := (mayS_fit (HG.out.good.may s (List.mem_of_getElem? hs))).2.1; unfold maxLen; omega)
            clear hc1 hc2 hrt1 hrt2 hs hs' hmm
            by_cases hn : s.m.name = s'.m.name
            · have e0 : (s.m.name.toList == s'.m.name.toList) = true := by simp [hn]
              obtain ⟨v, hv⟩ : ∃ v : Bool, (v = true ↔ s.m.ts = s'.m.ts) := ⟨decide (s.m.ts = s'.m.ts), by simp⟩
              have HV := Lib.hid hv
              have HNX : Hid (AlikeTo Q Q' (j + 1) v) := Lib.hid (alike_next HAL.out HSS.out HSS'.out ⟨fun q => ⟨hn, hv.1 q⟩, fun q => hv.2 q.2⟩)
              clear hn hv
              go_wp2_with fail
              go_region_held3 (fun w' => (w'.cell? ⟨g1, j * 4, none⟩ = some (.string s.m.name) ∧ w'.cell? ⟨g2, j * 4, none⟩ = some (.string s'.m.name) ∧ w'.cell? ⟨g1, j * 4 + 1, none⟩ = some (.slice At1 s.m.ts.length ct1) ∧ w'.cell? ⟨g2, j * 4 + 1, none⟩ = some (.slice At2 s'.m.ts.length ct2)) ∧ Below wr.heap.size wr w')
                (first | assumption | exact ⟨⟨a0, b0, a1, b1⟩, (Below.refl _ _).drew⟩ | exact ⟨⟨a0, b0, a1, b1⟩, Below.refl _ _⟩ | exact keep4z (by assumption) ((Below.refl _ _).drew) | exact keep4z (by assumption) (by assumption))
                (first | (go_at_call 31; refine (rtexts_is At1 At2 s.m.ts s'.m.ts ct1 ct2 _ v _ (Lib.hid (HRT1.out.below (by first | exact (And.right (by assumption)) | exact (Below.refl _ _).drew | exact Below.refl _ _)).row.reads) (Lib.hid (HRT2.out.below (by first | exact (And.right (by assumption)) | exact (Below.refl _ _).drew | exact Below.refl _ _)).row.reads) (Nat.le_refl _) HTL.out HV).mono ?_; rintro e wt ⟨rfl, hbt⟩))
              all_goals
                rename_i hh
                have HHB := Lib.hid hh.2
                clear hh
                go_wp2_with fail
                go_roundw
                case rel => exact ⟨j + 1, v, by omega, rfl, by go_num, HNX, Lib.hid (HBW.out.trans (HHB.out.mono HBW.out.size))⟩
                case measure => (simp [intOf]; try omega)
            · have e0 : (s.m.name.toList == s'.m.name.toList) = false := bytes_off hn
              have HNX : Hid (AlikeTo Q Q' (j + 1) false) := Lib.hid (alike_next HAL.out HSS.out HSS'.out ⟨(fun q => by cases q), (fun q => absurd q.1 hn)⟩)
              clear hn
              go_wp2_with fail
              go_quiet (fail)
              go_wp2_with fail
              go_roundw
              case rel => exact ⟨j + 1, false, by omega, rfl, by go_num, HNX, Lib.hid (HBW.out.trans ((drewN_below (Below.refl _ _) _).mono HBW.out.size))⟩
              case measure => (simp [intOf]; try omega)
          · as_aux_lemma =>
            have hjd : (j < m1 ∧ al = false) ∨ (¬ j < m1) := by
              by_cases q : j < m1
              · exact .inl ⟨q, by cases al; rfl; exact absurd ⟨q, rfl⟩ hjm⟩
              · exact .inr q
            have HALS : Hid (G' = G → al = true) := Lib.hid (fun e => alike_end HAL.out (HSF.out.same e))
            have p0 := (cell_of_row _ _ 0 _ _ _ (row_below HR511.out HBW.out)).trans rfl
            have g3 : wrap64 (G + 1) = G + 1 := by have := HG.out.good.gen; have := HGK.out; simp only [wrap64]; omega
            have HGM := Lib.hid (HG11.out.below HBW.out)
            have HKB : Hid (kd = 1 → G' = G) := Lib.hid HSF.out.beat
            have hk60' : k + 1 ≤ 60 := by omega
            have hN'' : N' ≤ k + 1 := by have := HNN.out; omega
            have hk' : k + 1 ≤ n0 := by omega
            rcases HSF.out.up with hup | hup
            · have hal : al = true := HALS.out hup
              have f1 : ¬ G' < G := by omega
              have f2 : ¬ G + 1 < G' := by omega
              have f3 : (G' == G) = true := by simpa using hup
              have f4 : ¬ j < m1 := by
                rcases hjd with ⟨_, q⟩ | q
                · rw [hal] at q; cases q
                · exact q
              have f5 : ¬ (j : Int) < (m1 : Int) := by omega
              have hGk' : G' ≤ (k + 1 : Nat) := by have := HGG.out; omega
              subst hal
              clear hup hjd hjm
              go_wp2_with fail
              go_roundw
              case rel => exact ⟨k + 1, N', G', r', Q', hk', hk60', by go_num, hN'', hGk', HGM⟩
              case measure => (simp [intOf]; try omega)
            · have f1 : ¬ G' < G := by omega
              have f2 : ¬ G + 1 < G' := by omega
              have f3 : (G' == G) = false := by simp; omega
              have hGk' : G' ≤ (k + 1 : Nat) := by have := HGG.out; omega
              have HC1 : Hid ((kd == 1) = false) := Lib.hid (by
                have := HKB.out
                simp
                intro e
                have := this e
                omega)
              have cc := HC1.out
              clear hup
              rcases hjd with ⟨q1, rfl⟩ | q1
              · have f5 : (j : Int) < (m1 : Int) := by omega
                clear hjm
                go_wp2_with fail
                all_goals
                  go_roundw
                  case rel => exact ⟨k + 1, N', G', r', Q', hk', hk60', by go_num, hN'', hGk', HGM⟩
                  case measure => (simp [intOf]; try omega)
              · have f5 : ¬ (j : Int) < (m1 : Int) := by omega
                clear hjm
                cases al
                all_goals
                  go_wp2_with fail
                  all_goals
                    go_roundw
                    case rel => exact ⟨k + 1, N', G', r', Q', hk', hk60', by go_num, hN'', hGk', HGM⟩
                    case measure => (simp [intOf]; try omega)
      · have HK1 : Hid (kd ≠ 1) := Lib.hid (by simpa using c1)
        obtain ⟨xj, hxj⟩ : ∃ x, fenceE G Q cn gn = x := ⟨_, rfl⟩
        have HXJ := Lib.hid hxj
        clear hxj
        go_upto_region 20 with (go_at_call 23; refine (m_leave cn gn xj HG8 HCN HXJ).mono ?_; rintro e w9 ⟨rfl, h9, ho9⟩; obtain ⟨N', G', r', Q', hN', HX9, HSF⟩ : ∃ N' G' r' Q', N' ≤ N + 1 ∧ Hid (GM W w9 g b N' G' r' Q') ∧ Hid (StepF kd G Q G' Q') := ⟨N, leaveG G xj, rg, leaveQ Q cn xj, by omega, Lib.hid h9, Lib.hid (step_leave Q cn HK1.out HGK.out)⟩; have HO9 := Lib.hid ho9; clear h9 ho9 HK1)
        as_aux_lemma =>
        have HR59 := Lib.hid (row_only HR58.out HO9.out (by have := HLT5.out; simp; omega))
        have HE9 := Lib.hid (HE8.out.only HO9.out (fun k hk => by have := HL7.out; simp at hk; omega))
        obtain ⟨m2, hm2⟩ : ∃ m, Q'.length = m := ⟨_, rfl⟩
        have HM2 := Lib.hid hm2
        have hm28 : m2 ≤ 8 := by rw [← hm2]; exact HX9.out.good.len
        obtain ⟨al0, hal0⟩ : ∃ al, ((m1 : Int) == (m2 : Int)) = al := ⟨_, rfl⟩
        have HAL0 : Hid (AlikeTo Q Q' 0 al0) := Lib.hid (alike_start Q Q' al0 (by rw [← hal0, HM1.out, hm2, Bool.eq_iff_iff]; simp; omega))
        clear hm2 p0 p5 p6 p7 t0 t1 t2 t3
        go_wp2_with (first
          | (go_at_call 25; refine (m_gen HX9).mono ?_; rintro e w10 ⟨rfl, h10, hb10⟩; have HG10 := Lib.hid h10; have HB10 := Lib.hid hb10; clear h10 hb10)
          | (go_at_call 26; refine (m_seats m2 HG10 HM2).mono ?_; rintro e w11 ⟨A11, d11, vs2, rfl, HV2, ho11, h11, hb11⟩; have HG11 := Lib.hid h11; have HE2 := Lib.hid ho11; have HB11 : Hid (Below w9.heap.size w9 w11) := Lib.hid (HB10.out.trans (hb11.mono HB10.out.size)); clear h11 ho11 hb11))
        have HE1 := Lib.hid (HE9.out.below HB11.out)
        have HR511 := Lib.hid (row_below HR59.out HB11.out)
        clear hal0
        obtain ⟨wo, hwo⟩ : ∃ wo, wo = wr := ⟨_, rfl⟩
        rw [← hwo] at HG HBG HE5
        go_loopw [13, 14] (fun v13 v14 wr => ∃ (j : Nat) (al : Bool), j ≤ m1 ∧ v13 = .bool al ∧ v14 = .int .i64 j ∧ Hid (AlikeTo Q Q' j al) ∧ Hid (Below w11.heap.size w11 wr)) (fun _ v14 _ => m1 - (intOf v14).toNat)
        case atStart => exact ⟨0, al0, by omega, rfl, rfl, HAL0, Lib.hid (Below.refl _ _)⟩
        case round =>
          obtain ⟨j, al, hj, rfl, rfl, HAL, HBW⟩ := hrel
          have j0 : (0 : Int) ≤ (j : Int) := by omega
          by_cases hjm : j < m1 ∧ al = true
          · as_aux_lemma =>
            obtain ⟨hjm, hal⟩ := hjm
            subst hal
            have hmm : m1 = m2 := by have := (HAL.out.1 rfl).1; rw [HM1.out, HM2.out] at this; exact this
            obtain ⟨s, hs⟩ : ∃ s, Q[j]? = some s := ⟨_, List.getElem?_eq_getElem (by rw [HM1.out]; exact hjm)⟩
            obtain ⟨s', hs'⟩ : ∃ s, Q'[j]? = some s := ⟨_, List.getElem?_eq_getElem (by rw [HM2.out]; omega)⟩
            obtain ⟨g1, rfl, hg1, hc1⟩ := (HE1.out.below HBW.out).reads (by rw [HV1.out, HM1.out]; omega)
            obtain ⟨g2, rfl, hg2, hc2⟩ := (HE2.out.below HBW.out).reads (by rw [HV2.out, HM2.out]; omega)
            obtain ⟨At1, ct1, hrt1, a0, a1, -, -⟩ := hc1 j s (by rw [HV1.out]; exact hs)
            obtain ⟨At2, ct2, hrt2, b0, b1, -, -⟩ := hc2 j s' (by rw [HV2.out]; exact hs')
            have HRT1 := Lib.hid hrt1
            have HRT2 := Lib.hid hrt2
            have HSS := Lib.hid hs
            have HSS' := Lib.hid hs'
            have j1 : (j : Int) < (m1 : Int) := by omega
            have j2 : (j : Int) < (m2 : Int) := by omega
            have HTL : Hid (s.m.ts.length ≤ maxLen) := Lib.hid (by have := (mayS_fit (HG.out.good.may s (List.mem_of_getElem? hs))).2.1; unfold maxLen; omega)
            clear hc1 hc2 hrt1 hrt2 hs hs' hmm
            by_cases hn : s.m.name = s'.m.name
            · have e0 : (s.m.name.toList == s'.m.name.toList) = true := by simp [hn]
              obtain ⟨v, hv⟩ : ∃ v : Bool, (v = true ↔ s.m.ts = s'.m.ts) := ⟨decide (s.m.ts = s'.m.ts), by simp⟩
              have HV := Lib.hid hv
              have HNX : Hid (AlikeTo Q Q' (j + 1) v) := Lib.hid (alike_next HAL.out HSS.out HSS'.out ⟨fun q => ⟨hn, hv.1 q⟩, fun q => hv.2 q.2⟩)
              clear hn hv
              go_wp2_with fail
              go_region_held3 (fun w' => (w'.cell? ⟨g1, j * 4, none⟩ = some (.string s.m.name) ∧ w'.cell? ⟨g2, j * 4, none⟩ = some (.string s'.m.name) ∧ w'.cell? ⟨g1, j * 4 + 1, none⟩ = some (.slice At1 s.m.ts.length ct1) ∧ w'.cell? ⟨g2, j * 4 + 1, none⟩ = some (.slice At2 s'.m.ts.length ct2)) ∧ Below wr.heap.size wr w')
                (first | assumption | exact ⟨⟨a0, b0, a1, b1⟩, (Below.refl _ _).drew⟩ | exact ⟨⟨a0, b0, a1, b1⟩, Below.refl _ _⟩ | exact keep4z (by assumption) ((Below.refl _ _).drew) | exact keep4z (by assumption) (by assumption))
                (first | (go_at_call 31; refine (rtexts_is At1 At2 s.m.ts s'.m.ts ct1 ct2 _ v _ (Lib.hid (HRT1.out.below (by first | exact (And.right (by assumption)) | exact (Below.refl _ _).drew | exact Below.refl _ _)).row.reads) (Lib.hid (HRT2.out.below (by first | exact (And.right (by assumption)) | exact (Below.refl _ _).drew | exact Below.refl _ _)).row.reads) (Nat.le_refl _) HTL.out HV).mono ?_; rintro e wt ⟨rfl, hbt⟩))
              all_goals
                rename_i hh
                have HHB := Lib.hid hh.2
                clear hh
                go_wp2_with fail
                go_roundw
                case rel => exact ⟨j + 1, v, by omega, rfl, by go_num, HNX, Lib.hid (HBW.out.trans (HHB.out.mono HBW.out.size))⟩
                case measure => (simp [intOf]; try omega)
            · have e0 : (s.m.name.toList == s'.m.name.toList) = false := bytes_off hn
              have HNX : Hid (AlikeTo Q Q' (j + 1) false) := Lib.hid (alike_next HAL.out HSS.out HSS'.out ⟨(fun q => by cases q), (fun q => absurd q.1 hn)⟩)
              clear hn
              go_wp2_with fail
              go_quiet (fail)
              go_wp2_with fail
              go_roundw
              case rel => exact ⟨j + 1, false, by omega, rfl, by go_num, HNX, Lib.hid (HBW.out.trans ((drewN_below (Below.refl _ _) _).mono HBW.out.size))⟩
              case measure => (simp [intOf]; try omega)
          · as_aux_lemma =>
            have hjd : (j < m1 ∧ al = false) ∨ (¬ j < m1) := by
              by_cases q : j < m1
              · exact .inl ⟨q, by cases al; rfl; exact absurd ⟨q, rfl⟩ hjm⟩
              · exact .inr q
            have HALS : Hid (G' = G → al = true) := Lib.hid (fun e => alike_end HAL.out (HSF.out.same e))
            have p0 := (cell_of_row _ _ 0 _ _ _ (row_below HR511.out HBW.out)).trans rfl
            have g3 : wrap64 (G + 1) = G + 1 := by have := HG.out.good.gen; have := HGK.out; simp only [wrap64]; omega
            have HGM := Lib.hid (HG11.out.below HBW.out)
            have HKB : Hid (kd = 1 → G' = G) := Lib.hid HSF.out.beat
            have hk60' : k + 1 ≤ 60 := by omega
            have hN'' : N' ≤ k + 1 := by have := HNN.out; omega
            have hk' : k + 1 ≤ n0 := by omega
            rcases HSF.out.up with hup | hup
            · have hal : al = true := HALS.out hup
              have f1 : ¬ G' < G := by omega
              have f2 : ¬ G + 1 < G' := by omega
              have f3 : (G' == G) = true := by simpa using hup
              have f4 : ¬ j < m1 := by
                rcases hjd with ⟨_, q⟩ | q
                · rw [hal] at q; cases q
                · exact q
              have f5 : ¬ (j : Int) < (m1 : Int) := by omega
              have hGk' : G' ≤ (k + 1 : Nat) := by have := HGG.out; omega
              subst hal
              clear hup hjd hjm
              go_wp2_with fail
              go_roundw
              case rel => exact ⟨k + 1, N', G', r', Q', hk', hk60', by go_num, hN'', hGk', HGM⟩
              case measure => (simp [intOf]; try omega)
            · have f1 : ¬ G' < G := by omega
              have f2 : ¬ G + 1 < G' := by omega
              have f3 : (G' == G) = false := by simp; omega
              have hGk' : G' ≤ (k + 1 : Nat) := by have := HGG.out; omega
              have HC1 : Hid ((kd == 1) = false) := Lib.hid (by
                have := HKB.out
                simp
                intro e
                have := this e
                omega)
              have cc := HC1.out
              clear hup
              rcases hjd with ⟨q1, rfl⟩ | q1
              · have f5 : (j : Int) < (m1 : Int) := by omega
                clear hjm
                go_wp2_with fail
                all_goals
                  go_roundw
                  case rel => exact ⟨k + 1, N', G', r', Q', hk', hk60', by go_num, hN'', hGk', HGM⟩
                  case measure => (simp [intOf]; try omega)
              · have f5 : ¬ (j : Int) < (m1 : Int) := by omega
                clear hjm
                cases al
                all_goals
                  go_wp2_with fail
                  all_goals
                    go_roundw
                    case rel => exact ⟨k + 1, N', G', r', Q', hk', hk60', by go_num, hN'', hGk', HGM⟩
                    case measure => (simp [intOf]; try omega)
      · have HK1 : Hid (kd ≠ 1) := Lib.hid (by simpa using c1)
        go_upto_region 20 with (go_at_call 30; refine (m_expire nw _ _ HG8 (Lib.hid rfl) (Lib.hid rfl)).mono ?_; rintro e w9 ⟨A9, d9, rfl, -, -, h9, ho9⟩; obtain ⟨N', G', r', Q', hN', HX9, HSF⟩ : ∃ N' G' r' Q', N' ≤ N + 1 ∧ Hid (GM W w9 g b N' G' r' Q') ∧ Hid (StepF kd G Q G' Q') := ⟨N, goneG (lateB nw) G Q, rg, stayQ (lateB nw) Q, by omega, Lib.hid h9, Lib.hid (step_expire Q _ HK1.out HGK.out)⟩; have HO9 := Lib.hid ho9; clear h9 ho9 HK1)
        as_aux_lemma =>
        have HR59 := Lib.hid (row_only HR58.out HO9.out (by have := HLT5.out; simp; omega))
        have HE9 := Lib.hid (HE8.out.only HO9.out (fun k hk => by have := HL7.out; simp at hk; omega))
        obtain ⟨m2, hm2⟩ : ∃ m, Q'.length = m := ⟨_, rfl⟩
        have HM2 := Lib.hid hm2
        have hm28 : m2 ≤ 8 := by rw [← hm2]; exact HX9.out.good.len
        obtain ⟨al0, hal0⟩ : ∃ al, ((m1 : Int) == (m2 : Int)) = al := ⟨_, rfl⟩
        have HAL0 : Hid (AlikeTo Q Q' 0 al0) := Lib.hid (alike_start Q Q' al0 (by rw [← hal0, HM1.out, hm2, Bool.eq_iff_iff]; simp; omega))
        clear hm2 p0 p5 p6 p7 t0 t1 t2 t3
        go_wp2_with (first
          | (go_at_call 25; refine (m_gen HX9).mono ?_; rintro e w10 ⟨rfl, h10, hb10⟩; have HG10 := Lib.hid h10; have HB10 := Lib.hid hb10; clear h10 hb10)
          | (go_at_call 26; refine (m_seats m2 HG10 HM2).mono ?_; rintro e w11 ⟨A11, d11, vs2, rfl, HV2, ho11, h11, hb11⟩; have HG11 := Lib.hid h11; have HE2 := Lib.hid ho11; have HB11 : Hid (Below w9.heap.size w9 w11) := Lib.hid (HB10.out.trans (hb11.mono HB10.out.size)); clear h11 ho11 hb11))
        have HE1 := Lib.hid (HE9.out.below HB11.out)
        have HR511 := Lib.hid (row_below HR59.out HB11.out)
        clear hal0
        obtain ⟨wo, hwo⟩ : ∃ wo, wo = wr := ⟨_, rfl⟩
        rw [← hwo] at HG HBG HE5
        go_loopw [13, 14] (fun v13 v14 wr => ∃ (j : Nat) (al : Bool), j ≤ m1 ∧ v13 = .bool al ∧ v14 = .int .i64 j ∧ Hid (AlikeTo Q Q' j al) ∧ Hid (Below w11.heap.size w11 wr)) (fun _ v14 _ => m1 - (intOf v14).toNat)
        case atStart => exact ⟨0, al0, by omega, rfl, rfl, HAL0, Lib.hid (Below.refl _ _)⟩
        case round =>
          obtain ⟨j, al, hj, rfl, rfl, HAL, HBW⟩ := hrel
          have j0 : (0 : Int) ≤ (j : Int) := by omega
          by_cases hjm : j < m1 ∧ al = true
          · as_aux_lemma =>
            obtain ⟨hjm, hal⟩ := hjm
            subst hal
            have hmm : m1 = m2 := by have := (HAL.out.1 rfl).1; rw [HM1.out, HM2.out] at this; exact this
            obtain ⟨s, hs⟩ : ∃ s, Q[j]? = some s := ⟨_, List.getElem?_eq_getElem (by rw [HM1.out]; exact hjm)⟩
            obtain ⟨s', hs'⟩ : ∃ s, Q'[j]? = some s := ⟨_, List.getElem?_eq_getElem (by rw [HM2.out]; omega)⟩
            obtain ⟨g1, rfl, hg1, hc1⟩ := (HE1.out.below HBW.out).reads (by rw [HV1.out, HM1.out]; omega)
            obtain ⟨g2, rfl, hg2, hc2⟩ := (HE2.out.below HBW.out).reads (by rw [HV2.out, HM2.out]; omega)
            obtain ⟨At1, ct1, hrt1, a0, a1, -, -⟩ := hc1 j s (by rw [HV1.out]; exact hs)
            obtain ⟨At2, ct2, hrt2, b0, b1, -, -⟩ := hc2 j s' (by rw [HV2.out]; exact hs')
            have HRT1 := Lib.hid hrt1
            have HRT2 := Lib.hid hrt2
            have HSS := Lib.hid hs
            have HSS' := Lib.hid hs'
            have j1 : (j : Int) < (m1 : Int) := by omega
            have j2 : (j : Int) < (m2 : Int) := by omega
            have HTL : Hid (s.m.ts.length ≤ maxLen) := Lib.hid (by have := (mayS_fit (HG.out.good.may s (List.mem_of_getElem? hs))).2.1; unfold maxLen; omega)
            clear hc1 hc2 hrt1 hrt2 hs hs' hmm
            by_cases hn : s.m.name = s'.m.name
            · have e0 : (s.m.name.toList == s'.m.name.toList) = true := by simp [hn]
              obtain ⟨v, hv⟩ : ∃ v : Bool, (v = true ↔ s.m.ts = s'.m.ts) := ⟨decide (s.m.ts = s'.m.ts), by simp⟩
              have HV := Lib.hid hv
              have HNX : Hid (AlikeTo Q Q' (j + 1) v) := Lib.hid (alike_next HAL.out HSS.out HSS'.out ⟨fun q => ⟨hn, hv.1 q⟩, fun q => hv.2 q.2⟩)
              clear hn hv
              go_wp2_with fail
              go_region_held3 (fun w' => (w'.cell? ⟨g1, j * 4, none⟩ = some (.string s.m.name) ∧ w'.cell? ⟨g2, j * 4, none⟩ = some (.string s'.m.name) ∧ w'.cell? ⟨g1, j * 4 + 1, none⟩ = some (.slice At1 s.m.ts.length ct1) ∧ w'.cell? ⟨g2, j * 4 + 1, none⟩ = some (.slice At2 s'.m.ts.length ct2)) ∧ Below wr.heap.size wr w')
                (first | assumption | exact ⟨⟨a0, b0, a1, b1⟩, (Below.refl _ _).drew⟩ | exact ⟨⟨a0, b0, a1, b1⟩, Below.refl _ _⟩ | exact keep4z (by assumption) ((Below.refl _ _).drew) | exact keep4z (by assumption) (by assumption))
                (first | (go_at_call 31; refine (rtexts_is At1 At2 s.m.ts s'.m.ts ct1 ct2 _ v _ (Lib.hid (HRT1.out.below (by first | exact (And.right (by assumption)) | exact (Below.refl _ _).drew | exact Below.refl _ _)).row.reads) (Lib.hid (HRT2.out.below (by first | exact (And.right (by assumption)) | exact (Below.refl _ _).drew | exact Below.refl _ _)).row.reads) (Nat.le_refl _) HTL.out HV).mono ?_; rintro e wt ⟨rfl, hbt⟩))
              all_goals
                rename_i hh
                have HHB := Lib.hid hh.2
                clear hh
                go_wp2_with fail
                go_roundw
                case rel => exact ⟨j + 1, v, by omega, rfl, by go_num, HNX, Lib.hid (HBW.out.trans (HHB.out.mono HBW.out.size))⟩
                case measure => (simp [intOf]; try omega)
            · have e0 : (s.m.name.toList == s'.m.name.toList) = false := bytes_off hn
              have HNX : Hid (AlikeTo Q Q' (j + 1) false) := Lib.hid (alike_next HAL.out HSS.out HSS'.out ⟨(fun q => by cases q), (fun q => absurd q.1 hn)⟩)
              clear hn
              go_wp2_with fail
              go_quiet (fail)
              go_wp2_with fail
              go_roundw
              case rel => exact ⟨j + 1, false, by omega, rfl, by go_num, HNX, Lib.hid (HBW.out.trans ((drewN_below (Below.refl _ _) _).mono HBW.out.size))⟩
              case measure => (simp [intOf]; try omega)
          · as_aux_lemma =>
            have hjd : (j < m1 ∧ al = false) ∨ (¬ j < m1) := by
              by_cases q : j < m1
              · exact .inl ⟨q, by cases al; rfl; exact absurd ⟨q, rfl⟩ hjm⟩
              · exact .inr q
            have HALS : Hid (G' = G → al = true) := Lib.hid (fun e => alike_end HAL.out (HSF.out.same e))
            have p0 := (cell_of_row _ _ 0 _ _ _ (row_below HR511.out HBW.out)).trans rfl
            have g3 : wrap64 (G + 1) = G + 1 := by have := HG.out.good.gen; have := HGK.out; simp only [wrap64]; omega
            have HGM := Lib.hid (HG11.out.below HBW.out)
            have HKB : Hid (kd = 1 → G' = G) := Lib.hid HSF.out.beat
            have hk60' : k + 1 ≤ 60 := by omega
            have hN'' : N' ≤ k + 1 := by have := HNN.out; omega
            have hk' : k + 1 ≤ n0 := by omega
            rcases HSF.out.up with hup | hup
            · have hal : al = true := HALS.out hup
              have f1 : ¬ G' < G := by omega
              have f2 : ¬ G + 1 < G' := by omega
              have f3 : (G' == G) = true := by simpa using hup
              have f4 : ¬ j < m1 := by
                rcases hjd with ⟨_, q⟩ | q
                · rw [hal] at q; cases q
                · exact q
              have f5 : ¬ (j : Int) < (m1 : Int) := by omega
              have hGk' : G' ≤ (k + 1 : Nat) := by have := HGG.out; omega
              subst hal
              clear hup hjd hjm
              go_wp2_with fail
              go_roundw
              case rel => exact ⟨k + 1, N', G', r', Q', hk', hk60', by go_num, hN'', hGk', HGM⟩
              case measure => (simp [intOf]; try omega)
            · have f1 : ¬ G' < G := by omega
              have f2 : ¬ G + 1 < G' := by omega
              have f3 : (G' == G) = false := by simp; omega
              have hGk' : G' ≤ (k + 1 : Nat) := by have := HGG.out; omega
              have HC1 : Hid ((kd == 1) = false) := Lib.hid (by
                have := HKB.out
                simp
                intro e
                have := this e
                omega)
              have cc := HC1.out
              clear hup
              rcases hjd with ⟨q1, rfl⟩ | q1
              · have f5 : (j : Int) < (m1 : Int) := by omega
                clear hjm
                go_wp2_with fail
                all_goals
                  go_roundw
                  case rel => exact ⟨k + 1, N', G', r', Q', hk', hk60', by go_num, hN'', hGk', HGM⟩
                  case measure => (simp [intOf]; try omega)
              · have f5 : ¬ (j : Int) < (m1 : Int) := by omega
                clear hjm
                cases al
                all_goals
                  go_wp2_with fail
                  all_goals
                    go_roundw
                    case rel => exact ⟨k + 1, N', G', r', Q', hk', hk60', by go_num, hN'', hGk', HGM⟩
                    case measure => (simp [intOf]; try omega)
      · go_upto_region 20 with (fail)
        obtain ⟨w9, hw9⟩ : ∃ w9, w9 = w8 := ⟨_, rfl⟩
        rw [← hw9]
        have HO9 : Hid (Only [g, b] w8 w9) := Lib.hid (by rw [hw9]; exact Only.refl _ _)
        obtain ⟨N', G', r', Q', hN', HX9, HSF⟩ : ∃ N' G' r' Q', N' ≤ N + 1 ∧ Hid (GM W w9 g b N' G' r' Q') ∧ Hid (StepF kd G Q G' Q') := ⟨N, G, rg, Q, by omega, Lib.hid (by rw [hw9]; exact HG8.out), Lib.hid (step_none kd G Q)⟩
        clear hw9
        as_aux_lemma =>
        have HR59 := Lib.hid (row_only HR58.out HO9.out (by have := HLT5.out; simp; omega))
        have HE9 := Lib.hid (HE8.out.only HO9.out (fun k hk => by have := HL7.out; simp at hk; omega))
        obtain ⟨m2, hm2⟩ : ∃ m, Q'.length = m := ⟨_, rfl⟩
        have HM2 := Lib.hid hm2
        have hm28 : m2 ≤ 8 := by rw [← hm2]; exact HX9.out.good.len
        obtain ⟨al0, hal0⟩ : ∃ al, ((m1 : Int) == (m2 : Int)) = al := ⟨_, rfl⟩
        have HAL0 : Hid (AlikeTo Q Q' 0 al0) := Lib.hid (alike_start Q Q' al0 (by rw [← hal0, HM1.out, hm2, Bool.eq_iff_iff]; simp; omega))
        clear hm2 p0 p5 p6 p7 t0 t1 t2 t3
        go_wp2_with (first
          | (go_at_call 25; refine (m_gen HX9).mono ?_; rintro e w10 ⟨rfl, h10, hb10⟩; have HG10 := Lib.hid h10; have HB10 := Lib.hid hb10; clear h10 hb10)
          | (go_at_call 26; refine (m_seats m2 HG10 HM2).mono ?_; rintro e w11 ⟨A11, d11, vs2, rfl, HV2, ho11, h11, hb11⟩; have HG11 := Lib.hid h11; have HE2 := Lib.hid ho11; have HB11 : Hid (Below w9.heap.size w9 w11) := Lib.hid (HB10.out.trans (hb11.mono HB10.out.size)); clear h11 ho11 hb11))
        have HE1 := Lib.hid (HE9.out.below HB11.out)
        have HR511 := Lib.hid (row_below HR59.out HB11.out)
        clear hal0
        obtain ⟨wo, hwo⟩ : ∃ wo, wo = wr := ⟨_, rfl⟩
        rw [← hwo] at HG HBG HE5
        go_loopw [13, 14] (fun v13 v14 wr => ∃ (j : Nat) (al : Bool), j ≤ m1 ∧ v13 = .bool al ∧ v14 = .int .i64 j ∧ Hid (AlikeTo Q Q' j al) ∧ Hid (Below w11.heap.size w11 wr)) (fun _ v14 _ => m1 - (intOf v14).toNat)
        case atStart => exact ⟨0, al0, by omega, rfl, rfl, HAL0, Lib.hid (Below.refl _ _)⟩
        case round =>
          obtain ⟨j, al, hj, rfl, rfl, HAL, HBW⟩ := hrel
          have j0 : (0 : Int) ≤ (j : Int) := by omega
          by_cases hjm : j < m1 ∧ al = true
          · as_aux_lemma =>
            obtain ⟨hjm, hal⟩ := hjm
            subst hal
            have hmm : m1 = m2 := by have := (HAL.out.1 rfl).1; rw [HM1.out, HM2.out] at this; exact this
            obtain ⟨s, hs⟩ : ∃ s, Q[j]? = some s := ⟨_, List.getElem?_eq_getElem (by rw [HM1.out]; exact hjm)⟩
            obtain ⟨s', hs'⟩ : ∃ s, Q'[j]? = some s := ⟨_, List.getElem?_eq_getElem (by rw [HM2.out]; omega)⟩
            obtain ⟨g1, rfl, hg1, hc1⟩ := (HE1.out.below HBW.out).reads (by rw [HV1.out, HM1.out]; omega)
            obtain ⟨g2, rfl, hg2, hc2⟩ := (HE2.out.below HBW.out).reads (by rw [HV2.out, HM2.out]; omega)
            obtain ⟨At1, ct1, hrt1, a0, a1, -, -⟩ := hc1 j s (by rw [HV1.out]; exact hs)
            obtain ⟨At2, ct2, hrt2, b0, b1, -, -⟩ := hc2 j s' (by rw [HV2.out]; exact hs')
            have HRT1 := Lib.hid hrt1
            have HRT2 := Lib.hid hrt2
            have HSS := Lib.hid hs
            have HSS' := Lib.hid hs'
            have j1 : (j : Int) < (m1 : Int) := by omega
            have j2 : (j : Int) < (m2 : Int) := by omega
            have HTL : Hid (s.m.ts.length ≤ maxLen) := Lib.hid (by have := (mayS_fit (HG.out.good.may s (List.mem_of_getElem? hs))).2.1; unfold maxLen; omega)
            clear hc1 hc2 hrt1 hrt2 hs hs' hmm
            by_cases hn : s.m.name = s'.m.name
            · have e0 : (s.m.name.toList == s'.m.name.toList) = true := by simp [hn]
              obtain ⟨v, hv⟩ : ∃ v : Bool, (v = true ↔ s.m.ts = s'.m.ts) := ⟨decide (s.m.ts = s'.m.ts), by simp⟩
              have HV := Lib.hid hv
              have HNX : Hid (AlikeTo Q Q' (j + 1) v) := Lib.hid (alike_next HAL.out HSS.out HSS'.out ⟨fun q => ⟨hn, hv.1 q⟩, fun q => hv.2 q.2⟩)
              clear hn hv
              go_wp2_with fail
              go_region_held3 (fun w' => (w'.cell? ⟨g1, j * 4, none⟩ = some (.string s.m.name) ∧ w'.cell? ⟨g2, j * 4, none⟩ = some (.string s'.m.name) ∧ w'.cell? ⟨g1, j * 4 + 1, none⟩ = some (.slice At1 s.m.ts.length ct1) ∧ w'.cell? ⟨g2, j * 4 + 1, none⟩ = some (.slice At2 s'.m.ts.length ct2)) ∧ Below wr.heap.size wr w')
                (first | assumption | exact ⟨⟨a0, b0, a1, b1⟩, (Below.refl _ _).drew⟩ | exact ⟨⟨a0, b0, a1, b1⟩, Below.refl _ _⟩ | exact keep4z (by assumption) ((Below.refl _ _).drew) | exact keep4z (by assumption) (by assumption))
                (first | (go_at_call 31; refine (rtexts_is At1 At2 s.m.ts s'.m.ts ct1 ct2 _ v _ (Lib.hid (HRT1.out.below (by first | exact (And.right (by assumption)) | exact (Below.refl _ _).drew | exact Below.refl _ _)).row.reads) (Lib.hid (HRT2.out.below (by first | exact (And.right (by assumption)) | exact (Below.refl _ _).drew | exact Below.refl _ _)).row.reads) (Nat.le_refl _) HTL.out HV).mono ?_; rintro e wt ⟨rfl, hbt⟩))
              all_goals
                rename_i hh
                have HHB := Lib.hid hh.2
                clear hh
                go_wp2_with fail
                go_roundw
                case rel => exact ⟨j + 1, v, by omega, rfl, by go_num, HNX, Lib.hid (HBW.out.trans (HHB.out.mono HBW.out.size))⟩
                case measure => (simp [intOf]; try omega)
            · have e0 : (s.m.name.toList == s'.m.name.toList) = false := bytes_off hn
              have HNX : Hid (AlikeTo Q Q' (j + 1) false) := Lib.hid (alike_next HAL.out HSS.out HSS'.out ⟨(fun q => by cases q), (fun q => absurd q.1 hn)⟩)
              clear hn
              go_wp2_with fail
              go_quiet (fail)
              go_wp2_with fail
              go_roundw
              case rel => exact ⟨j + 1, false, by omega, rfl, by go_num, HNX, Lib.hid (HBW.out.trans ((drewN_below (Below.refl _ _) _).mono HBW.out.size))⟩
              case measure => (simp [intOf]; try omega)
          · as_aux_lemma =>
            have hjd : (j < m1 ∧ al = false) ∨ (¬ j < m1) := by
              by_cases q : j < m1
              · exact .inl ⟨q, by cases al; rfl; exact absurd ⟨q, rfl⟩ hjm⟩
              · exact .inr q
            have HALS : Hid (G' = G → al = true) := Lib.hid (fun e => alike_end HAL.out (HSF.out.same e))
            have p0 := (cell_of_row _ _ 0 _ _ _ (row_below HR511.out HBW.out)).trans rfl
            have g3 : wrap64 (G + 1) = G + 1 := by have := HG.out.good.gen; have := HGK.out; simp only [wrap64]; omega
            have HGM := Lib.hid (HG11.out.below HBW.out)
            have HKB : Hid (kd = 1 → G' = G) := Lib.hid HSF.out.beat
            have hk60' : k + 1 ≤ 60 := by omega
            have hN'' : N' ≤ k + 1 := by have := HNN.out; omega
            have hk' : k + 1 ≤ n0 := by omega
            rcases HSF.out.up with hup | hup
            · have hal : al = true := HALS.out hup
              have f1 : ¬ G' < G := by omega
              have f2 : ¬ G + 1 < G' := by omega
              have f3 : (G' == G) = true := by simpa using hup
              have f4 : ¬ j < m1 := by
                rcases hjd with ⟨_, q⟩ | q
                · rw [hal] at q; cases q
                · exact q
              have f5 : ¬ (j : Int) < (m1 : Int) := by omega
              have hGk' : G' ≤ (k + 1 : Nat) := by have := HGG.out; omega
              subst hal
              clear hup hjd hjm
              go_wp2_with fail
              go_roundw
              case rel => exact ⟨k + 1, N', G', r', Q', hk', hk60', by go_num, hN'', hGk', HGM⟩
              case measure => (simp [intOf]; try omega)
            · have f1 : ¬ G' < G := by omega
              have f2 : ¬ G + 1 < G' := by omega
              have f3 : (G' == G) = false := by simp; omega
              have hGk' : G' ≤ (k + 1 : Nat) := by have := HGG.out; omega
              have HC1 : Hid ((kd == 1) = false) := Lib.hid (by
                have := HKB.out
                simp
                intro e
                have := this e
                omega)
              have cc := HC1.out
              clear hup
              rcases hjd with ⟨q1, rfl⟩ | q1
              · have f5 : (j : Int) < (m1 : Int) := by omega
                clear hjm
                go_wp2_with fail
                all_goals
                  go_roundw
                  case rel => exact ⟨k + 1, N', G', r', Q', hk', hk60', by go_num, hN'', hGk', HGM⟩
                  case measure => (simp [intOf]; try omega)
              · have f5 : ¬ (j : Int) < (m1 : Int) := by omega
                clear hjm
                cases al
                all_goals
                  go_wp2_with fail
                  all_goals
                    go_roundw
                    case rel => exact ⟨k + 1, N', G', r', Q', hk', hk60', by go_num, hN'', hGk', HGM⟩
                    case measure => (simp [intOf]; try omega)
    · have hd : n0 ≤ k ∨ (k < n0 ∧ 60 ≤ k) := by omega
      rcases hd with hd | ⟨hd1, hd2⟩
      all_goals
        go_wp2_with (go_at_call 28; refine (fixed11_any _).mono ?_; rintro e w10 ⟨rfl, hb10⟩; have H10 := Lib.hid (HG.out.below hb10); clear hb10)
        go_ret
        exact ⟨rfl, H10.out.bel⟩

set_option maxRecDepth 100000 in
set_option maxHeartbeats 1000000 in
theorem lifted (os : Os) (started : os.Started) (H : Type) (enc : TypeId × Value → H) :
    ReturnsInHanded {} Try.checked os 5 .any (Rows.groupGensSpec.pre6 enc Try.prog Try.f5 Rows.groupGensRow.domain false) (Rows.groupGensSpec.post enc Try.prog Try.f5 false true false false) := by
  refine returnsInHanded_of_change (C := Try.checked) own started (by kernel_rfl) Try.func5
    (ChangeSpec.witness6 (enc := enc) (C := Try.checked) false ⟨#[], #[.slice none 0 0], []⟩ 8 (by kernel_rfl) (by kernel_rfl) (by kernel_rfl) (by kernel_rfl)) ?_
  intro W base args ds gs before hval0 hW _ _
  have hval : ∀ (j : Nat) t v, Try.f5.params[j]? = some t → args[j]? = some v → Value.okWide Try.prog W .any base t v := hval0
  have hW' := hW
  obtain ⟨p, q, hA0, hV, rfl, hfz, hnd⟩ := hW
  have hA : DataW.TrodAll enc Try.prog W 0 (fun _ => true) true Try.f5.params.toList args.toList ds p := hA0
  rw [Try.params5] at hA hval
  obtain ⟨v0, vs0, d0, ds0, p0, q0, hargs, rfl, rfl, h0, r0⟩ := trodAll_cons hA
  obtain ⟨rfl, rfl, rfl⟩ := trodAll_nil r0
  obtain rfl : args = #[v0] := by cases args; simp_all
  obtain ⟨rfl, rfl⟩ := trodVars_none hV
  have k0 := h0
  have lt0 : ∀ x ∈ p0, x.block < W.heap.size := by obtain ⟨m, hm⟩ := k0; exact DataW.trod_lt m _ _ _ hm
  obtain ⟨A0, l0, c0, e0, R0, S0, Z0⟩ := L11.open_script (hval 0 43 v0 rfl rfl) h0
  subst e0
  clear hA0 hval0
  refine (walk W A0 l0 c0 R0 S0 Z0).mono fun e W' ⟨he, bel⟩ => ?_
  subst he
  exact ⟨_, rfl, _, _, _, [], _, [], hW', trodAll_mk1 (shut_bool Try.underlying4 _), (trodAll_cons_mk (Below.trod laidOut (by kernel_rfl) (of_decide_eq_true (by kernel_rfl)) k0 bel lt0) trodAll_mk0), rfl, bel.frame _, fun h => by cases h⟩

theorem over : Rows.groupGensRow.holds Try.pinned (OpenSpec.ofChange Rows.groupGensSpec) :=
  OpenClaim.holds_of_wide 5 Try.f5 rfl rfl rfl rfl rfl rfl rfl ⟨rfl, rfl, rfl, rfl, rfl⟩ rfl rfl rfl rfl rfl (by kernel_rfl) Try.func5 (by kernel_rfl)
    (of_decide_eq_true (by kernel_rfl)) (by unfold Func.isWrapper; first | (rw [if_pos (by decide +kernel)]; kernel_rfl) | (rw [if_neg (by decide +kernel)]; exact ⟨rfl, rfl⟩))
    (fun os started H enc _ => lifted os started H enc)

/-- the statement -/
theorem proved : Rows.GroupGensSaid :=
  over
#print axioms proved
end Go.Proofs.Ytidgifnnkaheeaa.groupGens
