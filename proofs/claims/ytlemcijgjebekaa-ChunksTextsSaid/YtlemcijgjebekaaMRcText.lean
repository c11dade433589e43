/-
  The document's text of a segment.
-/
import Derived.Test.YtlemcijgjebekaaMChRead
import Derived.Laws.AppendOwnNone
import Derived.Deep.DeepCutAuto
import Derived.Deep.RegionHeld3
import Derived.Test.YtlemcijgjebekaaMRcSmall
import Derived.Test.YtlemcijgjebekaaRecRget
import Derived.Test.YtlemcijgjebekaaMChFound
namespace Go.Proofs.Ytlemcijgjebekaa.L7
open Go.RowKit
open L3 L4 L5

def OwnsF (w : World) (A : Option Addr) (n cap : Nat) (l : List L4.Fd) : Prop := ∃ base, w.ownsRow base 43 5 (.slice A n cap) n (rowF l)
theorem OwnsF.below {w w' : World} {A : Option Addr} {n cap : Nat} {l : List L4.Fd} (h : OwnsF w A n cap l) (b : Below w.heap.size w w') : OwnsF w' A n cap l := by
  obtain ⟨base, h⟩ := h
  exact ⟨base, own_below h b⟩
theorem OwnsF.reads {w : World} {A : Option Addr} {n cap : Nat} {l : List L4.Fd} (h : OwnsF w A n cap l) (hn : l.length = n) : ReadsF w w.heap.size A l := by
  obtain ⟨base, h⟩ := h
  subst hn
  exact ReadsF.own h
theorem OwnsF.nil {w : World} {n cap : Nat} {l : List L4.Fd} (h : OwnsF w none n cap l) : n = 0 ∧ cap = 0 := by
  obtain ⟨base, h⟩ := h
  rcases h.2 with ⟨e, _⟩ | ⟨g, cap', cur, e, _⟩
  · injection e with _ e1 e2; exact ⟨e1, e2⟩
  · injection e with e _ _; cases e
theorem OwnsF.head {w : World} {a : Addr} {n cap : Nat} {l : List L4.Fd} (h : OwnsF w (some a) n cap l) : ∃ b base, a = ⟨b, 0, none⟩ ∧ w.ownsRow base 43 5 (.slice (some ⟨b, 0, none⟩) n cap) n (rowF l) := by
  obtain ⟨base, h⟩ := h
  rcases h.2 with ⟨e, _⟩ | ⟨g, cap', cur, e, _⟩
  · cases e
  · injection e with e _ _
    injection e with e
    subst e
    exact ⟨g, base, rfl, h⟩
set_option maxRecDepth 100000 in
set_option maxHeartbeats 1000000 in
theorem rload_nil (base next : Int) (w : World) (HX : Hid (loadE base next [] = 0)) :
    Calls Try.prog 83 #[.int .i64 base, .int .i64 next, .slice none 0 0] w fun e w' => ∃ g, e = .returned (.tuple #[.pointer (some ⟨g, 0, none⟩), .int .i64 0]) ∧ Below w.heap.size w w' := by
  obtain ⟨i0, hi0, hz0, hz1, hz2⟩ := info_parts fdInfo
  have hc : numB base = true ∧ numB next = true ∧ base ≤ next := by
    have h := HX.out
    unfold loadE at h
    split at h
    · rename_i hc
      simp only [Bool.and_eq_true, decide_eq_true_eq] at hc
      exact ⟨hc.1.1.1.1, hc.1.1.1.2, hc.1.1.2⟩
    · simp at h
  obtain ⟨b1, b2, h3⟩ := hc
  have B1 := Lib.hid b1
  have B2 := Lib.hid b2
  have h3' : ¬ next < base := by omega
  clear b1 b2 h3
  go_enter Try.func83, Try.ntmps83
  go_wp2_with (go_at_call 122; (first | (with_reducible refine (num_is base _ _ B1).mono ?_) | (with_reducible refine (num_is next _ _ B2).mono ?_)); rintro e w' ⟨rfl, rfl⟩)
  go_loop [8] (fun i => i = .int .i64 0) (fun _ => 0)
  case atStart => rfl
  case round =>
    obtain rfl := hrel
    go_wp2_with fail
    go_loop [9] (fun i => i = .int .i64 0) (fun _ => 0)
    case atStart => rfl
    case round =>
      obtain rfl := hrel
      go_wp2_with fail
      go_ret2
      exact ⟨⟨_, rfl⟩, two_box _ _⟩
theorem rload_fine (base next : Int) (A : Option Addr) (l : List L4.Fd) (n cap : Nat) (w : World) (ho : Hid (OwnsF w A n cap l)) (hn : l.length = n) (hl : n ≤ maxLen) (hs : Hid (∀ f ∈ l, f.r.key.size ≤ maxLen ∧ f.r.val.size ≤ maxLen)) (HX : Hid (loadE base next l = 0)) :
    Calls Try.prog 83 #[.int .i64 base, .int .i64 next, .slice A n cap] w fun e w' => ∃ g, e = .returned (.tuple #[.pointer (some ⟨g, 0, none⟩), .int .i64 0]) ∧ Below w.heap.size w w' := by
  cases A with
  | none =>
    obtain ⟨rfl, rfl⟩ := ho.out.nil
    obtain rfl : l = [] := List.length_eq_zero_iff.1 hn
    exact rload_nil base next w HX
  | some a =>
    obtain ⟨b, base0, rfl, h⟩ := ho.out.head
    have hr := ho.out.reads hn
    subst hn
    refine (rload_is base next _ l cap w.heap.size 0 w (Lib.hid hr) (Nat.le_refl _) hl hs HX (row_at h)).mono ?_
    rintro e w1 ⟨hb1, ⟨q, _⟩ | ⟨_, g, A', c', he, _⟩⟩
    · exact absurd rfl q
    · exact ⟨g, he, hb1⟩
theorem rload_bad (base next : Int) (A : Option Addr) (l : List L4.Fd) (n cap : Nat) (x : Int) (w : World) (ho : Hid (OwnsF w A n cap l)) (hn : l.length = n) (hl : n ≤ maxLen) (hs : Hid (∀ f ∈ l, f.r.key.size ≤ maxLen ∧ f.r.val.size ≤ maxLen)) (HX : Hid (loadE base next l = x)) (hx : x ≠ 0) :
    Calls Try.prog 83 #[.int .i64 base, .int .i64 next, .slice A n cap] w fun e w' => e = .returned (.tuple #[.pointer none, .int .i64 x]) ∧ Below w.heap.size w w' := by
  cases A with
  | none =>
    obtain ⟨rfl, rfl⟩ := ho.out.nil
    obtain rfl : l = [] := List.length_eq_zero_iff.1 hn
    have hc : (numB base = false ∨ numB next = false ∨ next < base ∨ 64 < ([] : List L4.Fd).length) ∧ x = 1 := by
      have h := HX.out
      unfold loadE at h
      split at h
      · exact absurd h.symm hx
      · rename_i hc
        refine ⟨?_, h.symm⟩
        cases h1 : numB base
        · exact .inl rfl
        · cases h2 : numB next
          · exact .inr (.inl rfl)
          · right; right; left
            simp [h1, h2, riseB] at hc
            omega
    obtain ⟨hc, rfl⟩ := hc
    exact rload_num base next none [] 0 w (by simp) (Lib.hid hc)
  | some a =>
    obtain ⟨b, base0, rfl, h⟩ := ho.out.head
    have hr := ho.out.reads hn
    subst hn
    refine (rload_is base next _ l cap w.heap.size x w (Lib.hid hr) (Nat.le_refl _) hl hs HX (row_at h)).mono ?_
    rintro e w1 ⟨hb1, ⟨_, he⟩ | ⟨q, _⟩⟩
    · exact ⟨he, hb1⟩
    · exact absurd q hx
set_option maxRecDepth 100000 in
set_option maxHeartbeats 2000000 in
theorem rtext_no (base next : Int) (A : Option Addr) (l : List L4.Fd) (n cap : Nat) (x : Int) (w : World) (ho : Hid (OwnsF w A n cap l)) (hn : l.length = n) (hl : n ≤ maxLen) (hs : Hid (∀ f ∈ l, f.r.key.size ≤ maxLen ∧ f.r.val.size ≤ maxLen)) (HX : Hid (loadE base next l = x)) (hx : x ≠ 0) :
    Calls Try.prog 37 #[.agg #[.int .i64 base, .int .i64 next, .slice A n cap]] w fun e w' => e = .returned (.tuple #[.string ⟨#[]⟩, .int .i64 x]) ∧ Below w.heap.size w w' := by
  have hx' : (x != 0) = true := by simpa using hx
  have HXN := Lib.hid hx
  clear hx
  go_enter Try.func37, Try.ntmps37
  go_wp2_with (go_at_call 83; refine (rload_bad base next A l n cap x _ (Lib.hid (ho.out.below (one_box _))) hn hl hs HX HXN.out).mono ?_; rintro e w1 ⟨rfl, hb1⟩)
  go_ret2
  exact ⟨rfl, (one_box _).trans (hb1.mono (by simp))⟩
theorem kept7 {w w' : World} {k : Nat} {o : Obj} (h : w.heap[k]? = some o) (b : Below w.heap.size w w') : w'.heap[k]? = some o := (b.block _ (Array.getElem?_eq_some_iff.1 h).1).trans h
theorem keep7 {w w1 w2 : World} {p1 p2 p3 p4 p5 p6 : Addr} {v1 v2 v3 v4 v5 v6 : Value} (h : (w1.cell? p1 = some v1 ∧ w1.cell? p2 = some v2 ∧ w1.cell? p3 = some v3 ∧ w1.cell? p4 = some v4 ∧ w1.cell? p5 = some v5 ∧ w1.cell? p6 = some v6) ∧ Below w.heap.size w w1) (hb : Below w1.heap.size w1 w2) : (w2.cell? p1 = some v1 ∧ w2.cell? p2 = some v2 ∧ w2.cell? p3 = some v3 ∧ w2.cell? p4 = some v4 ∧ w2.cell? p5 = some v5 ∧ w2.cell? p6 = some v6) ∧ Below w.heap.size w w2 :=
  ⟨⟨keepq h.1.1 hb, keepq h.1.2.1 hb, keepq h.1.2.2.1 hb, keepq h.1.2.2.2.1 hb, keepq h.1.2.2.2.2.1 hb, keepq h.1.2.2.2.2.2 hb⟩, acc h.2 hb⟩
theorem keep3 {w w1 w2 : World} {p1 p2 p3 : Addr} {v1 v2 v3 : Value} (h : (w1.cell? p1 = some v1 ∧ w1.cell? p2 = some v2 ∧ w1.cell? p3 = some v3) ∧ Below w.heap.size w w1) (hb : Below w1.heap.size w1 w2) : (w2.cell? p1 = some v1 ∧ w2.cell? p2 = some v2 ∧ w2.cell? p3 = some v3) ∧ Below w.heap.size w w2 :=
  ⟨⟨keepq h.1.1 hb, keepq h.1.2.1 hb, keepq h.1.2.2 hb⟩, acc h.2 hb⟩
set_option maxRecDepth 100000 in
set_option maxHeartbeats 8000000 in
theorem rtext_ok (base next : Nat) (A : Option Addr) (l : List L4.Fd) (n cap : Nat) (s : ByteArray) (w : World) (ho : Hid (OwnsF w A n cap l)) (hn : l.length = n) (HX : Hid (loadE base next l = 0)) (HS : Hid (textS base next l = s)) :
    Calls Try.prog 37 #[.agg #[.int .i64 base, .int .i64 next, .slice A n cap]] w fun e w' => e = .returned (.tuple #[.string s, .int .i64 0]) ∧ Below w.heap.size w w' := by
  have G := load_good HX.out
  have hl : n ≤ 64 := by rw [← hn]; exact G.len
  have hb0 : base ≤ 1099511627776 := by have := G.bn; have := G.n1; omega
  have hn0 : next ≤ 1099511627776 := by have := G.n1; omega
  have hs : Hid (∀ f ∈ l, f.r.key.size ≤ maxLen ∧ f.r.val.size ≤ maxLen) := Lib.hid (fun f hf => by have := G.small f hf; unfold maxLen; omega)
  have HG := Lib.hid G
  obtain ⟨p0, hp0⟩ : ∃ x, V.put base = x := ⟨_, rfl⟩
  obtain ⟨p1, hp1⟩ : ∃ x, V.put next = x := ⟨_, rfl⟩
  obtain ⟨p2, hp2⟩ : ∃ x, V.put n = x := ⟨_, rfl⟩
  have s0 : p0.size ≤ 10 := by rw [← hp0, V.put_size]; exact V.puts_len _ (by omega)
  have s1 : p1.size ≤ 10 := by rw [← hp1, V.put_size]; exact V.puts_len _ (by omega)
  have s2 : p2.size ≤ 10 := by rw [← hp2, V.put_size]; exact V.puts_len _ (by omega)
  have HX3 : Hid (three base next n = p0 ++ p1 ++ p2) := Lib.hid (by unfold three; rw [hp0, hp1, hp2])
  have HP0 := Lib.hid hp0
  have HP1 := Lib.hid hp1
  have HP2 := Lib.hid hp2
  have v0 : IntKind.u64.wrap (base : Int) = base := IntWalk.u64_in _ (by omega)
  have v1 : IntKind.u64.wrap (next : Int) = next := IntWalk.u64_in _ (by omega)
  have v2 : IntKind.u64.wrap (n : Int) = n := IntWalk.u64_in _ (by omega)
  have hcat0 := fun W => run_string_add_sum (P := Try.prog) W p0 p1 (by omega)
  have hcat1 := fun W => run_string_add_sum (P := Try.prog) W (p0 ++ p1) p2 (by rw [ByteArray.size_append]; omega)
  have HN := Lib.hid hn
  clear hn hp0 hp1 hp2 G
  go_enter Try.func37, Try.ntmps37
  go_upto_region 4 with (go_at_call 83; refine (rload_fine base next A l n cap _ (Lib.hid (ho.out.below (one_box _))) HN.out (by unfold maxLen; omega) hs HX).mono ?_; rintro e w1 ⟨g, rfl, hb1⟩)
  have HR1 : Hid (w1.heap[w.heap.size]? = some (.cells #[.int .i64 base, .int .i64 next, .slice A n cap] 53 (0, 0))) := Lib.hid ((hb1.block _ (by simp)).trans (heap_alloc_new _ _))
  have HB1 : Hid (Below w.heap.size w w1) := Lib.hid ((one_box _).trans (hb1.mono (by simp)))
  have HO1 := Lib.hid ((ho.out.below (one_box (.cells #[.int .i64 base, .int .i64 next, .slice A n cap] 53))).below hb1)
  clear hb1
  obtain ⟨c0, c1, c2, _, _, _⟩ := seg_rows HR1.out
  go_cut [6] (fun tv wc => tv = .string (p0 ++ p1 ++ p2) ∧ Below w1.heap.size w1 wc)
  case first =>
    go_region_held3 (fun w' => (w'.cell? ⟨w.heap.size, 0, none⟩ = some (.int .i64 base) ∧ w'.cell? ⟨w.heap.size, 1, none⟩ = some (.int .i64 next) ∧ w'.cell? ⟨w.heap.size, 2, none⟩ = some (.slice A n cap)) ∧ Below w1.heap.size w1 w')
      (first | assumption | exact ⟨⟨c0, c1, c2⟩, (Below.refl _ _).drew⟩ | exact (Below.refl _ _).drew | exact keep3 (by assumption) (by assumption) | exact keep3 (by assumption) ((Below.refl _ _).drew) | exact keep3 (keep3 (by assumption) ((Below.refl _ _).drew)) (by assumption))
      (first
        | (go_at_call 90; (with_reducible refine (vrput_is base p0 _ (by omega) HP0).mono ?_); rintro e w2 ⟨rfl, hb2⟩)
        | (go_at_call 90; (with_reducible refine (vrput_is next p1 _ (by omega) HP1).mono ?_); rintro e w2 ⟨rfl, hb2⟩)
        | (go_at_call 90; (with_reducible refine (vrput_is n p2 _ (by omega) HP2).mono ?_); rintro e w2 ⟨rfl, hb2⟩))
    all_goals
      rename_i hh
      go_wp2_with fail
      go_meet
      exact ⟨rfl, hh.2⟩
  case rest =>
    obtain ⟨rfl, hb2⟩ := hcut
    have HB2 := Lib.hid hb2
    obtain ⟨x, hx⟩ : ∃ x, p0 ++ p1 ++ p2 = x := ⟨_, rfl⟩
    have x1 : x.size ≤ 30 := by rw [← hx, ByteArray.size_append, ByteArray.size_append]; omega
    have HXX : Hid (three base next n = x) := Lib.hid (HX3.out.trans hx)
    rw [hx]
    have c0' := keepq c0 hb2
    clear hx hb2 hcat0 hcat1 v0 v1 v2 c0 c1 c2 HP0 HP1 HP2
    go_wp2_with fail
    clear c0'
    go_loopw [6, 7, 8] (fun tv lv iv wr => ∃ (k : Nat) (a : Int) (t : ByteArray), k ≤ n ∧ iv = .int .i64 k ∧ lv = .int .i64 a ∧ tv = .string t ∧ 0 ≤ a ∧ a ≤ 1099511627777 ∧ t.size ≤ 30 + k * 610 ∧ Hid (lastO base (l.take k) = a) ∧ Hid (x ++ segL base (l.take k) = t) ∧ Hid (Below w1.heap.size w1 wr)) (fun _ _ iv _ => n - (intOf iv).toNat)
    case atStart => exact ⟨0, base, x, by omega, rfl, rfl, rfl, by omega, by omega, by omega, Lib.hid rfl, Lib.hid (app_empty x), HB2⟩
    case round =>
      obtain ⟨k, a, t, hk, rfl, rfl, rfl, ha0, ha1, ht, HA, HT, HB⟩ := hrel
      obtain ⟨c0, c1, c2, _, _, _⟩ := seg_rows (kept7 HR1.out HB.out)
      have k0 : (0 : Int) ≤ (k : Int) := by omega
      by_cases hlt : k < n
      · have k1 : (k : Int) < (n : Int) := by omega
        obtain ⟨ga, rfl, hga, hcells⟩ := ((HO1.out.below HB.out).reads HN.out) (by rw [HN.out]; omega)
        obtain ⟨⟨o, ⟨hk', key, tb, val⟩⟩, hf⟩ : ∃ f, l[k]? = some f := ⟨_, List.getElem?_eq_getElem (by rw [HN.out]; omega)⟩
        obtain ⟨d0, d1, d2, d3, d4⟩ := hcells k _ hf
        dsimp only at d0 d1 d2 d3 d4
        have hmem := List.mem_of_getElem? hf
        have hchk : chk hk' key tb val = 0 := HG.out.chk _ hmem
        obtain ⟨q1, q2, q3⟩ := rise_last HG.out.rise hf
        dsimp only at q2 q3
        rw [HA.out] at q1 q2
        have hn1 := HG.out.n1
        have o0 : 0 ≤ o := by omega
        have o1 : o ≤ 1099511627776 := by omega
        obtain ⟨dl, hdl⟩ : ∃ dl : Nat, o - a = (dl : Int) := ⟨(o - a).toNat, by omega⟩
        have dl1 : dl ≤ 1099511627776 := by omega
        obtain ⟨p, hp⟩ : ∃ p, putT hk' key tb val = p := ⟨_, rfl⟩
        have hps : p.size ≤ 600 := by rw [← hp]; exact putT_size _ _ _ _
        obtain ⟨v, hv⟩ : ∃ v, V.put dl = v := ⟨_, rfl⟩
        have hvs : v.size ≤ 10 := by rw [← hv, V.put_size]; exact V.puts_len _ (by omega)
        have h3s : (t ++ (v ++ p)).size ≤ 30 + (k + 1) * 610 := by rw [ByteArray.size_append, ByteArray.size_append]; omega
        have HTK : Hid (x ++ segL base (l.take (k + 1)) = t ++ (v ++ p) ∧ lastO base (l.take (k + 1)) = o + 1) := Lib.hid (by
          obtain ⟨e1, e2⟩ := segL_take (a := (base : Int)) hf
          refine ⟨?_, e2⟩
          rw [e1, HA.out]
          dsimp only
          rw [hdl, Int.toNat_natCast, hv]
          show x ++ (segL base (l.take k) ++ v ++ putT hk' key tb val) = _
          rw [hp, ← HT.out]
          simp only [ByteArray.append_assoc])
        have HCH := Lib.hid hchk
        have HP := Lib.hid hp
        have HV := Lib.hid hv
        have hcat2 := fun W => run_string_add_sum (P := Try.prog) W v p (by omega)
        have hcat3 := fun W => run_string_add_sum (P := Try.prog) W t (v ++ p) (by rw [ByteArray.size_append]; omega)
        have hw1 : IntKind.i64.wrap (o - a) = (dl : Int) := by rw [IntWalk.i64_in _ (by omega)]; exact hdl
        have hw2 : IntKind.u64.wrap (dl : Int) = (dl : Int) := IntWalk.u64_in _ (by omega)
        clear hchk hp hv hcells hf q1 q2 q3 hn1 hmem hdl
        go_upto_region 9 with fail
        go_cut [6] (fun tv wc => tv = .string (t ++ (v ++ p)) ∧ Below wr.heap.size wr wc)
        case first =>
          go_region_held3 (fun w' => (w'.cell? ⟨w.heap.size, 2, none⟩ = some (.slice (some ⟨ga, 0, none⟩) n cap) ∧ w'.cell? ⟨ga, k * 5, none⟩ = some (.int .i64 o) ∧ w'.cell? ⟨ga, k * 5 + 1, none⟩ = some (.bool hk') ∧ w'.cell? ⟨ga, k * 5 + 2, none⟩ = some (.string key) ∧ w'.cell? ⟨ga, k * 5 + 3, none⟩ = some (.bool tb) ∧ w'.cell? ⟨ga, k * 5 + 4, none⟩ = some (.string val)) ∧ Below wr.heap.size wr w')
            (first | assumption | exact ⟨⟨c2, d0, d1, d2, d3, d4⟩, (Below.refl _ _).drew⟩ | exact (Below.refl _ _).drew | exact keep7 (by assumption) (by assumption) | exact keep7 (by assumption) ((Below.refl _ _).drew) | exact keep7 (keep7 (by assumption) ((Below.refl _ _).drew)) (by assumption))
            (first
              | (go_at_call 90; refine (vrput_is dl v _ (by omega) HV).mono ?_; rintro e w5 ⟨rfl, hb5⟩)
              | (go_at_call 91; refine (refrec_is hk' key tb val p _ HCH HP).mono ?_; rintro e w5 ⟨rfl, hb5⟩))
          all_goals
            rename_i hh
            go_wp2_with fail
            go_meet
            exact ⟨rfl, hh.2⟩
        case rest =>
          obtain ⟨rfl, hb5⟩ := hcut
          have c2' := keepq c2 hb5
          have d0' := keepq d0 hb5
          have HB5 := Lib.hid (HB.out.trans (hb5.mono HB.out.size))
          clear c0 c1 c2 d0 d1 d2 d3 d4 hcat2 hcat3 hw1 hw2
          go_wp2_with fail
          go_roundw
          case rel => exact ⟨k + 1, o + 1, t ++ (v ++ p), by omega, by go_num, rfl, rfl, by omega, by omega, h3s, Lib.hid HTK.out.2, Lib.hid HTK.out.1, HB5⟩
          case measure => simp [intOf]; omega
      · have k1 : ¬ (k : Int) < (n : Int) := by omega
        go_wp2_with fail
        go_ret2
        obtain rfl : k = n := by omega
        have hts : t = s := by
          rw [← HT.out, List.take_of_length_le (by rw [HN.out]; omega), ← HS.out, ← HXX.out]
          unfold textS
          rw [HN.out, Int.toNat_natCast, Int.toNat_natCast]
        subst hts
        exact ⟨rfl, HB1.out.trans (HB.out.mono HB1.out.size)⟩
theorem rtext_is (b n : Int) (A : Option Addr) (L : List L4.Fd) (m cap : Nat) (t : ByteArray) (x : Int) (w : World) (ho : Hid (OwnsF w A m cap L)) (hm : L.length = m) (hl : m ≤ maxLen) (hs : Hid (∀ f ∈ L, f.r.key.size ≤ maxLen ∧ f.r.val.size ≤ maxLen)) (HX : Hid (loadE b n L = x)) (HT : Hid ((if x = 0 then textS b n L else ⟨#[]⟩) = t)) :
    Calls Try.prog 37 #[.agg #[.int .i64 b, .int .i64 n, .slice A m cap]] w fun e w' => e = .returned (.tuple #[.string t, .int .i64 x]) ∧ Below w.heap.size w w' := by
  by_cases hx : x = 0
  · subst hx
    have G := load_good HX.out
    have b0 := G.b0
    have bn := G.bn
    obtain ⟨b', rfl⟩ : ∃ b' : Nat, b = (b' : Int) := ⟨b.toNat, by omega⟩
    obtain ⟨n', rfl⟩ : ∃ n' : Nat, n = (n' : Int) := ⟨n.toNat, by omega⟩
    exact rtext_ok b' n' A L m cap t w ho hm HX (Lib.hid (by have := HT.out; rwa [if_pos rfl] at this))
  · have ht := HT.out
    rw [if_neg hx] at ht
    subst ht
    exact rtext_no b n A L m cap x w ho hm hl hs HX hx
end Go.Proofs.Ytlemcijgjebekaa.L7
/-
  The document's segment of bytes.
-/
namespace Go.Proofs.Ytlemcijgjebekaa.L7
open Go.RowKit
open L3 L4 L5

/-! ### plain -/
def oneD (s : ByteArray) (at_ a : Int) : Option (L4.Fd × Int) :=
  if (V.get s at_).2.2 ≠ 0 ∨ 1099511627776 < (V.get s at_).1 then none
  else if (getR s (V.get s at_).2.1).2.2 ≠ 0 then none
  else some (⟨a + ((V.get s at_).1 : Int), (getR s (V.get s at_).2.1).1⟩, (getR s (V.get s at_).2.1).2.1)
def readD (s : ByteArray) (p b : Int) : Nat → Option (List L4.Fd × Int × Int)
  | 0 => some ([], p, b)
  | k + 1 => match readD s p b k with
    | none => none
    | some (L, at_, a) => match oneD s at_ a with
      | none => none
      | some (f, t) => some (L ++ [f], t, f.o + 1)
theorem readD_stop {s : ByteArray} {p b : Int} {k : Nat} (h : readD s p b k = none) : ∀ d, readD s p b (k + d) = none
  | 0 => h
  | d + 1 => by
    show (match readD s p b (k + d) with | none => none | some (L, at_, a) => _) = none
    rw [readD_stop h d]
theorem readD_next {s : ByteArray} {p b at_ a : Int} {k : Nat} {L : List L4.Fd} (h : readD s p b k = some (L, at_, a)) : readD s p b (k + 1) = (match oneD s at_ a with | none => none | some (f, t) => some (L ++ [f], t, f.o + 1)) := by
  show (match readD s p b k with | none => none | some (L, at_, a) => _) = _
  rw [h]
theorem oneD_ok {s : ByteArray} {at_ a : Int} {f : L4.Fd} {t : Int} (h : oneD s at_ a = some (f, t)) :
    ∃ g t0, V.get s at_ = (g, t0, 0) ∧ g ≤ 1099511627776 ∧ getR s t0 = (f.r, t, 0) ∧ f.o = a + (g : Int) := by
  unfold oneD at h
  split at h
  · cases h
  · rename_i h1
    split at h
    · cases h
    · rename_i h2
      simp only [Option.some.injEq, Prod.mk.injEq] at h
      obtain ⟨rfl, rfl⟩ := h
      refine ⟨(V.get s at_).1, (V.get s at_).2.1, Prod.ext rfl (Prod.ext rfl ?_), by omega, Prod.ext rfl (Prod.ext rfl ?_), rfl⟩
      · show (V.get s at_).2.2 = 0
        omega
      · show (getR s (V.get s at_).2.1).2.2 = 0
        omega
theorem oneD_of {s : ByteArray} {at_ a t t0 : Int} {g : Nat} {r : R} (h1 : V.get s at_ = (g, t0, 0)) (hg : g ≤ 1099511627776) (h2 : getR s t0 = (r, t, 0)) : oneD s at_ a = some (⟨a + (g : Int), r⟩, t) := by
  unfold oneD
  rw [h1]
  dsimp only
  rw [h2, if_neg (by omega), if_neg (by simp)]
theorem oneD_no {s : ByteArray} {at_ a : Int} (h : oneD s at_ a = none) :
    (∃ g t0 x, V.get s at_ = (g, t0, x) ∧ (x ≠ 0 ∨ 1099511627776 < g)) ∨ ∃ g t0 r t x, V.get s at_ = (g, t0, 0) ∧ g ≤ 1099511627776 ∧ getR s t0 = (r, t, x) ∧ x ≠ 0 := by
  obtain ⟨g, t0, x, hg⟩ : ∃ g t0 x, V.get s at_ = (g, t0, x) := ⟨_, _, _, rfl⟩
  obtain ⟨r, t, y, hr⟩ : ∃ r t y, getR s t0 = (r, t, y) := ⟨_, _, _, rfl⟩
  by_cases h1 : x ≠ 0 ∨ 1099511627776 < g
  · exact .inl ⟨g, t0, x, hg, h1⟩
  · obtain rfl : x = 0 := by omega
    by_cases hy : y = 0
    · subst hy
      rw [oneD_of hg (by omega) hr] at h
      cases h
    · exact .inr ⟨g, t0, r, t, y, hg, by omega, hr, hy⟩
/-- of a segment that may be both readings are the same -/
theorem readD_of {s : ByteArray} {p b n : Int} (hb : 0 ≤ b) (hn : n ≤ 1099511627776) : ∀ {k : Nat} {L : List L4.Fd} {t a : Int}, readF s p b k = some (L, t, a) → riseB b n L = true → a = lastO b L ∧ readD s p b k = some (L, t, a)
  | 0, L, t, a, h, hr => by
    simp [readF] at h
    obtain ⟨rfl, rfl, rfl⟩ := h
    exact ⟨rfl, rfl⟩
  | k + 1, L, t, a, h, hr => by
    cases hk : readF s p b k with
    | none => rw [readF_stop hk 1] at h; cases h
    | some q =>
      obtain ⟨L0, at0, a0⟩ := q
      rw [readF_next hk] at h
      cases ho : oneF s at0 a0 with
      | none => rw [ho] at h; cases h
      | some q =>
        obtain ⟨f, t'⟩ := q
        rw [ho] at h
        simp only [Option.some.injEq, Prod.mk.injEq] at h
        obtain ⟨rfl, rfl, rfl⟩ := h
        obtain ⟨q1, q2, q3, q4⟩ := rise_snoc hr
        obtain ⟨e1, e2⟩ := readD_of hb hn hk q1
        obtain ⟨g, t0, hg, hR, hO⟩ := oneF_ok ho
        obtain ⟨g1, g2, g3, g4, g5⟩ := get_ok hg
        have hgap : g = (f.o - a0).toNat := by
          rw [e1] at hO ⊢
          exact gap_in g4 (by omega) q3 (by omega) hO
        have hw : wrap64 (f.o + 1) = f.o + 1 := by simp only [wrap64]; omega
        have h1 := oneD_of (a := a0) hg (by omega) hR
        have hfo : a0 + (g : Int) = f.o := by rw [hgap]; omega
        rw [hfo] at h1
        refine ⟨by rw [hw, lastO_snoc], ?_⟩
        rw [readD_next e2, h1, hw]
/-- a text of a segment: how the document reads it -/
theorem SegU.readsD {s : ByteArray} {b n : Int} {L : List L4.Fd} (h : loadE b n L = 0) (ht : textS b n L = s) : ∃ b' n' m : Nat, ∃ t0 t1 p a : Int, V.get s 0 = (b', t0, 0) ∧ V.get s t0 = (n', t1, 0) ∧ V.get s t1 = (m, p, 0) ∧ readD s p b m = some (L, (s.size : Int), a) ∧ b = b' ∧ n = n' ∧ m = L.length ∧ b' ≤ 1099511627776 ∧ n' ≤ 1099511627776 ∧ m ≤ 64 := by
  obtain ⟨p, a, g, g2, g3, g4, g5, g6, g7⟩ := SegU.reads h ht
  have G := load_good h
  obtain ⟨_, hd⟩ := readD_of G.b0 G.n1 g2 G.rise
  obtain ⟨n0, t0, e0, h0⟩ : ∃ n t e, V.get s 0 = (n, t, e) := ⟨_, _, _, rfl⟩
  obtain ⟨n1, t1, e1, h1⟩ : ∃ n t e, V.get s t0 = (n, t, e) := ⟨_, _, _, rfl⟩
  obtain ⟨n2, t2, e2, h2⟩ : ∃ n t e, V.get s t1 = (n, t, e) := ⟨_, _, _, rfl⟩
  by_cases q0 : e0 = 0
  · subst q0
    by_cases q1 : e1 = 0
    · subst q1
      by_cases q2 : e2 = 0
      · subst q2
        rw [get3_yes h0 h1 h2] at g
        simp only [Prod.mk.injEq] at g
        obtain ⟨⟨rfl, rfl, rfl⟩, rfl, _⟩ := g
        have b0 := G.b0
        have bn := G.bn
        have nn := G.n1
        exact ⟨_, _, _, t0, t1, _, a, h0, h1, h2, hd, g3.symm, g4.symm, rfl, by omega, by omega, g7⟩
      · rw [get3_no2 h0 h1 h2 q2] at g; simp at g
    · rw [get3_no1 h0 h1 q1] at g; simp at g
  · rw [get3_no0 h0 q0] at g; simp at g
theorem readD_low {s : ByteArray} {p b : Int} : ∀ {k : Nat} {L : List L4.Fd} {t a : Int}, readD s p b k = some (L, t, a) → L.length = k ∧ b ≤ a ∧ a ≤ b + k * 1099511627777 ∧ ∀ f ∈ L, f.r.chk = 0
  | 0, L, t, a, h => by
    simp [readD] at h
    obtain ⟨rfl, _, rfl⟩ := h
    exact ⟨rfl, Int.le_refl _, by omega, by simp⟩
  | k + 1, L, t, a, h => by
    cases hk : readD s p b k with
    | none => rw [readD_stop hk 1] at h; cases h
    | some q =>
      obtain ⟨L0, at0, a0⟩ := q
      rw [readD_next hk] at h
      cases ho : oneD s at0 a0 with
      | none => rw [ho] at h; cases h
      | some q =>
        obtain ⟨f, t'⟩ := q
        rw [ho] at h
        simp only [Option.some.injEq, Prod.mk.injEq] at h
        obtain ⟨rfl, rfl, rfl⟩ := h
        obtain ⟨g, t0, _, hg, hr, hO⟩ := oneD_ok ho
        obtain ⟨e1, e2, e3, e4⟩ := readD_low hk
        refine ⟨by simp [e1], by omega, by rw [hO]; push_cast; omega, fun f' hf' => ?_⟩
        rcases List.mem_append.1 hf' with h' | h'
        · exact e4 f' h'
        · rw [List.mem_singleton.1 h']; exact (getR_got hr).1

/-! ### the walk -/
structure PD (w W : World) (b n : Int) (L : List L4.Fd) (v : Value) : Prop where
  res : W.heap[w.heap.size]? = some (.cells #[.int .i64 0, .int .i64 0, .slice none 0 0] 53 (0, 0))
  out : W.heap[w.heap.size + 1]? = some (.cells #[.int .i64 b, .int .i64 n, v] 53 (0, 0))
  row : W.ownsRow (w.heap.size + 1 + 1) 43 5 v L.length (rowF L)
  bel : Below w.heap.size w W
section
variable {w W W' w1 : World} {b n : Int} {L L' : List L4.Fd} {v v' : Value}
theorem PD.lt (h : PD w W b n L v) : w.heap.size + 1 < W.heap.size := (Array.getElem?_eq_some_iff.1 h.out).1
theorem PD.below (h : PD w W b n L v) (q : Below W.heap.size W W') : PD w W' b n L v := by
  have hl := h.lt
  exact ⟨(q.block _ (by omega)).trans h.res, (q.block _ (by omega)).trans h.out, own_below h.row q, h.bel.trans (q.mono h.bel.size)⟩
theorem PD.appended (h : PD w W b n L v) (hown' : w1.ownsRow (w.heap.size + 1 + 1) 43 5 v' L'.length (rowF L')) (hgrow : W.grownBy w1 v.ownBlock) : PD w (w1.setCell ⟨w.heap.size + 1, 2, none⟩ v') b n L' v' := by
  have hl := h.lt
  have ho : ∀ j, v.ownBlock = some j → w.heap.size + 1 + 1 ≤ j := fun j e => (h.row.lt j e).1
  have ho' : ∀ j, v'.ownBlock = some j → w.heap.size + 1 + 1 ≤ j := fun j e => (hown'.lt j e).1
  have hk : ∀ j, j < w.heap.size + 1 + 1 → w1.heap[j]? = W.heap[j]? := fun j hj => hgrow.block j (by omega) (fun e => by have := ho j e.symm; omega)
  refine ⟨(Below.heap_setCell _ _ _ _ (by simp)).trans ((hk _ (by omega)).trans h.res), heap_setCell_same _ _ 2 _ _ _ ((hk _ (by omega)).trans h.out), ⟨hown'.1, ?_⟩, ?_⟩
  · rcases hown'.2 with e | ⟨g, c, cur, e, q1, hh, q2⟩
    · exact .inl e
    · have := ho' g (by rw [e]; rfl)
      exact .inr ⟨g, c, cur, e, q1, (Below.heap_setCell _ _ _ _ (by dsimp only; omega)).trans hh, q2⟩
  · exact (h.bel.grown hgrow h.bel.size (fun j e => by have := ho j e; omega)).setCell (p := ⟨w.heap.size + 1, 2, none⟩) (by simp) _
theorem PD.res3 (h : PD w W b n L v) : W.cell? ⟨w.heap.size, 0, none⟩ = some (.int .i64 0) ∧ W.cell? ⟨w.heap.size, 1, none⟩ = some (.int .i64 0) ∧ W.cell? ⟨w.heap.size, 2, none⟩ = some (.slice none 0 0) ∧ W.frozen? ⟨w.heap.size, 0, none⟩ = false ∧ W.frozen? ⟨w.heap.size, 1, none⟩ = false ∧ W.frozen? ⟨w.heap.size, 2, none⟩ = false := seg_rows h.res
end
theorem rec_cells {w : World} {k : Nat} {T : TypeId} {x y z u : Value} (h : w.heap[k]? = some (.cells #[x, y, z, u] T (0, 0))) : w.cell? ⟨k, 0, none⟩ = some x ∧ w.cell? ⟨k, 1, none⟩ = some y ∧ w.cell? ⟨k, 2, none⟩ = some z ∧ w.cell? ⟨k, 3, none⟩ = some u :=
  ⟨(cell_of_row _ _ 0 _ _ _ h).trans rfl, (cell_of_row _ _ 1 _ _ _ h).trans rfl, (cell_of_row _ _ 2 _ _ _ h).trans rfl, (cell_of_row _ _ 3 _ _ _ h).trans rfl⟩
theorem rnum_any (s : ByteArray) (a : Int) (w : World) (hs : s.size ≤ 1000000) :
    Calls Try.prog 94 #[.string s, .int .i64 a] w fun e w' => ∃ x y : Int, e = .returned (.tuple #[.int .i64 x, .int .i64 y]) ∧ w = w' := by
  obtain ⟨g, t, e, hg⟩ : ∃ g t e, V.get s a = (g, t, e) := ⟨_, _, _, rfl⟩
  by_cases h : e ≠ 0 ∨ 1099511627776 < g
  · exact (rnum_no s a w hs g t e (Lib.hid hg) h).mono fun _ _ q => ⟨_, _, q.1, q.2⟩
  · obtain rfl : e = 0 := by omega
    exact (rnum_ok s a w hs g t (Lib.hid hg) (by omega)).mono fun _ _ q => ⟨_, _, q.1, q.2⟩
set_option maxRecDepth 100000 in
set_option maxHeartbeats 4000000 in
theorem rparse_n0 (s : ByteArray) (w : World) (hs : s.size ≤ 1000000) (b : Nat) (t0 : Int) (e0 : Int) (H0 : Hid (V.get s 0 = (b, t0, e0))) (n0 : e0 ≠ 0 ∨ 1099511627776 < b) :
    Calls Try.prog 39 #[.string s] w fun e w' => e = .returned (.tuple #[.agg #[.int .i64 0, .int .i64 0, .slice none 0 0], .int .i64 70]) ∧ Below w.heap.size w w' := by
  go_enter Try.func39, Try.ntmps39
  go_wp2_with (first
    | (go_at_call 94; (with_reducible refine (rnum_no s 0 _ hs b t0 e0 H0 n0).mono ?_); rintro e wq ⟨rfl, rfl⟩)
    | (go_at_call 94; refine (rnum_any s _ _ hs).mono ?_; rintro e wq ⟨x9, y9, rfl, rfl⟩))
  refine bodyPost_ret (v := .tuple #[.agg #[.int .i64 0, .int .i64 0, .slice none 0 0], .int .i64 70]) (results_row2 (p := 2) (t1 := 3) (ty := 53) Try.results39 _ _ w.heap.size 53 #[(.int .i64 0), (.int .i64 0), (.slice none 0 0)] (0, 0) _ rfl ?row Try.underlying53 rfl (by kernel_rfl)) rfl ⟨rfl, ?_⟩
  case row =>
    first
    | with_reducible exact heap_alloc_new _ _
    | exact heap_setCell_same _ w.heap.size 2 _ _ (.slice none 0 0) (heap_setCell_same _ w.heap.size 1 _ _ (.int .i64 0) (heap_setCell_same _ w.heap.size 0 _ _ (.int .i64 0) (heap_alloc_new _ _)))
  repeat (first | exact Below.refl _ _ | refine Below.setCell ?_ (by simp <;> omega) _ | refine Below.alloc ?_ (by simp <;> omega) _)
set_option maxRecDepth 100000 in
set_option maxHeartbeats 4000000 in
theorem rparse_n1 (s : ByteArray) (w : World) (hs : s.size ≤ 1000000) (b : Nat) (t0 : Int) (H0 : Hid (V.get s 0 = (b, t0, 0))) (n0 : b ≤ 1099511627776) (n : Nat) (t1 : Int) (e1 : Int) (H1 : Hid (V.get s t0 = (n, t1, e1))) (n1 : e1 ≠ 0 ∨ 1099511627776 < n) :
    Calls Try.prog 39 #[.string s] w fun e w' => e = .returned (.tuple #[.agg #[.int .i64 0, .int .i64 0, .slice none 0 0], .int .i64 70]) ∧ Below w.heap.size w w' := by
  go_enter Try.func39, Try.ntmps39
  go_wp2_with (first
    | (go_at_call 94; (with_reducible refine (rnum_no s t0 _ hs n t1 e1 H1 n1).mono ?_); rintro e wq ⟨rfl, rfl⟩)
    | (go_at_call 94; (with_reducible refine (rnum_ok s 0 _ hs b t0 H0 n0).mono ?_); rintro e wq ⟨rfl, rfl⟩)
    | (go_at_call 94; refine (rnum_any s _ _ hs).mono ?_; rintro e wq ⟨x9, y9, rfl, rfl⟩))
  refine bodyPost_ret (v := .tuple #[.agg #[.int .i64 0, .int .i64 0, .slice none 0 0], .int .i64 70]) (results_row2 (p := 2) (t1 := 3) (ty := 53) Try.results39 _ _ w.heap.size 53 #[(.int .i64 0), (.int .i64 0), (.slice none 0 0)] (0, 0) _ rfl ?row Try.underlying53 rfl (by kernel_rfl)) rfl ⟨rfl, ?_⟩
  case row =>
    first
    | with_reducible exact heap_alloc_new _ _
    | exact heap_setCell_same _ w.heap.size 2 _ _ (.slice none 0 0) (heap_setCell_same _ w.heap.size 1 _ _ (.int .i64 0) (heap_setCell_same _ w.heap.size 0 _ _ (.int .i64 0) (heap_alloc_new _ _)))
  repeat (first | exact Below.refl _ _ | refine Below.setCell ?_ (by simp <;> omega) _ | refine Below.alloc ?_ (by simp <;> omega) _)
set_option maxRecDepth 100000 in
set_option maxHeartbeats 4000000 in
theorem rparse_n2 (s : ByteArray) (w : World) (hs : s.size ≤ 1000000) (b : Nat) (t0 : Int) (H0 : Hid (V.get s 0 = (b, t0, 0))) (n0 : b ≤ 1099511627776) (n : Nat) (t1 : Int) (H1 : Hid (V.get s t0 = (n, t1, 0))) (n1 : n ≤ 1099511627776) (m : Nat) (p : Int) (e2 : Int) (H2 : Hid (V.get s t1 = (m, p, e2))) (n2 : e2 ≠ 0 ∨ 1099511627776 < m) :
    Calls Try.prog 39 #[.string s] w fun e w' => e = .returned (.tuple #[.agg #[.int .i64 0, .int .i64 0, .slice none 0 0], .int .i64 70]) ∧ Below w.heap.size w w' := by
  go_enter Try.func39, Try.ntmps39
  go_wp2_with (first
    | (go_at_call 94; (with_reducible refine (rnum_no s t1 _ hs m p e2 H2 n2).mono ?_); rintro e wq ⟨rfl, rfl⟩)
    | (go_at_call 94; (with_reducible refine (rnum_ok s 0 _ hs b t0 H0 n0).mono ?_); rintro e wq ⟨rfl, rfl⟩)
    | (go_at_call 94; (with_reducible refine (rnum_ok s t0 _ hs n t1 H1 n1).mono ?_); rintro e wq ⟨rfl, rfl⟩))
  refine bodyPost_ret (v := .tuple #[.agg #[.int .i64 0, .int .i64 0, .slice none 0 0], .int .i64 70]) (results_row2 (p := 2) (t1 := 3) (ty := 53) Try.results39 _ _ w.heap.size 53 #[(.int .i64 0), (.int .i64 0), (.slice none 0 0)] (0, 0) _ rfl ?row Try.underlying53 rfl (by kernel_rfl)) rfl ⟨rfl, ?_⟩
  case row =>
    first
    | with_reducible exact heap_alloc_new _ _
    | exact heap_setCell_same _ w.heap.size 2 _ _ (.slice none 0 0) (heap_setCell_same _ w.heap.size 1 _ _ (.int .i64 0) (heap_setCell_same _ w.heap.size 0 _ _ (.int .i64 0) (heap_alloc_new _ _)))
  repeat (first | exact Below.refl _ _ | refine Below.setCell ?_ (by simp <;> omega) _ | refine Below.alloc ?_ (by simp <;> omega) _)
set_option maxRecDepth 100000 in
set_option maxHeartbeats 4000000 in
theorem rparse_n3 (s : ByteArray) (w : World) (hs : s.size ≤ 1000000) (b : Nat) (t0 : Int) (H0 : Hid (V.get s 0 = (b, t0, 0))) (n0 : b ≤ 1099511627776) (n : Nat) (t1 : Int) (H1 : Hid (V.get s t0 = (n, t1, 0))) (n1 : n ≤ 1099511627776) (m : Nat) (p : Int) (H2 : Hid (V.get s t1 = (m, p, 0))) (n2 : m ≤ 1099511627776) (hm : 64 < m) :
    Calls Try.prog 39 #[.string s] w fun e w' => e = .returned (.tuple #[.agg #[.int .i64 0, .int .i64 0, .slice none 0 0], .int .i64 70]) ∧ Below w.heap.size w w' := by
  have hm1 : (64 : Int) < (m : Int) := by omega
  clear hm
  go_enter Try.func39, Try.ntmps39
  go_wp2_with (first
    | (go_at_call 94; (with_reducible refine (rnum_ok s 0 _ hs b t0 H0 n0).mono ?_); rintro e wq ⟨rfl, rfl⟩)
    | (go_at_call 94; (with_reducible refine (rnum_ok s t0 _ hs n t1 H1 n1).mono ?_); rintro e wq ⟨rfl, rfl⟩)
    | (go_at_call 94; (with_reducible refine (rnum_ok s t1 _ hs m p H2 n2).mono ?_); rintro e wq ⟨rfl, rfl⟩))
  refine bodyPost_ret (v := .tuple #[.agg #[.int .i64 0, .int .i64 0, .slice none 0 0], .int .i64 70]) (results_row2 (p := 2) (t1 := 3) (ty := 53) Try.results39 _ _ w.heap.size 53 #[(.int .i64 0), (.int .i64 0), (.slice none 0 0)] (0, 0) _ rfl ?row Try.underlying53 rfl (by kernel_rfl)) rfl ⟨rfl, ?_⟩
  case row =>
    first
    | with_reducible exact heap_alloc_new _ _
    | exact heap_setCell_same _ w.heap.size 2 _ _ (.slice none 0 0) (heap_setCell_same _ w.heap.size 1 _ _ (.int .i64 0) (heap_setCell_same _ w.heap.size 0 _ _ (.int .i64 0) (heap_alloc_new _ _)))
  repeat (first | exact Below.refl _ _ | refine Below.setCell ?_ (by simp <;> omega) _ | refine Below.alloc ?_ (by simp <;> omega) _)
set_option maxRecDepth 100000 in
set_option maxHeartbeats 4000000 in
theorem rparse_run (s : ByteArray) (w : World) (hs : s.size ≤ 1000000) (b : Nat) (t0 : Int) (H0 : Hid (V.get s 0 = (b, t0, 0))) (n0 : b ≤ 1099511627776) (n : Nat) (t1 : Int) (H1 : Hid (V.get s t0 = (n, t1, 0))) (n1 : n ≤ 1099511627776) (m : Nat) (p : Int) (H2 : Hid (V.get s t1 = (m, p, 0))) (n2 : m ≤ 1099511627776) (hm : m ≤ 64) (q : Option (List L4.Fd × Int × Int)) (HQ : Hid (readD s p b m = q)) :
    Calls Try.prog 39 #[.string s] w fun e w' => Below w.heap.size w w' ∧ ((∃ A c L, (∃ t a, q = some (L, t, a)) ∧ loadE b n L = 0 ∧ textS b n L = s ∧ e = .returned (.tuple #[.agg #[.int .i64 b, .int .i64 n, .slice A L.length c], .int .i64 0]) ∧ OwnsF w' A L.length c L) ∨
      ((∀ L t a, q = some (L, t, a) → loadE b n L = 0 → textS b n L = s → False) ∧ e = .returned (.tuple #[.agg #[.int .i64 0, .int .i64 0, .slice none 0 0], .int .i64 70]))) := by
  obtain ⟨i0, hi0, hz0, hz1, hz2⟩ := info_parts foundInfo
  have b0 : (0 : Int) ≤ (b : Int) := by omega
  have hm1 : ¬ (64 : Int) < (m : Int) := by omega
  go_enter Try.func39, Try.ntmps39
  go_wp2_with (first
    | (go_at_call 94; (with_reducible refine (rnum_ok s 0 _ hs b t0 H0 n0).mono ?_); rintro e wq ⟨rfl, rfl⟩)
    | (go_at_call 94; (with_reducible refine (rnum_ok s t0 _ hs n t1 H1 n1).mono ?_); rintro e wq ⟨rfl, rfl⟩)
    | (go_at_call 94; (with_reducible refine (rnum_ok s t1 _ hs m p H2 n2).mono ?_); rintro e wq ⟨rfl, rfl⟩))
  have PM0 : PD w ((w.alloc (.cells #[.int .i64 0, .int .i64 0, .slice none 0 0] 53)).alloc (.cells #[.int .i64 b, .int .i64 n, .slice none 0 0] 53)) b n [] (.slice none 0 0) := by
    refine ⟨?_, ?_, World.ownsRow_nil _ _ _ _, two_box _ _⟩
    · exact (Below.heap_alloc _ _ _ (by simp)).trans (heap_alloc_new _ _)
    · have := heap_alloc_new (w.alloc (.cells #[.int .i64 0, .int .i64 0, .slice none 0 0] 53)) (.cells #[.int .i64 b, .int .i64 n, .slice none 0 0] 53)
      simpa using this
  go_loopw [9, 11, 12] (fun tv lv iv wr => ∃ (k : Nat) (L0 : List L4.Fd) (at0 a0 : Int) (v : Value), k ≤ m ∧ iv = .int .i64 k ∧ tv = .int .i64 at0 ∧ lv = .int .i64 a0 ∧ Hid (readD s p (b : Int) k = some (L0, at0, a0)) ∧ Hid (PD w wr b n L0 v)) (fun _ _ iv _ => m - (intOf iv).toNat)
  case atStart => exact ⟨0, [], p, b, _, by omega, rfl, rfl, rfl, Lib.hid rfl, Lib.hid PM0⟩
  case round =>
    obtain ⟨k, L0, at0, a0, v, hk, rfl, rfl, rfl, HR0, PM⟩ := hrel
    clear PM0
    obtain ⟨hlen, ha0, ha1, hchk⟩ := readD_low HR0.out
    have ha2 : a0 ≤ 80000000000000 := by
      have : (k : Int) * 1099511627777 ≤ 64 * 1099511627777 := Int.mul_le_mul_of_nonneg_right (by omega) (by decide)
      omega
    have HLEN := Lib.hid hlen
    have HCHK := Lib.hid hchk
    have k0 : (0 : Int) ≤ (k : Int) := by omega
    clear hlen ha1 hchk
    by_cases hlt : k < m
    · have k1 : (k : Int) < (m : Int) := by omega
      cases hq : oneD s at0 a0 with
      | none =>
        have hnone : q = none := by
          have h1 := readD_next HR0.out
          rw [hq] at h1
          have h2 := readD_stop h1 (m - (k + 1))
          rw [show k + 1 + (m - (k + 1)) = m by omega, HQ.out] at h2
          exact h2
        have HNQ : Hid (∀ L t a, q = some (L, t, a) → loadE b n L = 0 → textS b n L = s → False) := Lib.hid (fun L t a e _ _ => by rw [hnone] at e; cases e)
        obtain ⟨rr0, rr1, rr2, rf0, rf1, rf2⟩ := PM.out.res3
        rcases oneD_no hq with ⟨g, t4, x, hg, hx⟩ | ⟨g, t4, rr, t5, x, hg, hgl, hr, hx⟩
        · have HG := Lib.hid hg
          have HXX := Lib.hid hx
          obtain ⟨⟨hk', key, tbb, val⟩, t5, y, hr⟩ : ∃ r t y, getR s 0 = (r, t, y) := ⟨_, _, _, rfl⟩
          have HRR := Lib.hid hr
          clear hg hx hq hnone hr
          go_wp2_with (first
            | (go_at_call 95; refine (rgetrec_is s 0 ⟨hk', key, tbb, val⟩ t5 y _ (by omega) HRR).mono ?_; rintro e w2 ⟨rfl, hb2⟩; have PM2 := Lib.hid (PM.out.below hb2); obtain ⟨r0, r1, r2, f0, f1, f2⟩ := PM2.out.res3; have hl2 := PM2.out.lt; have hl3 : w.heap.size < w2.heap.size := (by omega); have x2 : w2.cell? ⟨w.heap.size + 1, 2, none⟩ = some v := (cell_of_row _ _ 2 _ _ _ PM2.out.out).trans rfl; have fx2 := frozen_of_row _ _ 2 _ _ PM2.out.out)
            | (go_at_call 94; (with_reducible refine (rnum_no s at0 _ hs g t4 x HG HXX.out).mono ?_); rintro e wq ⟨rfl, rfl⟩))
          refine bodyPost_ret (v := .tuple #[.agg #[.int .i64 0, .int .i64 0, .slice none 0 0], .int .i64 70]) (results_row2 (p := 2) (t1 := 3) (ty := 53) Try.results39 _ _ w.heap.size 53 #[(.int .i64 0), (.int .i64 0), (.slice none 0 0)] (0, 0) _ rfl ?row Try.underlying53 rfl (by kernel_rfl)) rfl ⟨?_, .inr ⟨HNQ.out, rfl⟩⟩
          case row =>
            first
            | exact heap_setCell_same _ w.heap.size 2 _ _ (.slice none 0 0) (heap_setCell_same _ w.heap.size 1 _ _ (.int .i64 0) (heap_setCell_same _ w.heap.size 0 _ _ (.int .i64 0) PM2.out.res))
            | (refine (Below.heap_alloc _ _ _ (by simp <;> omega)).trans ?_; exact heap_setCell_same _ w.heap.size 2 _ _ (.slice none 0 0) (heap_setCell_same _ w.heap.size 1 _ _ (.int .i64 0) (heap_setCell_same _ w.heap.size 0 _ _ (.int .i64 0) PM2.out.res)))
            | exact heap_setCell_same _ w.heap.size 2 _ _ (.slice none 0 0) (heap_setCell_same _ w.heap.size 1 _ _ (.int .i64 0) (heap_setCell_same _ w.heap.size 0 _ _ (.int .i64 0) ((Below.heap_alloc _ _ _ (by simp <;> omega)).trans PM2.out.res)))
          repeat (first | with_reducible exact PM2.out.bel | refine Below.setCell ?_ (by simp <;> omega) _ | refine Below.alloc ?_ (by have := PM2.out.bel.size; simp <;> omega) _)
        · have HG := Lib.hid hg
          obtain ⟨hk', key, tbb, val⟩ := rr
          have HRR := Lib.hid hr
          have hx' : (x != 0) = true := by simpa using hx
          clear hg hx hq hnone hr
          go_wp2_with (first
            | (go_at_call 95; refine (rgetrec_is s t4 ⟨hk', key, tbb, val⟩ t5 x _ (by omega) HRR).mono ?_; rintro e w2 ⟨rfl, hb2⟩; have PM2 := Lib.hid (PM.out.below hb2); obtain ⟨r0, r1, r2, f0, f1, f2⟩ := PM2.out.res3; have hl2 := PM2.out.lt; have hl3 : w.heap.size < w2.heap.size := (by omega); have x2 : w2.cell? ⟨w.heap.size + 1, 2, none⟩ = some v := (cell_of_row _ _ 2 _ _ _ PM2.out.out).trans rfl; have fx2 := frozen_of_row _ _ 2 _ _ PM2.out.out)
            | (go_at_call 94; (with_reducible refine (rnum_ok s at0 _ hs g t4 HG hgl).mono ?_); rintro e wq ⟨rfl, rfl⟩))
          refine bodyPost_ret (v := .tuple #[.agg #[.int .i64 0, .int .i64 0, .slice none 0 0], .int .i64 70]) (results_row2 (p := 2) (t1 := 3) (ty := 53) Try.results39 _ _ w.heap.size 53 #[(.int .i64 0), (.int .i64 0), (.slice none 0 0)] (0, 0) _ rfl ?row Try.underlying53 rfl (by kernel_rfl)) rfl ⟨?_, .inr ⟨HNQ.out, rfl⟩⟩
          case row =>
            first
            | exact heap_setCell_same _ w.heap.size 2 _ _ (.slice none 0 0) (heap_setCell_same _ w.heap.size 1 _ _ (.int .i64 0) (heap_setCell_same _ w.heap.size 0 _ _ (.int .i64 0) PM2.out.res))
            | (refine (Below.heap_alloc _ _ _ (by simp <;> omega)).trans ?_; exact heap_setCell_same _ w.heap.size 2 _ _ (.slice none 0 0) (heap_setCell_same _ w.heap.size 1 _ _ (.int .i64 0) (heap_setCell_same _ w.heap.size 0 _ _ (.int .i64 0) PM2.out.res)))
            | exact heap_setCell_same _ w.heap.size 2 _ _ (.slice none 0 0) (heap_setCell_same _ w.heap.size 1 _ _ (.int .i64 0) (heap_setCell_same _ w.heap.size 0 _ _ (.int .i64 0) ((Below.heap_alloc _ _ _ (by simp <;> omega)).trans PM2.out.res)))
          repeat (first | with_reducible exact PM2.out.bel | refine Below.setCell ?_ (by simp <;> omega) _ | refine Below.alloc ?_ (by have := PM2.out.bel.size; simp <;> omega) _)
      | some qq =>
        obtain ⟨⟨o, ⟨hk', key, tbb, val⟩⟩, t5⟩ := qq
        have hnx := readD_next HR0.out
        rw [hq] at hnx
        obtain ⟨g, t4, hg, hgl, hr, ho⟩ := oneD_ok hq
        dsimp only at hnx hr ho
        have HNX := Lib.hid hnx
        have HG := Lib.hid hg
        have HRR := Lib.hid hr
        have ho1 : a0 + (g : Int) = o := ho.symm
        have ho2 : o ≤ 90000000000000 := by omega
        have ho3 : 0 ≤ o := by omega
        clear hnx hg hr hq ho
        go_wp2_with (first
          | (go_at_call 95; refine (rgetrec_is s t4 ⟨hk', key, tbb, val⟩ t5 0 _ (by omega) HRR).mono ?_; rintro e w2 ⟨rfl, hb2⟩; have PM2 := Lib.hid (PM.out.below hb2); obtain ⟨r0, r1, r2, f0, f1, f2⟩ := PM2.out.res3; have hl2 := PM2.out.lt; have hl3 : w.heap.size < w2.heap.size := (by omega); have x2 : w2.cell? ⟨w.heap.size + 1, 2, none⟩ = some v := (cell_of_row _ _ 2 _ _ _ PM2.out.out).trans rfl; have fx2 := frozen_of_row _ _ 2 _ _ PM2.out.out)
          | (go_at_call 94; (with_reducible refine (rnum_ok s at0 _ hs g t4 HG hgl).mono ?_); rintro e wq ⟨rfl, rfl⟩)
          | (at_builtin; refine wpList_append_own _ rfl _ _ 36 rfl (w.heap.size + 1 + 1) 43 i0 _ 5 56 Try.underlying36 hi0 hz0 hz1 hz2 rfl (by decide) _ _ _ rfl ((own_below PM2.out.row (one_box _)).alloc _) ⟨w2.heap.size + 1, 0, none⟩ 1 1 [.int .i64 o, .bool hk', .string key, .bool tbb, .string val] rfl rfl (cells_five _ _ _ _ _ _ _ _ (by simp)) (by simp [Value.oneCell']) ?zc ?zd ?ze ?_; (case zc => (have := HLEN.out; unfold maxLen; omega)); (case zd => (have := HLEN.out; omega)); (case ze => (have := PM2.out.lt; simp <;> omega)); intro v' w5 hown' hgrow _; obtain ⟨g', cap', rfl⟩ := ownsRow_succ hown'; have PM3 := Lib.hid ((PM2.out.below (one_box (.cells #[.bool hk', .string key, .bool tbb, .string val] 41))).below (one_box (.cells #[.int .i64 o, .bool hk', .string key, .bool tbb, .string val] 43))); have PM5 := Lib.hid (PM3.out.appended (L' := L0 ++ [⟨o, ⟨hk', key, tbb, val⟩⟩]) (by rw [List.length_append, rowF_app]; exact hown') hgrow); have hx5 := (hgrow.block (w.heap.size + 1) (by have := PM3.out.lt; exact this) (fun e => by have := (PM3.out.row.lt _ e.symm).1; omega)).trans PM3.out.out; obtain ⟨z0, z1, z2, zf0, zf1, zf2⟩ := seg_rows hx5; clear hx5))
        go_roundw
        case rel => exact ⟨k + 1, L0 ++ [⟨o, ⟨hk', key, tbb, val⟩⟩], t5, o + 1, _, by omega, by go_num, rfl, rfl, Lib.hid HNX.out, Lib.hid PM5.out⟩
        case measure => simp [intOf]; omega
    · obtain rfl : k = m := by omega
      have k1 : ¬ (k : Int) < (k : Int) := by omega
      have hqq : q = some (L0, at0, a0) := HQ.out.symm.trans HR0.out
      obtain ⟨x, hx⟩ : ∃ x, loadE b n L0 = x := ⟨_, rfl⟩
      obtain ⟨t, ht⟩ : ∃ t : ByteArray, (if x = 0 then textS b n L0 else ⟨#[]⟩) = t := ⟨_, rfl⟩
      have HX := Lib.hid hx
      have HT := Lib.hid ht
      have HQQ := Lib.hid hqq
      have HSL : Hid (∀ f ∈ L0, f.r.key.size ≤ maxLen ∧ f.r.val.size ≤ maxLen) := Lib.hid (fun f hf => by
        have hc : chk f.r.hk f.r.key f.r.tb f.r.val = 0 := HCHK.out f hf
        have := chk_parts hc
        unfold maxLen; omega)
      have hrow := PM.out.row
      rw [HLEN.out] at hrow
      obtain ⟨A, c, rfl⟩ := own_form hrow
      have HOF : Hid (OwnsF wr A k c L0) := Lib.hid ⟨_, hrow⟩
      obtain ⟨z0, z1, z2, _, _, _⟩ := seg_rows PM.out.out
      clear hx ht hqq hrow
      by_cases hok : x = 0 ∧ t = s
      · obtain ⟨rfl, e2⟩ := hok
        have hts : (t.toList == s.toList) = true := by rw [e2]; simp
        have HTS : Hid (textS b n L0 = s) := Lib.hid (by have := HT.out; rw [if_pos rfl] at this; exact this.trans e2)
        clear e2
        go_wp2_with (go_at_call 37; refine (rtext_is b n A L0 k c t 0 _ HOF HLEN.out (by unfold maxLen; omega) HSL HX HT).mono ?_; rintro e w6 ⟨rfl, hb6⟩; have HP6 := Lib.hid (PM.out.below hb6); have HO6 := Lib.hid (HOF.out.below hb6); obtain ⟨r0, r1, r2, f0, f1, f2⟩ := HP6.out.res3; obtain ⟨y0, y1, y2, _, _, _⟩ := seg_rows HP6.out.out; have hl6 := HP6.out.lt)
        refine bodyPost_ret (v := .tuple #[.agg #[.int .i64 b, .int .i64 n, .slice A k c], .int .i64 0]) (results_row2 (p := 2) (t1 := 3) (ty := 53) Try.results39 _ _ w.heap.size 53 #[(.int .i64 b), (.int .i64 n), (.slice A k c)] (0, 0) _ rfl ?row Try.underlying53 rfl (by kernel_rfl)) rfl ⟨?_, .inl ⟨A, c, L0, ⟨_, _, HQQ.out⟩, HX.out, HTS.out, by rw [HLEN.out], ?_⟩⟩
        case row => exact heap_setCell_same _ w.heap.size 2 _ _ (.slice A k c) (heap_setCell_same _ w.heap.size 1 _ _ (.int .i64 n) (heap_setCell_same _ w.heap.size 0 _ _ (.int .i64 b) HP6.out.res))
        · exact ((HP6.out.bel.setCell (p := ⟨w.heap.size, 0, none⟩) (Nat.le_refl _) _).setCell (p := ⟨w.heap.size, 1, none⟩) (Nat.le_refl _) _).setCell (p := ⟨w.heap.size, 2, none⟩) (Nat.le_refl _) _
        · rw [HLEN.out]
          have hr := HP6.out.row
          rw [HLEN.out] at hr
          refine ⟨w.heap.size + 1 + 1, hr.1, ?_⟩
          rcases hr.2 with e | ⟨g, cc, cur, e, q1, hh, q2⟩
          · exact .inl e
          · have hg := (hr.lt g (by rw [e]; rfl)).1
            have hgw : g ≠ w.heap.size := by omega
            exact .inr ⟨g, cc, cur, e, q1, (Below.heap_setCell _ _ _ _ (fun q => hgw q)).trans ((Below.heap_setCell _ _ _ _ (fun q => hgw q)).trans ((Below.heap_setCell _ _ _ _ (fun q => hgw q)).trans hh)), q2⟩
      · have HNQ : Hid (∀ L t a, q = some (L, t, a) → loadE b n L = 0 → textS b n L = s → False) := Lib.hid (fun L t' a e h1 h2 => by
          rw [HQQ.out] at e
          simp only [Option.some.injEq, Prod.mk.injEq] at e
          obtain ⟨rfl, _, _⟩ := e
          have hx0 : x = 0 := HX.out.symm.trans h1
          refine hok ⟨hx0, ?_⟩
          rw [← HT.out, if_pos hx0]; exact h2)
        have hw : (x != 0) = true ∨ (x = 0 ∧ (t.toList == s.toList) = false) := by
          by_cases hx0 : x = 0
          · exact .inr ⟨hx0, bytes_ne (fun e => hok ⟨hx0, e⟩)⟩
          · exact .inl (by simpa using hx0)
        clear hok
        rcases hw with hw | ⟨hw, hw'⟩
        · go_wp2_with (go_at_call 37; refine (rtext_is b n A L0 k c t x _ HOF HLEN.out (by unfold maxLen; omega) HSL HX HT).mono ?_; rintro e w6 ⟨rfl, hb6⟩; have HP6 := Lib.hid (PM.out.below hb6); obtain ⟨r0, r1, r2, f0, f1, f2⟩ := HP6.out.res3; have hl6 := HP6.out.lt)
          refine bodyPost_ret (v := .tuple #[.agg #[.int .i64 0, .int .i64 0, .slice none 0 0], .int .i64 70]) (results_row2 (p := 2) (t1 := 3) (ty := 53) Try.results39 _ _ w.heap.size 53 #[(.int .i64 0), (.int .i64 0), (.slice none 0 0)] (0, 0) _ rfl ?row Try.underlying53 rfl (by kernel_rfl)) rfl ⟨?_, .inr ⟨HNQ.out, rfl⟩⟩
          case row =>
            first
            | exact heap_setCell_same _ w.heap.size 2 _ _ (.slice none 0 0) (heap_setCell_same _ w.heap.size 1 _ _ (.int .i64 0) (heap_setCell_same _ w.heap.size 0 _ _ (.int .i64 0) HP6.out.res))
            | (refine (Below.heap_alloc _ _ _ (by simp <;> omega)).trans ?_; exact heap_setCell_same _ w.heap.size 2 _ _ (.slice none 0 0) (heap_setCell_same _ w.heap.size 1 _ _ (.int .i64 0) (heap_setCell_same _ w.heap.size 0 _ _ (.int .i64 0) HP6.out.res)))
            | exact heap_setCell_same _ w.heap.size 2 _ _ (.slice none 0 0) (heap_setCell_same _ w.heap.size 1 _ _ (.int .i64 0) (heap_setCell_same _ w.heap.size 0 _ _ (.int .i64 0) ((Below.heap_alloc _ _ _ (by simp <;> omega)).trans HP6.out.res)))
          repeat (first | with_reducible exact HP6.out.bel | refine Below.setCell ?_ (by simp <;> omega) _ | refine Below.alloc ?_ (by have := HP6.out.bel.size; simp <;> omega) _)
        · have hw0 : (x != 0) = false := by simpa using hw
          clear hw
          go_wp2_with (go_at_call 37; refine (rtext_is b n A L0 k c t x _ HOF HLEN.out (by unfold maxLen; omega) HSL HX HT).mono ?_; rintro e w6 ⟨rfl, hb6⟩; have HP6 := Lib.hid (PM.out.below hb6); obtain ⟨r0, r1, r2, f0, f1, f2⟩ := HP6.out.res3; have hl6 := HP6.out.lt)
          refine bodyPost_ret (v := .tuple #[.agg #[.int .i64 0, .int .i64 0, .slice none 0 0], .int .i64 70]) (results_row2 (p := 2) (t1 := 3) (ty := 53) Try.results39 _ _ w.heap.size 53 #[(.int .i64 0), (.int .i64 0), (.slice none 0 0)] (0, 0) _ rfl ?row Try.underlying53 rfl (by kernel_rfl)) rfl ⟨?_, .inr ⟨HNQ.out, rfl⟩⟩
          case row =>
            first
            | exact heap_setCell_same _ w.heap.size 2 _ _ (.slice none 0 0) (heap_setCell_same _ w.heap.size 1 _ _ (.int .i64 0) (heap_setCell_same _ w.heap.size 0 _ _ (.int .i64 0) HP6.out.res))
            | (refine (Below.heap_alloc _ _ _ (by simp <;> omega)).trans ?_; exact heap_setCell_same _ w.heap.size 2 _ _ (.slice none 0 0) (heap_setCell_same _ w.heap.size 1 _ _ (.int .i64 0) (heap_setCell_same _ w.heap.size 0 _ _ (.int .i64 0) HP6.out.res)))
            | exact heap_setCell_same _ w.heap.size 2 _ _ (.slice none 0 0) (heap_setCell_same _ w.heap.size 1 _ _ (.int .i64 0) (heap_setCell_same _ w.heap.size 0 _ _ (.int .i64 0) ((Below.heap_alloc _ _ _ (by simp <;> omega)).trans HP6.out.res)))
          repeat (first | with_reducible exact HP6.out.bel | refine Below.setCell ?_ (by simp <;> omega) _ | refine Below.alloc ?_ (by have := HP6.out.bel.size; simp <;> omega) _)

theorem rparse_is (s : ByteArray) (w : World) (hs : s.size ≤ 1000000) (b n : Int) (L : List L4.Fd) (E : Int) (HU : Hid (SegU s b n L E)) :
    Calls Try.prog 39 #[.string s] w fun e w' => ∃ A c, e = .returned (.tuple #[.agg #[.int .i64 b, .int .i64 n, .slice A L.length c], .int .i64 E]) ∧ OwnsF w' A L.length c L ∧ Below w.heap.size w w' := by
  have fail : (∀ b n L, loadE b n L = 0 → textS b n L = s → False) → Calls Try.prog 39 #[.string s] w (fun e w' => e = .returned (.tuple #[.agg #[.int .i64 0, .int .i64 0, .slice none 0 0], .int .i64 70]) ∧ Below w.heap.size w w') → Calls Try.prog 39 #[.string s] w fun e w' => ∃ A c, e = .returned (.tuple #[.agg #[.int .i64 b, .int .i64 n, .slice A L.length c], .int .i64 E]) ∧ OwnsF w' A L.length c L ∧ Below w.heap.size w w' := by
    intro hno hc
    obtain ⟨rfl, rfl, rfl, rfl⟩ := HU.out.none hno
    refine hc.mono ?_
    rintro e w' ⟨rfl, hb⟩
    exact ⟨none, 0, rfl, ⟨0, World.ownsRow_nil _ _ _ _⟩, hb⟩
  obtain ⟨b', t0, e0, h0⟩ : ∃ n t e, V.get s 0 = (n, t, e) := ⟨_, _, _, rfl⟩
  by_cases q0 : e0 ≠ 0 ∨ 1099511627776 < b'
  · exact fail (fun b n L h ht => by
      obtain ⟨_, _, _, _, _, _, _, g, _, _, _, _, _, _, gb, _⟩ := SegU.readsD h ht
      rw [h0] at g; simp only [Prod.mk.injEq] at g; omega) (rparse_n0 s w hs b' t0 e0 (Lib.hid h0) q0)
  obtain ⟨rfl, n0⟩ : e0 = 0 ∧ b' ≤ 1099511627776 := by omega
  obtain ⟨n', t1, e1, h1⟩ : ∃ n t e, V.get s t0 = (n, t, e) := ⟨_, _, _, rfl⟩
  by_cases q1 : e1 ≠ 0 ∨ 1099511627776 < n'
  · exact fail (fun b n L h ht => by
      obtain ⟨_, _, _, _, _, _, _, g, g', _, _, _, _, _, _, gn, _⟩ := SegU.readsD h ht
      rw [h0] at g; simp only [Prod.mk.injEq] at g
      obtain ⟨_, rfl, _⟩ := g
      rw [h1] at g'; simp only [Prod.mk.injEq] at g'; omega) (rparse_n1 s w hs b' t0 (Lib.hid h0) n0 n' t1 e1 (Lib.hid h1) q1)
  obtain ⟨rfl, n1⟩ : e1 = 0 ∧ n' ≤ 1099511627776 := by omega
  obtain ⟨m, p, e2, h2⟩ : ∃ n t e, V.get s t1 = (n, t, e) := ⟨_, _, _, rfl⟩
  have key : ∀ b n L, loadE b n L = 0 → textS b n L = s → e2 = 0 ∧ b = b' ∧ n = n' ∧ m ≤ 64 ∧ ∃ a, readD s p (b' : Int) m = some (L, (s.size : Int), a) := fun b n L h ht => by
    obtain ⟨_, _, _, _, _, _, a, g, g', g'', gr, rfl, rfl, gl, gb, gn, gm⟩ := SegU.readsD h ht
    rw [h0] at g; simp only [Prod.mk.injEq] at g
    obtain ⟨rfl, rfl, _⟩ := g
    rw [h1] at g'; simp only [Prod.mk.injEq] at g'
    obtain ⟨rfl, rfl, _⟩ := g'
    rw [h2] at g''; simp only [Prod.mk.injEq] at g''
    obtain ⟨rfl, rfl, ge⟩ := g''
    exact ⟨ge, rfl, rfl, gm, a, gr⟩
  by_cases q2 : e2 ≠ 0 ∨ 1099511627776 < m
  · exact fail (fun b n L h ht => by obtain ⟨k1, _, _, k4, _⟩ := key b n L h ht; omega) (rparse_n2 s w hs b' t0 (Lib.hid h0) n0 n' t1 (Lib.hid h1) n1 m p e2 (Lib.hid h2) q2)
  obtain ⟨rfl, n2⟩ : e2 = 0 ∧ m ≤ 1099511627776 := by omega
  by_cases hm : 64 < m
  · exact fail (fun b n L h ht => by obtain ⟨_, _, _, k4, _⟩ := key b n L h ht; omega) (rparse_n3 s w hs b' t0 (Lib.hid h0) n0 n' t1 (Lib.hid h1) n1 m p (Lib.hid h2) n2 hm)
  refine Calls.mono (rparse_run s w hs b' t0 (Lib.hid h0) n0 n' t1 (Lib.hid h1) n1 m p (Lib.hid h2) n2 (by omega) _ (Lib.hid rfl)) ?_
  rintro e w' ⟨hb, ⟨A, c, L', _, h3, h4, rfl, ho⟩ | ⟨hno, rfl⟩⟩
  · obtain ⟨rfl, rfl, rfl, rfl⟩ := HU.out.is h3 h4
    exact ⟨A, c, rfl, ho, hb⟩
  · obtain ⟨rfl, rfl, rfl, rfl⟩ := HU.out.none (fun b n L h ht => by
      obtain ⟨_, rfl, rfl, _, a, hr⟩ := key b n L h ht
      exact hno L _ a hr h ht)
    exact ⟨none, 0, rfl, ⟨0, World.ownsRow_nil _ _ _ _⟩, hb⟩
end Go.Proofs.Ytlemcijgjebekaa.L7
