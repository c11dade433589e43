/-
  Contract: a segment's text.
-/
import Derived.Test.YtlemcijgjebekaaChPut
import Derived.Test.YtlemcijgjebekaaChShelf
import Derived.Test.YtlemcijgjebekaaSegLoad
namespace Go.Proofs.Ytlemcijgjebekaa.L7
open Go.RowKit
open L3 L4 L5

/-! ### plain -/
def segL : Int → List L4.Fd → ByteArray
  | _, [] => ⟨#[]⟩
  | a, f :: t => V.put (f.o - a).toNat ++ f.r.put ++ segL (f.o + 1) t
def lastO : Int → List L4.Fd → Int
  | a, [] => a
  | _, f :: t => lastO (f.o + 1) t
def textS (b n : Int) (L : List L4.Fd) : ByteArray := three b.toNat n.toNat L.length ++ segL b L
theorem empty_app (x : ByteArray) : (⟨#[]⟩ : ByteArray) ++ x = x := by apply V.nats_inj; rw [V.nats_append]; rfl
theorem app_empty (x : ByteArray) : x ++ (⟨#[]⟩ : ByteArray) = x := by apply V.nats_inj; rw [V.nats_append]; show _ ++ [] = _; rw [List.append_nil]
theorem lastO_snoc : ∀ (a : Int) (l : List L4.Fd) (f : L4.Fd), lastO a (l ++ [f]) = f.o + 1
  | _, [], _ => rfl
  | _, g :: t, f => lastO_snoc (g.o + 1) t f
theorem segL_snoc : ∀ (a : Int) (l : List L4.Fd) (f : L4.Fd), segL a (l ++ [f]) = segL a l ++ V.put (f.o - lastO a l).toNat ++ f.r.put
  | a, [], f => by simp only [segL, lastO, List.nil_append]; rw [app_empty, empty_app]
  | a, g :: t, f => by
    simp only [segL, lastO, List.cons_append]
    rw [segL_snoc (g.o + 1) t f]
    simp only [ByteArray.append_assoc]
theorem rise_last {n : Int} : ∀ {a : Int} {l : List L4.Fd} {k : Nat} {f : L4.Fd}, riseB a n l = true → l[k]? = some f → a ≤ lastO a (l.take k) ∧ lastO a (l.take k) ≤ f.o ∧ f.o < n
  | a, [], k, f, _, h => by simp at h
  | a, g :: t, 0, f, hr, h => by
    obtain ⟨h1, h2, _⟩ := rise_cons.1 hr
    simp at h; subst h
    exact ⟨Int.le_refl _, h1, h2⟩
  | a, g :: t, k + 1, f, hr, h => by
    obtain ⟨h1, h2, h3⟩ := rise_cons.1 hr
    obtain ⟨q1, q2, q3⟩ := rise_last h3 (by simpa using h : t[k]? = some f)
    rw [List.take_succ_cons]
    exact ⟨by show a ≤ lastO (g.o + 1) (t.take k); omega, q2, q3⟩
theorem segL_size : ∀ (a : Int) (l : List L4.Fd) (n : Int), riseB a n l = true → 0 ≤ a → n ≤ 1099511627776 → (segL a l).size ≤ l.length * 610
  | _, [], _, _, _, _ => by show (⟨#[]⟩ : ByteArray).size ≤ _; exact Nat.zero_le _
  | a, f :: t, n, h, ha, hn => by
    obtain ⟨h1, h2, h3⟩ := rise_cons.1 h
    have ih := segL_size (f.o + 1) t n h3 (by omega) hn
    have e1 := V.puts_len (f.o - a).toNat (by omega)
    have e2 : f.r.put.size ≤ 600 := putT_size _ _ _ _
    simp only [segL, ByteArray.size_append, V.put_size, List.length_cons]
    omega
theorem segL_take {a : Int} {l : List L4.Fd} {k : Nat} {f : L4.Fd} (h : l[k]? = some f) : segL a (l.take (k + 1)) = segL a (l.take k) ++ V.put (f.o - lastO a (l.take k)).toNat ++ f.r.put ∧ lastO a (l.take (k + 1)) = f.o + 1 := by
  have e : l.take (k + 1) = l.take k ++ [f] := by rw [List.take_add_one, h]; rfl
  rw [e, segL_snoc, lastO_snoc]
  exact ⟨rfl, rfl⟩

theorem load_bad (base next : Int) (A : Option Addr) (l : List L4.Fd) (n cap B : Nat) (x : Int) (w : World) (hR : Hid (ReadsF w B A l)) (hB : B ≤ w.heap.size) (hn : l.length = n) (hl : n ≤ maxLen) (hs : Hid (∀ f ∈ l, f.r.key.size ≤ maxLen ∧ f.r.val.size ≤ maxLen)) (HX : Hid (loadE base next l = x)) (hx : x ≠ 0) :
    Calls Try.prog 82 #[.int .i64 base, .int .i64 next, .slice A n cap] w fun e w' => e = .returned (.tuple #[.pointer none, .int .i64 x]) ∧ Below w.heap.size w w' := by
  subst hn
  refine (load_is base next A l cap B x w hR hB hl hs HX).mono ?_
  rintro e w1 ⟨hb1, ⟨_, he⟩ | ⟨q, _⟩⟩
  · exact ⟨he, hb1⟩
  · exact absurd q hx
theorem load_fine (base next : Int) (A : Option Addr) (l : List L4.Fd) (n cap B : Nat) (w : World) (hR : Hid (ReadsF w B A l)) (hB : B ≤ w.heap.size) (hn : l.length = n) (hl : n ≤ maxLen) (hs : Hid (∀ f ∈ l, f.r.key.size ≤ maxLen ∧ f.r.val.size ≤ maxLen)) (HX : Hid (loadE base next l = 0)) :
    Calls Try.prog 82 #[.int .i64 base, .int .i64 next, .slice A n cap] w fun e w' => ∃ g, e = .returned (.tuple #[.pointer (some ⟨g, 0, none⟩), .int .i64 0]) ∧ Below w.heap.size w w' := by
  subst hn
  refine (load_is base next A l cap B 0 w hR hB hl hs HX).mono ?_
  rintro e w1 ⟨hb1, ⟨q, _⟩ | ⟨_, g, A', c', he, _⟩⟩
  · exact absurd rfl q
  · exact ⟨g, he, hb1⟩
theorem row3_facts {w w' : World} {k : Nat} {T : TypeId} {x y z : Value} (h : w.heap[k]? = some (.cells #[x, y, z] T (0, 0))) (b : Below w.heap.size w w') (hk : k < w.heap.size) :
    w'.cell? ⟨k, 0, none⟩ = some x ∧ w'.cell? ⟨k, 1, none⟩ = some y ∧ w'.cell? ⟨k, 2, none⟩ = some z := by
  have h' := (b.block k hk).trans h
  simp [World.cell?, h']

set_option maxRecDepth 100000 in
set_option maxHeartbeats 2000000 in
theorem text_no (base next : Int) (A : Option Addr) (l : List L4.Fd) (n cap B : Nat) (x : Int) (w : World) (hR : Hid (ReadsF w B A l)) (hB : B ≤ w.heap.size) (hn : l.length = n) (hl : n ≤ maxLen) (hs : Hid (∀ f ∈ l, f.r.key.size ≤ maxLen ∧ f.r.val.size ≤ maxLen)) (HX : Hid (loadE base next l = x)) (hx : (x != 0) = true) :
    Calls Try.prog 36 #[.agg #[.int .i64 base, .int .i64 next, .slice A n cap]] w fun e w' => e = .returned (.tuple #[.string ⟨#[]⟩, .int .i64 x]) ∧ Below w.heap.size w w' := by
  have hx0 : x ≠ 0 := by simpa using hx
  have hR1 : Hid (ReadsF (w.alloc (.cells #[.int .i64 base, .int .i64 next, .slice A n cap] 53)) B A l) := Lib.hid (hR.out.below ((one_box _).mono hB))
  have HN := Lib.hid hn
  clear hn
  go_enter Try.func36, Try.ntmps36
  go_wp2_with (go_at_call 82; refine (load_bad base next A l n cap B x _ hR1 (by simp; omega) HN.out hl hs HX hx0).mono ?_; rintro e w1 ⟨rfl, hb1⟩)
  go_ret2
  exact ⟨rfl, (one_box _).trans (hb1.mono (by simp))⟩

theorem first_cell {w : World} {k : Nat} {T : TypeId} {x y z u v : Value} (h : w.heap[k]? = some (.cells #[x, y, z, u, v] T (0, 0))) : w.cell? ⟨k, 0, none⟩ = some x := by simp [World.cell?, h]
theorem found_no {w : World} {k : Nat} {cs : Array Value} {fr : Nat × Nat} (h : w.heap[k]? = some (.cells cs 43 fr)) : ∀ cs' fr', w.heap[k]? ≠ some (.cells cs' 5 fr') := fun cs' fr' e => by
  rw [h] at e
  injection e with e; injection e with _ e2 _
  exact absurd e2 (by decide)
set_option maxRecDepth 100000 in
set_option maxHeartbeats 4000000 in
theorem text_ok (base next : Nat) (A : Option Addr) (l : List L4.Fd) (n cap B : Nat) (s : ByteArray) (w : World) (hR : Hid (ReadsF w B A l)) (hB : B ≤ w.heap.size) (hn : l.length = n) (HX : Hid (loadE base next l = 0)) (HS : Hid (textS base next l = s)) :
    Calls Try.prog 36 #[.agg #[.int .i64 base, .int .i64 next, .slice A n cap]] w fun e w' => e = .returned (.tuple #[.string s, .int .i64 0]) ∧ Below w.heap.size w w' := by
  have G := load_good HX.out
  have hl : n ≤ 64 := by rw [← hn]; exact G.len
  have hb0 : base ≤ 1099511627776 := by have := G.bn; have := G.n1; omega
  have hn0 : next ≤ 1099511627776 := by have := G.n1; omega
  have hs : Hid (∀ f ∈ l, f.r.key.size ≤ maxLen ∧ f.r.val.size ≤ maxLen) := Lib.hid (fun f hf => by have := G.small f hf; unfold maxLen; omega)
  have HG := Lib.hid G
  have hR1 : Hid (ReadsF (w.alloc (.cells #[.int .i64 base, .int .i64 next, .slice A n cap] 53)) B A l) := Lib.hid (hR.out.below ((one_box _).mono hB))
  obtain ⟨x, hx⟩ : ∃ x, three base next n = x := ⟨_, rfl⟩
  have x1 : x.size ≤ 30 := by rw [← hx]; exact three_size _ _ _ (by omega) (by omega) (by omega)
  have HX3 := Lib.hid hx
  have HN := Lib.hid hn
  clear hn hx G
  go_enter Try.func36, Try.ntmps36
  go_wp2_with (first
    | (go_at_call 85; have _q := c21; refine (write_is w1.heap.size w1.heap.size ⟨#[]⟩ x x _ HH2 (Lib.hid (empty_app x)) (by decide) (by omega) hz2).mono ?_; rintro e w3 ⟨rfl, hh3, hb3, _⟩; have hx3 : Below w1.heap.size w1 w3 := (one_box _).trans ((hb2.mono (by simp)).trans (hb3.mono (Nat.le_refl _))); obtain ⟨c30, c31, c32⟩ := row3_facts HR1.out hx3 hlt1)
    | (go_at_call 86; refine (put3_is base next n x _ (by omega) (by omega) (by omega) HX3).mono ?_; rintro e w2 ⟨rfl, hb2⟩; have HH2 := Lib.hid ((Has.new w1).below hb2); have hz2 : w1.heap.size ≤ w2.heap.size := (by have := hb2.size; simp at this; omega); obtain ⟨c20, c21, c22⟩ := row3_facts HR1.out ((one_box _).trans (hb2.mono (by simp))) hlt1)
    | (go_at_call 82; refine (load_fine base next A l n cap B _ hR1 (by simp; omega) HN.out (by unfold maxLen; omega) hs HX).mono ?_; rintro e w1 ⟨g, rfl, hb1⟩; have HR1 : Hid (w1.heap[w.heap.size]? = some (.cells #[.int .i64 base, .int .i64 next, .slice A n cap] 53 (0, 0))) := Lib.hid ((hb1.block _ (by simp)).trans (heap_alloc_new _ _)); have hlt1 : w.heap.size < w1.heap.size := (by have := hb1.size; simp at this; omega); obtain ⟨c10, c11, c12⟩ := row3_facts (heap_alloc_new w _) hb1 (by simp)))
  have hR3 : ReadsF w1 B A l := hR1.out.below (hb1.mono (by simp; omega))
  have HX0 : Hid (Below w.heap.size w w1) := Lib.hid ((one_box _).trans (hb1.mono (by simp)))
  have HH3 := Lib.hid hh3
  have HX1 := Lib.hid hx3
  have hlen2 : x.size + 0 ≤ 30 := by omega
  clear hb1 hb2 hh3 hb3 hx3 c10 c11 c12 c20 c21 c22 HH2
  go_loopw [7, 40] (fun v i wr => ∃ (k : Nat) (a : Int) (t : ByteArray), k ≤ n ∧ i = .int .i64 k ∧ v = .int .i64 a ∧ 0 ≤ a ∧ a ≤ 1099511627777 ∧ t.size ≤ 30 + k * 610 ∧ Hid (lastO base (l.take k) = a) ∧ Hid (x ++ segL base (l.take k) = t) ∧ Hid (Has w1.heap.size w1.heap.size t wr) ∧ Hid (Below w1.heap.size w1 wr)) (fun _ i _ => n - (intOf i).toNat)
  case atStart => exact ⟨0, base, x, by omega, rfl, rfl, by omega, by omega, by omega, Lib.hid rfl, Lib.hid (app_empty x), HH3, HX1⟩
  case round =>
    obtain ⟨k, a, t, hk, rfl, rfl, ha0, ha1, ht, HA, HT, HH, HB⟩ := hrel
    have c0 := (row3_facts HR1.out HB.out hlt1).1
    have c2 := (row3_facts HR1.out HB.out hlt1).2.2
    by_cases hlt : k < n
    · obtain ⟨ga, rfl, hga, hcells⟩ := hR3 (by rw [HN.out]; omega)
      obtain ⟨⟨o, ⟨hk', key, tb, val⟩⟩, hf⟩ : ∃ f, l[k]? = some f := ⟨_, List.getElem?_eq_getElem (by rw [HN.out]; omega)⟩
      obtain ⟨d0, d1, d2, d3, d4⟩ := hcells k _ hf
      dsimp only at d0 d1 d2 d3 d4
      have hga' : ga < w1.heap.size := World.block_lt_of_cell? _ _ d0
      replace d0 := (HB.out.cell (p := ⟨ga, k * 5, none⟩) hga').trans d0
      replace d1 := (HB.out.cell (p := ⟨ga, k * 5 + 1, none⟩) hga').trans d1
      replace d2 := (HB.out.cell (p := ⟨ga, k * 5 + 2, none⟩) hga').trans d2
      replace d3 := (HB.out.cell (p := ⟨ga, k * 5 + 3, none⟩) hga').trans d3
      replace d4 := (HB.out.cell (p := ⟨ga, k * 5 + 4, none⟩) hga').trans d4
      have hmem := List.mem_of_getElem? hf
      have hchk : chk hk' key tb val = 0 := HG.out.chk _ hmem
      obtain ⟨q1, q2, q3⟩ := rise_last HG.out.rise hf
      dsimp only at q2 q3
      rw [HA.out] at q1 q2
      have hn1 := HG.out.n1
      obtain ⟨hs1, hs2⟩ := hs.out _ hmem
      dsimp only at hs1 hs2
      have o0 : 0 ≤ o := by omega
      have o1 : o ≤ 1099511627776 := by omega
      obtain ⟨dl, hdl⟩ : ∃ dl : Nat, o - a = (dl : Int) := ⟨(o - a).toNat, by omega⟩
      have dl1 : dl ≤ 1099511627776 := by omega
      obtain ⟨p, hp⟩ : ∃ p, putT hk' key tb val = p := ⟨_, rfl⟩
      have hps : p.size ≤ 600 := by rw [← hp]; exact putT_size _ _ _ _
      obtain ⟨v, hv⟩ : ∃ v, V.put dl = v := ⟨_, rfl⟩
      have hvs : v.size ≤ 10 := by rw [← hv, V.put_size]; exact V.puts_len _ (by omega)
      obtain ⟨t2, ht2⟩ : ∃ t2, t ++ v = t2 := ⟨_, rfl⟩
      have h2s : t2.size ≤ 40 + k * 610 := by rw [← ht2, ByteArray.size_append]; omega
      obtain ⟨t3, ht3⟩ : ∃ t3, t2 ++ p = t3 := ⟨_, rfl⟩
      have h3s : t3.size ≤ 30 + (k + 1) * 610 := by rw [← ht3, ByteArray.size_append]; omega
      have HTK : Hid (x ++ segL base (l.take (k + 1)) = t3 ∧ lastO base (l.take (k + 1)) = o + 1) := Lib.hid (by
        obtain ⟨e1, e2⟩ := segL_take (a := (base : Int)) hf
        refine ⟨?_, e2⟩
        rw [e1, HA.out]
        dsimp only
        rw [hdl, Int.toNat_natCast, hv]
        show x ++ (segL base (l.take k) ++ v ++ putT hk' key tb val) = t3
        rw [hp, ← ht3, ← ht2, ← HT.out]
        simp only [ByteArray.append_assoc])
      have k0 : (0 : Int) ≤ (k : Int) := by omega
      have k1 : (k : Int) < (n : Int) := by omega
      have HCH := Lib.hid hchk
      have HP := Lib.hid hp
      have HV := Lib.hid hv
      have HT2 := Lib.hid ht2
      have HT3 := Lib.hid ht3
      have HZ : Hid (w1.heap.size ≤ wr.heap.size) := Lib.hid HB.out.size
      have HNB : Hid (wr.heap.size ≠ w1.heap.size) := Lib.hid (by have := HH.out.lt; omega)
      clear hchk hp hv ht2 ht3 hcells hf q1 q2 q3 hn1 hmem
      go_wp2_with (first
        | (go_at_call 85; have _q := e70; refine (write_is w1.heap.size w1.heap.size t2 p t3 _ HH7 HT3 (by omega) (by omega) HZ7.out).mono ?_; rintro e w8 ⟨rfl, hh8, hb8, hp8⟩; have HF8 := Lib.hid ((hp8 wr.heap.size HL7.out HNB.out (found_no HF7.out)).trans HF7.out); have e80 := first_cell HF8.out)
        | (go_at_call 85; have _q := e60; refine (write_is w1.heap.size w1.heap.size t v t2 _ HH6 HT2 (by omega) (by omega) HZ6.out).mono ?_; rintro e w7 ⟨rfl, hh7, hb7, hp7⟩; have HF7 := Lib.hid ((hp7 wr.heap.size HL6.out HNB.out (found_no HF6.out)).trans HF6.out); have HL7 : Hid (wr.heap.size < w7.heap.size) := Lib.hid (Nat.lt_of_lt_of_le HL6.out hb7.size); have e70 := first_cell HF7.out; have HH7 := Lib.hid hh7; have HZ7 : Hid (w1.heap.size ≤ w7.heap.size) := Lib.hid (Nat.le_trans HZ6.out hb7.size); clear hh7)
        | (go_at_call 88; have _q := e50; refine (vput_is dl v _ (by omega) HV).mono ?_; rintro e w6 ⟨rfl, hb6⟩; have HH6 := Lib.hid (HH5.out.below hb6); have HZ6 : Hid (w1.heap.size ≤ w6.heap.size) := Lib.hid (Nat.le_trans HZ5.out hb6.size); have HF6 := Lib.hid ((hb6.block _ HL5.out).trans HF5.out); have HL6 : Hid (wr.heap.size < w6.heap.size) := Lib.hid (Nat.lt_of_lt_of_le HL5.out hb6.size); have e60 := first_cell HF6.out)
        | (go_at_call 87; go_loud (refine (L3.put_is hk' key tb val 0 p _ hs1 hs2 HCH HP).mono ?_; rintro e w5 ⟨rfl, hb5⟩; have HH5 := Lib.hid ((HH.out.below (one_box _)).below hb5); have HZ5 : Hid (w1.heap.size ≤ w5.heap.size) := Lib.hid (by have hq := hb5.size; have := HZ.out; simp at hq; omega); have HL5 : Hid (wr.heap.size < w5.heap.size) := Lib.hid (by have := hb5.size; simp at this; omega); have HF5 := Lib.hid ((hb5.block wr.heap.size (by simp)).trans (heap_alloc_new wr _)); have e50 := first_cell HF5.out)))

      go_roundw
      case rel =>
        have hB8 : Below w1.heap.size w1 w8 := ((((HB.out.trans ((one_box _).mono HZ.out)).trans (hb5.mono (by have := HZ.out; simp; omega))).trans (hb6.mono HZ5.out)).trans hb7).trans hb8
        exact ⟨k + 1, o + 1, t3, by omega, by go_num, by go_num, by omega, by omega, by omega, Lib.hid HTK.out.2, Lib.hid HTK.out.1, Lib.hid hh8, Lib.hid hB8⟩
      case measure => simp [intOf]; omega
    · obtain rfl : k = n := by omega
      have hts : t = s := by
        rw [← HT.out, List.take_of_length_le (by rw [HN.out]; omega), ← HS.out, ← HX3.out]
        unfold textS
        rw [HN.out, Int.toNat_natCast, Int.toNat_natCast]
      subst hts
      have HZ : Hid (w1.heap.size ≤ wr.heap.size) := Lib.hid HB.out.size
      go_wp2_with (go_at_call 89; refine (text_any w1.heap.size w1.heap.size t _ HH HZ.out).mono ?_; rintro e w4 ⟨rfl, hb4⟩)
      go_ret2
      exact ⟨rfl, HX0.out.trans ((HB.out.trans hb4).mono HX0.out.size)⟩
end Go.Proofs.Ytlemcijgjebekaa.L7
