/-
  Contracts: the calls of a log that the caller itself made.
-/
import Derived.Test.YtflcggpeflagiaaPlCompact
namespace Go.Proofs.Ytflcggpeflagiaa.L6
open Go.RowKit Go.Shelf
open L3 L4 L5

theorem compact6_is {w : World} {room g cap : Nat} {P : Option Addr} {ps : List Pl} (N : Nat) (HL : Hid (PLog w room g P cap ps)) (G : Hid (GoodL room (ps.map (·.s)))) (hN : ps.length = N) (hN1 : N ≤ 1000) :
    Calls Try.prog 15 #[.pointer (some ⟨g, 0, none⟩)] w fun e W' => e = .returned (.int .i64 (comp (ps.map (·.s))).2.2) ∧ LStep w room g (blocks g P ps) (comp (ps.map (·.s))).1 W' :=
  callsIn_wide.1 (compact_in N HL G hN hN1)

/-! ### what Compact leaves is a log -/
/-- of the same places, each record of it was there -/
structure Like (l l' : List Sg) : Prop where
  len : l'.length = l.length
  at_ : ∀ (i : Nat) (s s' : Sg), l[i]? = some s → l'[i]? = some s' → s'.b = s.b ∧ s'.n = s.n ∧ (L5.Good s.b s.n s.L → L5.Good s'.b s'.n s'.L) ∧ s'.L.length ≤ s.L.length
theorem Like.refl (l : List Sg) : Like l l := ⟨rfl, fun i s s' h h' => by rw [h] at h'; cases h'; exact ⟨rfl, rfl, id, Nat.le_refl _⟩⟩
theorem like_step {l : List Sg} {N : Nat} {d : List Sg × List (List UInt8) × Nat} {i : Nat} (h : Like l d.1) : Like l (stepC N d i).1 := by
  unfold stepC
  split
  · exact h
  · rename_i s hs
    split
    · refine ⟨by rw [List.length_set]; exact h.len, fun j a b ha hb => ?_⟩
      rw [List.getElem?_set] at hb
      split at hb
      · rename_i hij
        subst hij
        split at hb
        · obtain ⟨q1, q2, q3, q4⟩ := h.at_ i a s ha hs
          cases hb
          exact ⟨q1, q2, fun g => keep_good (q3 g) _, Nat.le_trans (List.length_filter_le _ _) q4⟩
        · cases hb
      · exact h.at_ j a b ha hb
    · exact h
theorem comp_like (l : List Sg) : Like l (comp l).1 := by
  have key : ∀ (js : List Nat) (d : List Sg × List (List UInt8) × Nat), Like l d.1 → Like l (js.foldl (stepC l.length) d).1 := by
    intro js
    induction js with
    | nil => intro d h; exact h
    | cons a t ih => intro d h; exact ih _ (like_step h)
  exact key _ _ (Like.refl l)
theorem chained_like : ∀ {q : Option Int} {l l' : List Sg}, l'.length = l.length → (∀ (i : Nat) (s s' : Sg), l[i]? = some s → l'[i]? = some s' → s'.b = s.b ∧ s'.n = s.n) → chained q l → chained q l'
  | _, [], l', hl, _, _ => by
    have : l' = [] := List.eq_nil_of_length_eq_zero hl
    subst this; trivial
  | q, s :: t, l', hl, h, hc => by
    cases l' with
    | nil => simp at hl
    | cons s' t' =>
      obtain ⟨e1, e2⟩ := h 0 s s' rfl rfl
      refine ⟨fun x hx => e1.trans (hc.1 x hx), ?_⟩
      rw [e2]
      exact chained_like (by simpa using hl) (fun i a b ha hb => h (i + 1) a b (by simpa using ha) (by simpa using hb)) hc.2
theorem like_good {room : Nat} {l l' : List Sg} (h : Like l l') (g : GoodL room l) : GoodL room l' := by
  have key : ∀ s' ∈ l', ∃ s ∈ l, s'.b = s.b ∧ s'.n = s.n ∧ (L5.Good s.b s.n s.L → L5.Good s'.b s'.n s'.L) ∧ s'.L.length ≤ s.L.length := fun s' hs' => by
    obtain ⟨i, hi, e⟩ := List.mem_iff_getElem.1 hs'
    have h1 : l'[i]? = some s' := by rw [← e]; exact List.getElem?_eq_getElem _
    obtain ⟨s, hs⟩ : ∃ s, l[i]? = some s := ⟨_, List.getElem?_eq_getElem (by rw [← h.len]; exact hi)⟩
    exact ⟨s, List.mem_of_getElem? hs, h.at_ i s s' hs h1⟩
  refine ⟨g.r1, g.r64, by rw [h.len]; exact g.ne, fun s' hs' => ?_, fun s' hs' => ?_, chained_like h.len (fun i s s' a b => ⟨(h.at_ i s s' a b).1, (h.at_ i s s' a b).2.1⟩) g.chain⟩
  · obtain ⟨s, hs, _, _, h3, _⟩ := key s' hs'
    exact h3 (g.good s hs)
  · obtain ⟨s, hs, _, _, _, h4⟩ := key s' hs'
    exact Nat.le_trans h4 (g.few s hs)
theorem like_start {l l' : List Sg} (h : Like l l') : startL l' = startL l := by
  have hl := h.len
  cases l with
  | nil => have : l' = [] := List.eq_nil_of_length_eq_zero hl
           subst this; rfl
  | cons s t =>
    cases l' with
    | nil => simp at hl
    | cons s' t' => exact (h.at_ 0 s s' rfl rfl).1
theorem like_end {l l' : List Sg} (h : Like l l') : endL l' = endL l := by
  have hl := h.len
  by_cases h0 : 0 < l.length
  · obtain ⟨s, hs⟩ : ∃ s, l[l.length - 1]? = some s := ⟨_, List.getElem?_eq_getElem (by omega)⟩
    obtain ⟨s', hs'⟩ : ∃ s, l'[l.length - 1]? = some s := ⟨_, List.getElem?_eq_getElem (by omega)⟩
    rw [end_is hs, end_is (by rw [hl]; exact hs'), (h.at_ _ s s' hs hs').2.1]
  · have e1 : l = [] := List.eq_nil_of_length_eq_zero (by omega)
    have e2 : l' = [] := List.eq_nil_of_length_eq_zero (by omega)
    rw [e1, e2]

section
variable {w W : World} {room g : Nat} {l : List Sg} {S : List Nat}
theorem m6_append (h : Hid (LogAt w W room g l S)) (hN : l.length + 1 ≤ 1000) (X : Option Addr) (rs : List R) (n xc B : Nat) (hR : Hid (Reads W B X rs)) (hX : Hid (∀ k, blk X = some k → k ∉ S)) (hB : B ≤ W.heap.size) (hn : rs.length = n) (hrl : n ≤ maxLen) (hs : Hid (∀ r ∈ rs, r.key.size ≤ maxLen ∧ r.val.size ≤ maxLen)) (HX : Hid (appE room l rs = 0)) :
    Calls Try.prog 8 #[.pointer (some ⟨g, 0, none⟩), .slice X n xc] W fun e W' => e = .returned (.tuple #[.int .i64 (endL l), .int .i64 0]) ∧ Turned w W room g S (appL room rs l) W' := by
  obtain ⟨P, cap, ps, rfl, rfl, hp⟩ := h.out.log
  rw [List.length_map] at hN
  refine (append6_is X rs n xc B ps.length 0 (Lib.hid hp) (Lib.hid h.out.good) rfl hN hR hX hB hn hrl hs HX).mono ?_
  rintro e W' (⟨hz, _⟩ | ⟨_, he, hst⟩)
  · exact absurd rfl hz
  · exact ⟨he, h.out.turned hst (app_good h.out.good HX.out)⟩
theorem m6_append_no (h : Hid (LogAt w W room g l S)) (hN : l.length + 1 ≤ 1000) (X : Option Addr) (rs : List R) (n xc B : Nat) (x : Int) (hR : Hid (Reads W B X rs)) (hX : Hid (∀ k, blk X = some k → k ∉ S)) (hB : B ≤ W.heap.size) (hn : rs.length = n) (hrl : n ≤ maxLen) (hs : Hid (∀ r ∈ rs, r.key.size ≤ maxLen ∧ r.val.size ≤ maxLen)) (HX : Hid (appE room l rs = x)) (hx : x ≠ 0) :
    Calls Try.prog 8 #[.pointer (some ⟨g, 0, none⟩), .slice X n xc] W fun e W' => e = .returned (.tuple #[.int .i64 0, .int .i64 x]) ∧ Below W.heap.size W W' := by
  obtain ⟨P, cap, ps, rfl, rfl, hp⟩ := h.out.log
  rw [List.length_map] at hN
  refine (append6_is X rs n xc B ps.length x (Lib.hid hp) (Lib.hid h.out.good) rfl hN hR hX hB hn hrl hs HX).mono ?_
  rintro e W' (⟨_, he, hb⟩ | ⟨hz, _⟩)
  · exact ⟨he, hb⟩
  · exact absurd hz hx
theorem m6_read (h : Hid (LogAt w W room g l S)) (hN : l.length ≤ 1000) (a c : Int) (M : List L4.Fd) (m : Nat) (hc : c ≤ 9223372036854775807) (HX : Hid (readE l a = 0)) (HM : Hid (readL (allL l) a c = M)) (hm : M.length = m) :
    Calls Try.prog 10 #[.pointer (some ⟨g, 0, none⟩), .int .i64 a, .int .i64 c] W fun e W' => ∃ A cap, e = .returned (.tuple #[.slice A m cap, .int .i64 0]) ∧ W'.ownsRow W.heap.size 43 5 (.slice A m cap) m (rowF M) ∧ Below W.heap.size W W' := by
  obtain ⟨P, cap, ps, rfl, rfl, hp⟩ := h.out.log
  rw [List.length_map] at hN
  subst hm
  refine (read6_is a c ps.length 0 (Lib.hid hp) (Lib.hid h.out.good) rfl hN hc HX).mono ?_
  rintro e W' (⟨hz, _⟩ | ⟨_, hr⟩)
  · exact absurd rfl hz
  · rw [HM.out] at hr; exact hr
theorem m6_read_no (h : Hid (LogAt w W room g l S)) (hN : l.length ≤ 1000) (a c x : Int) (hc : c ≤ 9223372036854775807) (HX : Hid (readE l a = x)) (hx : x ≠ 0) :
    Calls Try.prog 10 #[.pointer (some ⟨g, 0, none⟩), .int .i64 a, .int .i64 c] W fun e W' => e = .returned (.tuple #[.slice none 0 0, .int .i64 x]) ∧ Below W.heap.size W W' := by
  obtain ⟨P, cap, ps, rfl, rfl, hp⟩ := h.out.log
  rw [List.length_map] at hN
  refine (read6_is a c ps.length x (Lib.hid hp) (Lib.hid h.out.good) rfl hN hc HX).mono ?_
  rintro e W' (⟨_, he, hb⟩ | ⟨hz, _⟩)
  · exact ⟨he, hb⟩
  · exact absurd hz hx
theorem m6_retain (h : Hid (LogAt w W room g l S)) (hN : l.length ≤ 1000) (a : Int) (d : Nat) (hd : Hid (retainN l a = d)) :
    Calls Try.prog 13 #[.pointer (some ⟨g, 0, none⟩), .int .i64 a] W fun e W' => e = .returned (.int .i64 d) ∧ Turned w W room g S (l.drop d) W' := by
  obtain ⟨P, cap, ps, rfl, rfl, hp⟩ := h.out.log
  rw [List.length_map] at hN
  refine (retain6_is a ps.length d (Lib.hid hp) (Lib.hid h.out.good) rfl hN hd.out).mono ?_
  rintro e W' ⟨he, hst⟩
  exact ⟨he, h.out.turned hst (drop_good h.out.good (by rw [← hd.out]; exact retain_lt a h.out.good.ne))⟩
theorem m6_compact (h : Hid (LogAt w W room g l S)) (hN : l.length ≤ 1000) (l' : List Sg) (y : Nat) (hl : Hid ((comp l).1 = l')) (hy : Hid ((comp l).2.2 = y)) :
    Calls Try.prog 15 #[.pointer (some ⟨g, 0, none⟩)] W fun e W' => e = .returned (.int .i64 y) ∧ Turned w W room g S l' W' := by
  obtain ⟨P, cap, ps, rfl, rfl, hp⟩ := h.out.log
  rw [List.length_map] at hN
  refine (compact6_is ps.length (Lib.hid hp) (Lib.hid h.out.good) rfl hN).mono ?_
  rintro e W' ⟨he, hst⟩
  have hg := like_good (comp_like _) h.out.good
  rw [hl.out] at hst hg
  rw [hy.out] at he
  exact ⟨he, h.out.turned hst hg⟩
theorem m6_span (h : Hid (LogAt w W room g l S)) (hN : l.length ≤ 1000) (x y : Int) (hx : Hid (startL l = x)) (hy : Hid (endL l = y)) :
    Calls Try.prog 33 #[.pointer (some ⟨g, 0, none⟩)] W fun e W' => e = .returned (.tuple #[.int .i64 x, .int .i64 y]) ∧ Below W.heap.size W W' := by
  obtain ⟨P, cap, ps, rfl, rfl, hp⟩ := h.out.log
  have h0 := h.out.good.ne
  rw [List.length_map] at hN h0
  rw [← hx.out, ← hy.out]
  exact logspan_is ps.length (Lib.hid hp) rfl h0 hN
theorem m6_bytes (h : Hid (LogAt w W room g l S)) (hN : l.length ≤ 1000) (y : Nat) (hy : Hid (bytesL (allL l) = y)) :
    Calls Try.prog 45 #[.pointer (some ⟨g, 0, none⟩)] W fun e W' => e = .returned (.int .i64 (y : Nat)) ∧ Below W.heap.size W W' := by
  obtain ⟨P, cap, ps, rfl, rfl, hp⟩ := h.out.log
  rw [List.length_map] at hN
  rw [← hy.out]
  exact bytes6_is ps.length (Lib.hid hp) (Lib.hid h.out.good) rfl hN
theorem m6_segs (h : Hid (LogAt w W room g l S)) (hN : l.length ≤ 1000) (n : Nat) (hn : l.length = n) :
    Calls Try.prog 48 #[.pointer (some ⟨g, 0, none⟩)] W fun e W' => ∃ X c ll, e = .returned (.slice X n c) ∧ n ≤ c ∧ ll.map Sa.s = l ∧ ReadsS W' W'.heap.size X ll ∧ (∀ k, blk X = some k → W.heap.size ≤ k) ∧ (∀ r ∈ ll, ∀ k, blk r.A = some k → W.heap.size ≤ k) ∧ Below W.heap.size W W' := by
  obtain ⟨P, cap, ps, rfl, rfl, hp⟩ := h.out.log
  rw [List.length_map] at hN
  subst hn
  exact segs6_is ps.length (Lib.hid hp) (Lib.hid h.out.good) rfl hN
end
theorem m6_new (room : Nat) (w W : World) (hb : Hid (Below w.heap.size w W)) (HX : Hid (newE6 room = 0)) :
    Calls Try.prog 5 #[.int .i64 room] W fun e W' => ∃ g S, e = .returned (.tuple #[.pointer (some ⟨g, 0, none⟩), .int .i64 0]) ∧ LogAt w W' room g [sg0] S ∧ Below W.heap.size W W' ∧ ∀ k ∈ S, W.heap.size ≤ k := by
  refine (new6_is room 0 W HX).mono ?_
  rintro e W' (⟨hx, _⟩ | ⟨_, g, S, rfl, hl⟩)
  · exact absurd rfl hx
  · have hz := hb.out.size
    rw [Int.toNat_natCast] at hl
    exact ⟨g, S, rfl, ⟨acc hb.out hl.old, fun k hk => by have := hl.since k hk; omega, hl.good, hl.log⟩, hl.old, hl.since⟩
/-- Load, of segments that read so -/
theorem m6_load {W : World} {X : Option Addr} {ll : List Sa} (room : Int) (n xc B : Nat) (l : List Sg) (hR : Hid (ReadsS W B X ll)) (hB : B ≤ W.heap.size) (hll : Hid (ll.map Sa.s = l)) (hn : l.length = n) (hl : n ≤ 1000) (hs : Hid (∀ s ∈ l, s.L.length ≤ maxLen ∧ ∀ f ∈ s.L, f.r.key.size ≤ maxLen ∧ f.r.val.size ≤ maxLen)) (HX : Hid (loadE6 room l = 0)) :
    Calls Try.prog 21 #[.int .i64 room, .slice X n xc] W fun e W' => ∃ g S, e = .returned (.tuple #[.pointer (some ⟨g, 0, none⟩), .int .i64 0]) ∧ LogAt W W' room.toNat g l S := by
  obtain rfl := hll.out
  rw [List.length_map] at hn
  refine (load6_is room X ll n xc B 0 W hR hB hn hl (Lib.hid (fun s h => hs.out s.s (List.mem_map_of_mem h))) HX).mono ?_
  rintro e W' (⟨hx, _⟩ | ⟨_, g, S, rfl, h⟩)
  · exact absurd rfl hx
  · exact ⟨g, S, rfl, h⟩
theorem m6_load_no {W : World} {X : Option Addr} {ll : List Sa} (room x : Int) (n xc B : Nat) (l : List Sg) (hR : Hid (ReadsS W B X ll)) (hB : B ≤ W.heap.size) (hll : Hid (ll.map Sa.s = l)) (hn : l.length = n) (hl : n ≤ 1000) (hs : Hid (∀ s ∈ l, s.L.length ≤ maxLen ∧ ∀ f ∈ s.L, f.r.key.size ≤ maxLen ∧ f.r.val.size ≤ maxLen)) (HX : Hid (loadE6 room l = x)) (hx : x ≠ 0) :
    Calls Try.prog 21 #[.int .i64 room, .slice X n xc] W fun e W' => e = .returned (.tuple #[.pointer none, .int .i64 x]) ∧ Below W.heap.size W W' := by
  obtain rfl := hll.out
  rw [List.length_map] at hn
  refine (load6_is room X ll n xc B x W hR hB hn hl (Lib.hid (fun s h => hs.out s.s (List.mem_map_of_mem h))) HX).mono ?_
  rintro e W' (⟨_, rfl, hb⟩ | ⟨h0, _⟩)
  · exact ⟨rfl, hb⟩
  · exact absurd h0 hx
end Go.Proofs.Ytflcggpeflagiaa.L6
