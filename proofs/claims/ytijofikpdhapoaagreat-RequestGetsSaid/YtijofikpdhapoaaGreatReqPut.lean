/-
  A command's bytes; contracts: the program's own Put.
-/
import Derived.Test.YtijofikpdhapoaaGreatReqWrite
import Derived.Test.YtijofikpdhapoaaGreatReqWriter
import Derived.Test.YtijofikpdhapoaaGreatReqOwn
import Derived.Test.YtijofikpdhapoaaGreatMRecBack
namespace Go.Proofs.YtijofikpdhapoaaGreat.L4
open Go.RowKit
open L3

/-- the bytes of what stands in a cell -/
def itemB (o : O) : Nat → ByteArray
  | 1 => txt o.topic
  | 2 => V.put o.pn.toNat
  | 3 => V.put o.n.toNat
  | 4 => V.put o.off.toNat
  | 5 => batT o.bp o.be o.bq o.recs
  | 9 => txt o.group
  | 10 => txt o.member
  | 11 => V.put o.gen.toNat
  | 12 => if o.robin then ⟨#[1]⟩ else ⟨#[0]⟩
  | 13 => topsT o.tops
  | _ => ⟨#[]⟩
def catB (o : O) (S : ByteArray) (ks : List Nat) : ByteArray := ks.foldl (fun S k => S ++ itemB o k) S
def O.bytes (o : O) : ByteArray := catB o (V.put o.kind) (hasK o.kind)

/-- what a command that may be is like, as far as its kind has it -/
structure Good (o : O) (ks : List Nat) : Prop where
  s1 : 1 ∈ ks → nameB o.topic = true
  s9 : 9 ∈ ks → nameB o.group = true
  s10 : 10 ∈ ks → nameB o.member = true
  s13 : 13 ∈ ks → namesB o.tops = true
  n2 : 2 ∈ ks → 0 ≤ o.pn ∧ o.pn ≤ 1099511627776
  n3 : 3 ∈ ks → 0 ≤ o.n ∧ o.n ≤ 1099511627776
  n4 : 4 ∈ ks → 0 ≤ o.off ∧ o.off ≤ 1099511627776
  n11 : 11 ∈ ks → 0 ≤ o.gen ∧ o.gen ≤ 1099511627776
  b5 : 5 ∈ ks → allN o.bp o.be o.bq o.recs = 0

theorem chk_ok {o : O} (hk : o.kind ≤ 12) (h : o.chk = 0) : o.all (hasK o.kind) ∧ Good o (hasK o.kind) := by
  obtain ⟨b, hb⟩ : ∃ b : Bool, b = true ↔ o.all (hasK o.kind) := ⟨@decide (o.all (hasK o.kind)) (Classical.propDecidable _), by simp⟩
  have hc := chk_kind o hk b hb
  rw [h] at hc
  generalize hasK o.kind = ks at *
  by_cases h1 : (noForm o ks || !b) = true
  · rw [if_pos h1] at hc
    exact absurd hc (by decide)
  · rw [if_neg h1] at hc
    by_cases h2 : noNum o ks = true
    · rw [if_pos h2] at hc
      exact absurd hc (by decide)
    · rw [if_neg h2] at hc
      simp only [Bool.or_eq_true, not_or, Bool.not_eq_true', Bool.not_eq_true, Bool.not_eq_false] at h1 h2
      obtain ⟨h1, h3⟩ := h1
      simp only [noForm, noNum, Bool.or_eq_false_iff, Bool.and_eq_false_iff, decide_eq_false_iff_not, Bool.not_eq_false', numB, decide_eq_true_eq] at h1 h2
      obtain ⟨⟨⟨a1, a9⟩, a10⟩, a13⟩ := h1
      obtain ⟨⟨⟨m2, m3⟩, m4⟩, m11⟩ := h2
      refine ⟨hb.1 h3, ⟨fun q => a1.resolve_left (fun f => f q), fun q => a9.resolve_left (fun f => f q), fun q => a10.resolve_left (fun f => f q), fun q => a13.resolve_left (fun f => f q), fun q => m2.resolve_left (fun f => f q), fun q => m3.resolve_left (fun f => f q), fun q => m4.resolve_left (fun f => f q), fun q => m11.resolve_left (fun f => f q), fun q => ?_⟩⟩
      unfold noBat at hc
      rw [if_pos q] at hc
      exact hc

theorem name_size {s : ByteArray} (h : nameB s = true) : 1 ≤ s.size ∧ s.size ≤ 16 := by
  unfold nameB at h
  exact of_decide_eq_true (Bool.and_eq_true_iff.1 h).1
theorem names_size {l : List ByteArray} (h : namesB l = true) : (1 ≤ l.length ∧ l.length ≤ 8) ∧ ∀ s ∈ l, nameB s = true := by
  unfold namesB at h
  obtain ⟨h1, h2⟩ := Bool.and_eq_true_iff.1 h
  refine ⟨of_decide_eq_true h1, fun s hs => ?_⟩
  obtain ⟨i, hi, he⟩ := List.getElem_of_mem hs
  have := List.all_eq_true.1 h2 i (List.mem_range.2 hi)
  unfold okAt at this
  have h3 := (Bool.and_eq_true_iff.1 this).1
  rwa [getD_at (by rw [List.getElem?_eq_getElem hi, he])] at h3
theorem good_size {o : O} {ks : List Nat} (g : Good o ks) : ∀ k ∈ ks, (itemB o k).size ≤ 20000 := by
  intro k hk
  unfold itemB
  split
  · have := name_size (g.s1 hk); have h2 := txt_size o.topic (by omega); omega
  · have := put_le o.pn (g.n2 hk).2; omega
  · have := put_le o.n (g.n3 hk).2; omega
  · have := put_le o.off (g.n4 hk).2; omega
  · have h := g.b5 hk
    have h1 := (bat_bounds h).2
    have h2 := sumL_le o.recs o.recs.length
    rw [List.take_length] at h2
    obtain ⟨_, _, _, _, h3, _⟩ := allN_ok h
    omega
  · have := name_size (g.s9 hk); have h2 := txt_size o.group (by omega); omega
  · have := name_size (g.s10 hk); have h2 := txt_size o.member (by omega); omega
  · have := put_le o.gen (g.n11 hk).2; omega
  · split <;> simp [one_size]
  · obtain ⟨h1, h2⟩ := names_size (g.s13 hk)
    have h3 := catS_size o.tops (fun s hs => by have := name_size (h2 s hs); omega)
    have h4 := put_le (o.tops.length : Int) (by omega)
    rw [show ((o.tops.length : Int)).toNat = o.tops.length by omega] at h4
    unfold topsT
    rw [ByteArray.size_append]
    omega
  · show 0 ≤ _; omega

set_option maxHeartbeats 4000000 in
theorem wvisit (o : O) (RA TA : Option Addr) (rc tc : Nat) (W0 : World) (P H : Nat) (hk : o.kind ≤ 12) (hP : W0.heap.size ≤ P) (B : Nat) (hB : B ≤ W0.heap.size) (g : Good o (hasK o.kind))
    (hR : Hid (Reads W0 B RA o.recs)) (hs : Hid (∀ r ∈ o.recs, r.key.size ≤ maxLen ∧ r.val.size ≤ maxLen)) (hT : Hid (ReadsT W0 B TA o.tops)) (S : ByteArray) (w : World) (hS : S.size ≤ 10) (h : (writerV W0 P (itemB o)).Inv S w) :
    Calls Tryz.prog 13 #[.iface 91 (.pointer (some ⟨P, 0, none⟩)), .agg #[.int .i64 o.kind, .string o.topic, .int .i64 o.pn, .int .i64 o.n, .int .i64 o.off, .int .i64 o.bp, .int .i64 o.be, .int .i64 o.bq, .slice RA o.recs.length rc, .string o.group, .string o.member, .int .i64 o.gen, .bool o.robin, .slice TA o.tops.length tc], .pointer (some ⟨H, 0, none⟩)] w ((writerV W0 P (itemB o)).post (catB o S (hasK o.kind)) w) := by
  have F : Fits (writerV W0 P (itemB o)) := writer_fits
  have SZ := good_size g
  obtain ⟨k, hko⟩ : ∃ k, o.kind = k := ⟨_, rfl⟩
  rw [hko] at hk g SZ ⊢
  have hc : k = 0 ∨ k = 1 ∨ k = 2 ∨ k = 3 ∨ k = 4 ∨ k = 5 ∨ k = 6 ∨ k = 7 ∨ k = 8 ∨ k = 9 ∨ k = 10 ∨ k = 11 ∨ k = 12 := by omega
  rcases hc with rfl | rfl | rfl | rfl | rfl | rfl | rfl | rfl | rfl | rfl | rfl | rfl | rfl
  · exact Writer.visit_0 _ F P H _ _ _ _ _ _ _ _ _ _ _ _ _ w _ h (fun st w hg h => w_name hP o.topic (txt o.topic) _ (Lib.hid (by have := name_size (g.s1 (by decide)); omega)) (Lib.hid rfl) st w (Nat.le_trans hg (by omega)) h) (fun st w hg h => w_number hP o.n (V.put o.n.toNat) _ (g.n3 (by decide)).1 (g.n3 (by decide)).2 (Lib.hid rfl) st w (Nat.le_trans hg (by omega)) h) (show (S).size ≤ 200000 by omega) (show (S ++ itemB o 1).size ≤ 200000 by have q1 := SZ 1 (by decide); simp only [ByteArray.size_append]; omega)
  · exact Writer.visit_1 _ F P H _ _ _ _ _ _ _ _ _ _ _ _ _ w _ h (fun st w hg h => w_number hP o.n (V.put o.n.toNat) _ (g.n3 (by decide)).1 (g.n3 (by decide)).2 (Lib.hid rfl) st w (Nat.le_trans hg (by omega)) h) (show (S).size ≤ 200000 by omega)
  · exact Writer.visit_2 _ F P H _ _ _ _ _ _ _ _ _ _ _ _ _ w _ h (fun st w hg h => w_name hP o.topic (txt o.topic) _ (Lib.hid (by have := name_size (g.s1 (by decide)); omega)) (Lib.hid rfl) st w (Nat.le_trans hg (by omega)) h) (fun st w hg h => w_number hP o.pn (V.put o.pn.toNat) _ (g.n2 (by decide)).1 (g.n2 (by decide)).2 (Lib.hid rfl) st w (Nat.le_trans hg (by omega)) h) (fun st w hg h => w_batch hP o.bp o.be o.bq RA o.recs rc B (batT o.bp o.be o.bq o.recs) _ hR hB hs (Lib.hid (g.b5 (by decide))) (Lib.hid rfl) st w (by have q1 : (batT o.bp o.be o.bq o.recs).size ≤ 20000 := SZ 5 (by decide); have q2 : st.size ≤ 200000 := hg; omega) h) (show (S).size ≤ 200000 by omega) (show (S ++ itemB o 1).size ≤ 200000 by have q1 := SZ 1 (by decide); simp only [ByteArray.size_append]; omega) (show (S ++ itemB o 1 ++ itemB o 2).size ≤ 200000 by have q1 := SZ 1 (by decide); have q2 := SZ 2 (by decide); simp only [ByteArray.size_append]; omega)
  · exact Writer.visit_3 _ F P H _ _ _ _ _ _ _ _ _ _ _ _ _ w _ h (fun st w hg h => w_name hP o.topic (txt o.topic) _ (Lib.hid (by have := name_size (g.s1 (by decide)); omega)) (Lib.hid rfl) st w (Nat.le_trans hg (by omega)) h) (fun st w hg h => w_number hP o.pn (V.put o.pn.toNat) _ (g.n2 (by decide)).1 (g.n2 (by decide)).2 (Lib.hid rfl) st w (Nat.le_trans hg (by omega)) h) (fun st w hg h => w_number hP o.n (V.put o.n.toNat) _ (g.n3 (by decide)).1 (g.n3 (by decide)).2 (Lib.hid rfl) st w (Nat.le_trans hg (by omega)) h) (fun st w hg h => w_number hP o.off (V.put o.off.toNat) _ (g.n4 (by decide)).1 (g.n4 (by decide)).2 (Lib.hid rfl) st w (Nat.le_trans hg (by omega)) h) (show (S).size ≤ 200000 by omega) (show (S ++ itemB o 1).size ≤ 200000 by have q1 := SZ 1 (by decide); simp only [ByteArray.size_append]; omega) (show (S ++ itemB o 1 ++ itemB o 2).size ≤ 200000 by have q1 := SZ 1 (by decide); have q2 := SZ 2 (by decide); simp only [ByteArray.size_append]; omega) (show (S ++ itemB o 1 ++ itemB o 2 ++ itemB o 4).size ≤ 200000 by have q1 := SZ 1 (by decide); have q2 := SZ 2 (by decide); have q4 := SZ 4 (by decide); simp only [ByteArray.size_append]; omega)
  · exact Writer.visit_4 _ F P H _ _ _ _ _ _ _ _ _ _ _ _ _ w _ h (fun st w hg h => w_name hP o.topic (txt o.topic) _ (Lib.hid (by have := name_size (g.s1 (by decide)); omega)) (Lib.hid rfl) st w (Nat.le_trans hg (by omega)) h) (fun st w hg h => w_number hP o.pn (V.put o.pn.toNat) _ (g.n2 (by decide)).1 (g.n2 (by decide)).2 (Lib.hid rfl) st w (Nat.le_trans hg (by omega)) h) (fun st w hg h => w_number hP o.off (V.put o.off.toNat) _ (g.n4 (by decide)).1 (g.n4 (by decide)).2 (Lib.hid rfl) st w (Nat.le_trans hg (by omega)) h) (show (S).size ≤ 200000 by omega) (show (S ++ itemB o 1).size ≤ 200000 by have q1 := SZ 1 (by decide); simp only [ByteArray.size_append]; omega) (show (S ++ itemB o 1 ++ itemB o 2).size ≤ 200000 by have q1 := SZ 1 (by decide); have q2 := SZ 2 (by decide); simp only [ByteArray.size_append]; omega)
  · exact Writer.visit_5 _ F P H _ _ _ _ _ _ _ _ _ _ _ _ _ w _ h (fun st w hg h => w_name hP o.topic (txt o.topic) _ (Lib.hid (by have := name_size (g.s1 (by decide)); omega)) (Lib.hid rfl) st w (Nat.le_trans hg (by omega)) h) (fun st w hg h => w_number hP o.pn (V.put o.pn.toNat) _ (g.n2 (by decide)).1 (g.n2 (by decide)).2 (Lib.hid rfl) st w (Nat.le_trans hg (by omega)) h) (show (S).size ≤ 200000 by omega) (show (S ++ itemB o 1).size ≤ 200000 by have q1 := SZ 1 (by decide); simp only [ByteArray.size_append]; omega)
  · exact Writer.visit_6 _ F P H _ _ _ _ _ _ _ _ _ _ _ _ _ w _ h (fun st w hg h => w_number hP o.n (V.put o.n.toNat) _ (g.n3 (by decide)).1 (g.n3 (by decide)).2 (Lib.hid rfl) st w (Nat.le_trans hg (by omega)) h) (fun st w hg h => w_name hP o.group (txt o.group) _ (Lib.hid (by have := name_size (g.s9 (by decide)); omega)) (Lib.hid rfl) st w (Nat.le_trans hg (by omega)) h) (fun st w hg h => w_name hP o.member (txt o.member) _ (Lib.hid (by have := name_size (g.s10 (by decide)); omega)) (Lib.hid rfl) st w (Nat.le_trans hg (by omega)) h) (fun st w hg h => w_robin hP o.robin _ st w (Nat.le_trans hg (by omega)) h) (fun st w hg h => w_topics hP TA o.tops tc B _ hT hB (by have := (names_size (g.s13 (by decide))).1; omega) (Lib.hid (fun s hs => by have := name_size ((names_size (g.s13 (by decide))).2 s hs); omega)) st w (Nat.le_trans hg (by omega)) h) (show (S).size ≤ 200000 by omega) (show (S ++ itemB o 9).size ≤ 200000 by have q9 := SZ 9 (by decide); simp only [ByteArray.size_append]; omega) (show (S ++ itemB o 9 ++ itemB o 10).size ≤ 200000 by have q9 := SZ 9 (by decide); have q10 := SZ 10 (by decide); simp only [ByteArray.size_append]; omega) (show (S ++ itemB o 9 ++ itemB o 10 ++ itemB o 3).size ≤ 200000 by have q9 := SZ 9 (by decide); have q10 := SZ 10 (by decide); have q3 := SZ 3 (by decide); simp only [ByteArray.size_append]; omega) (show (S ++ itemB o 9 ++ itemB o 10 ++ itemB o 3 ++ itemB o 12).size ≤ 200000 by have q9 := SZ 9 (by decide); have q10 := SZ 10 (by decide); have q3 := SZ 3 (by decide); have q12 := SZ 12 (by decide); simp only [ByteArray.size_append]; omega)
  · exact Writer.visit_7 _ F P H _ _ _ _ _ _ _ _ _ _ _ _ _ w _ h (fun st w hg h => w_name hP o.group (txt o.group) _ (Lib.hid (by have := name_size (g.s9 (by decide)); omega)) (Lib.hid rfl) st w (Nat.le_trans hg (by omega)) h) (fun st w hg h => w_name hP o.member (txt o.member) _ (Lib.hid (by have := name_size (g.s10 (by decide)); omega)) (Lib.hid rfl) st w (Nat.le_trans hg (by omega)) h) (fun st w hg h => w_number hP o.gen (V.put o.gen.toNat) _ (g.n11 (by decide)).1 (g.n11 (by decide)).2 (Lib.hid rfl) st w (Nat.le_trans hg (by omega)) h) (show (S).size ≤ 200000 by omega) (show (S ++ itemB o 9).size ≤ 200000 by have q9 := SZ 9 (by decide); simp only [ByteArray.size_append]; omega) (show (S ++ itemB o 9 ++ itemB o 10).size ≤ 200000 by have q9 := SZ 9 (by decide); have q10 := SZ 10 (by decide); simp only [ByteArray.size_append]; omega)
  · exact Writer.visit_8 _ F P H _ _ _ _ _ _ _ _ _ _ _ _ _ w _ h (fun st w hg h => w_name hP o.group (txt o.group) _ (Lib.hid (by have := name_size (g.s9 (by decide)); omega)) (Lib.hid rfl) st w (Nat.le_trans hg (by omega)) h) (fun st w hg h => w_name hP o.member (txt o.member) _ (Lib.hid (by have := name_size (g.s10 (by decide)); omega)) (Lib.hid rfl) st w (Nat.le_trans hg (by omega)) h) (fun st w hg h => w_number hP o.gen (V.put o.gen.toNat) _ (g.n11 (by decide)).1 (g.n11 (by decide)).2 (Lib.hid rfl) st w (Nat.le_trans hg (by omega)) h) (show (S).size ≤ 200000 by omega) (show (S ++ itemB o 9).size ≤ 200000 by have q9 := SZ 9 (by decide); simp only [ByteArray.size_append]; omega) (show (S ++ itemB o 9 ++ itemB o 10).size ≤ 200000 by have q9 := SZ 9 (by decide); have q10 := SZ 10 (by decide); simp only [ByteArray.size_append]; omega)
  · exact Writer.visit_9 _ F P H _ _ _ _ _ _ _ _ _ _ _ _ _ w _ h (fun st w hg h => w_name hP o.group (txt o.group) _ (Lib.hid (by have := name_size (g.s9 (by decide)); omega)) (Lib.hid rfl) st w (Nat.le_trans hg (by omega)) h) (fun st w hg h => w_name hP o.member (txt o.member) _ (Lib.hid (by have := name_size (g.s10 (by decide)); omega)) (Lib.hid rfl) st w (Nat.le_trans hg (by omega)) h) (fun st w hg h => w_number hP o.gen (V.put o.gen.toNat) _ (g.n11 (by decide)).1 (g.n11 (by decide)).2 (Lib.hid rfl) st w (Nat.le_trans hg (by omega)) h) (show (S).size ≤ 200000 by omega) (show (S ++ itemB o 9).size ≤ 200000 by have q9 := SZ 9 (by decide); simp only [ByteArray.size_append]; omega) (show (S ++ itemB o 9 ++ itemB o 10).size ≤ 200000 by have q9 := SZ 9 (by decide); have q10 := SZ 10 (by decide); simp only [ByteArray.size_append]; omega)
  · exact Writer.visit_10 _ F P H _ _ _ _ _ _ _ _ _ _ _ _ _ w _ h (fun st w hg h => w_name hP o.topic (txt o.topic) _ (Lib.hid (by have := name_size (g.s1 (by decide)); omega)) (Lib.hid rfl) st w (Nat.le_trans hg (by omega)) h) (fun st w hg h => w_number hP o.pn (V.put o.pn.toNat) _ (g.n2 (by decide)).1 (g.n2 (by decide)).2 (Lib.hid rfl) st w (Nat.le_trans hg (by omega)) h) (fun st w hg h => w_number hP o.off (V.put o.off.toNat) _ (g.n4 (by decide)).1 (g.n4 (by decide)).2 (Lib.hid rfl) st w (Nat.le_trans hg (by omega)) h) (fun st w hg h => w_name hP o.group (txt o.group) _ (Lib.hid (by have := name_size (g.s9 (by decide)); omega)) (Lib.hid rfl) st w (Nat.le_trans hg (by omega)) h) (fun st w hg h => w_name hP o.member (txt o.member) _ (Lib.hid (by have := name_size (g.s10 (by decide)); omega)) (Lib.hid rfl) st w (Nat.le_trans hg (by omega)) h) (fun st w hg h => w_number hP o.gen (V.put o.gen.toNat) _ (g.n11 (by decide)).1 (g.n11 (by decide)).2 (Lib.hid rfl) st w (Nat.le_trans hg (by omega)) h) (show (S).size ≤ 200000 by omega) (show (S ++ itemB o 9).size ≤ 200000 by have q9 := SZ 9 (by decide); simp only [ByteArray.size_append]; omega) (show (S ++ itemB o 9 ++ itemB o 10).size ≤ 200000 by have q9 := SZ 9 (by decide); have q10 := SZ 10 (by decide); simp only [ByteArray.size_append]; omega) (show (S ++ itemB o 9 ++ itemB o 10 ++ itemB o 11).size ≤ 200000 by have q9 := SZ 9 (by decide); have q10 := SZ 10 (by decide); have q11 := SZ 11 (by decide); simp only [ByteArray.size_append]; omega) (show (S ++ itemB o 9 ++ itemB o 10 ++ itemB o 11 ++ itemB o 1).size ≤ 200000 by have q9 := SZ 9 (by decide); have q10 := SZ 10 (by decide); have q11 := SZ 11 (by decide); have q1 := SZ 1 (by decide); simp only [ByteArray.size_append]; omega) (show (S ++ itemB o 9 ++ itemB o 10 ++ itemB o 11 ++ itemB o 1 ++ itemB o 2).size ≤ 200000 by have q9 := SZ 9 (by decide); have q10 := SZ 10 (by decide); have q11 := SZ 11 (by decide); have q1 := SZ 1 (by decide); have q2 := SZ 2 (by decide); simp only [ByteArray.size_append]; omega)
  · exact Writer.visit_11 _ F P H _ _ _ _ _ _ _ _ _ _ _ _ _ w _ h (fun st w hg h => w_name hP o.topic (txt o.topic) _ (Lib.hid (by have := name_size (g.s1 (by decide)); omega)) (Lib.hid rfl) st w (Nat.le_trans hg (by omega)) h) (fun st w hg h => w_number hP o.pn (V.put o.pn.toNat) _ (g.n2 (by decide)).1 (g.n2 (by decide)).2 (Lib.hid rfl) st w (Nat.le_trans hg (by omega)) h) (fun st w hg h => w_name hP o.group (txt o.group) _ (Lib.hid (by have := name_size (g.s9 (by decide)); omega)) (Lib.hid rfl) st w (Nat.le_trans hg (by omega)) h) (show (S).size ≤ 200000 by omega) (show (S ++ itemB o 9).size ≤ 200000 by have q9 := SZ 9 (by decide); simp only [ByteArray.size_append]; omega) (show (S ++ itemB o 9 ++ itemB o 1).size ≤ 200000 by have q9 := SZ 9 (by decide); have q1 := SZ 1 (by decide); simp only [ByteArray.size_append]; omega)
  · exact Writer.visit_12 _ F P H _ _ _ _ _ _ _ _ _ _ _ _ _ w _ h (fun st w hg h => w_number hP o.n (V.put o.n.toNat) _ (g.n3 (by decide)).1 (g.n3 (by decide)).2 (Lib.hid rfl) st w (Nat.le_trans hg (by omega)) h) (show (S).size ≤ 200000 by omega)

/-- a writer that is new -/
theorem writer_new (w : World) (o : Obj) (item : Nat → ByteArray) : (writerV w (w.heap.size + 1) item).Inv ⟨#[]⟩ ((w.alloc o).alloc (.cells #[.slice none 0 0] 89 (0, 0))) :=
  ⟨_, heap_alloc2_new w _ _, World.ownsRow_nil _ _ _ _, two_box _ _⟩


set_option maxRecDepth 100000 in
set_option maxHeartbeats 8000000 in
theorem put_bad (o : O) (RA TA : Option Addr) (rc tc : Nat) (hk : o.kind ≤ 12) (x : Int) (HX : Hid (o.chk = x)) (hx : x ≠ 0) (B : Nat) (w : World) (hB : B ≤ w.heap.size)
    (Z1 : Hid (o.topic.size ≤ maxLen)) (Z9 : Hid (o.group.size ≤ maxLen)) (Z10 : Hid (o.member.size ≤ maxLen)) (hR : Hid (Reads w B RA o.recs)) (hl : o.recs.length ≤ 20) (hs : Hid (∀ r ∈ o.recs, r.key.size ≤ maxLen ∧ r.val.size ≤ maxLen))
    (hT : Hid (ReadsT w B TA o.tops)) (ht : Hid (o.tops.length ≤ maxLen)) (hts : Hid (∀ s ∈ o.tops, s.size ≤ maxLen)) :
    Calls Tryz.prog 18 #[.agg #[.int .i64 o.kind, .string o.topic, .int .i64 o.pn, .int .i64 o.n, .int .i64 o.off, .int .i64 o.bp, .int .i64 o.be, .int .i64 o.bq, .slice RA o.recs.length rc, .string o.group, .string o.member, .int .i64 o.gen, .bool o.robin, .slice TA o.tops.length tc]] w fun e w' => e = .returned (.tuple #[.string ⟨#[]⟩, .int .i64 x]) ∧ Below w.heap.size w w' := by
  have hne : (x == 0) = false := by simpa using hx
  go_enter Tryz.func18, Tryz.ntmps18
  go_wp2_with (go_at_call 15; refine (check_in o RA TA rc tc hk w.heap.size _ (by simp) Z1 Z9 Z10 (Lib.hid ((hR.out.mono hB).below (one_box _))) hl hs (Lib.hid ((hT.out.mono hB).below (one_box _))) ht hts).mono ?_; rintro e w1 ⟨rfl, hb1⟩; rw [HX.out])
  go_ret2
  exact ⟨rfl, (one_box _).trans (hb1.mono (by simp))⟩


theorem emp_app (s : ByteArray) : (⟨#[]⟩ : ByteArray) ++ s = s := ByteArray.empty_append
theorem not_own {W0 w1 : World} {b : Nat} {item : Nat → ByteArray} {o : Obj} {cs : Array Value} (hz : b < w1.heap.size) (h : w1.heap[b]? = some (.cells cs 29 (0, 0))) : ¬ (writerV W0 w1.heap.size item).own (w1.alloc o) b := by
  intro q
  rcases q with q | ⟨cs', fr, q⟩
  · omega
  · rw [Below.heap_alloc w1 _ _ hz, h] at q
    injection q with q
    injection q with _ q _
    exact absurd q (by decide)
theorem bytes_eq (o : O) : catB o (⟨#[]⟩ ++ V.put o.kind) (hasK o.kind) = o.bytes := by
  rw [emp_app]
  rfl

set_option maxRecDepth 100000 in
set_option maxHeartbeats 8000000 in
theorem put_ok (o : O) (RA TA : Option Addr) (rc tc : Nat) (hk : o.kind ≤ 12) (HX : Hid (o.chk = 0)) (B : Nat) (w : World) (hB : B ≤ w.heap.size)
    (Z1 : Hid (o.topic.size ≤ maxLen)) (Z9 : Hid (o.group.size ≤ maxLen)) (Z10 : Hid (o.member.size ≤ maxLen)) (hR : Hid (Reads w B RA o.recs)) (hl : o.recs.length ≤ 20) (hs : Hid (∀ r ∈ o.recs, r.key.size ≤ maxLen ∧ r.val.size ≤ maxLen))
    (hT : Hid (ReadsT w B TA o.tops)) (ht : Hid (o.tops.length ≤ maxLen)) (hts : Hid (∀ s ∈ o.tops, s.size ≤ maxLen)) :
    Calls Tryz.prog 18 #[.agg #[.int .i64 o.kind, .string o.topic, .int .i64 o.pn, .int .i64 o.n, .int .i64 o.off, .int .i64 o.bp, .int .i64 o.be, .int .i64 o.bq, .slice RA o.recs.length rc, .string o.group, .string o.member, .int .i64 o.gen, .bool o.robin, .slice TA o.tops.length tc]] w fun e w' => e = .returned (.tuple #[.string o.bytes, .int .i64 0]) ∧ Below w.heap.size w w' := by
  have hg := Lib.hid (chk_ok hk HX.out).2
  have hk0 : (0 : Int) ≤ (o.kind : Int) := by omega
  have hk1 : (o.kind : Int) ≤ 1099511627776 := by omega
  have KS : Hid (V.put (o.kind : Int).toNat = V.put o.kind) := Lib.hid (by rw [Int.toNat_natCast])
  have KZ : Hid ((V.put o.kind).size ≤ 10) := Lib.hid (by have := put_le (o.kind : Int) hk1; rwa [Int.toNat_natCast] at this)
  go_enter Tryz.func18, Tryz.ntmps18
  go_wp2_with (first
    | (go_at_call 15; refine (check_in o RA TA rc tc hk w.heap.size _ (by simp) Z1 Z9 Z10 (Lib.hid ((hR.out.mono hB).below (one_box _))) hl hs (Lib.hid ((hT.out.mono hB).below (one_box _))) ht hts).mono ?_; rintro e w1 ⟨rfl, hb1⟩; rw [HX.out]; have hB1 := Lib.hid ((one_box _).trans (hb1.mono (by simp))); have r1 := (hb1.block w.heap.size (by simp)).trans (heap_alloc_new w _); have x0 := row_cell (j := 0) r1 rfl; have x1 := row_cell (j := 1) r1 rfl; have x2 := row_cell (j := 2) r1 rfl; have x3 := row_cell (j := 3) r1 rfl; have x4 := row_cell (j := 4) r1 rfl; have x5 := row_cell (j := 5) r1 rfl; have x6 := row_cell (j := 6) r1 rfl; have x7 := row_cell (j := 7) r1 rfl; have x8 := row_cell (j := 8) r1 rfl; have x9 := row_cell (j := 9) r1 rfl; have x10 := row_cell (j := 10) r1 rfl; have x11 := row_cell (j := 11) r1 rfl; have x12 := row_cell (j := 12) r1 rfl; have x13 := row_cell (j := 13) r1 rfl; have hz1 : w.heap.size < w1.heap.size := row_lt r1; have R1 := Lib.hid r1; clear r1 hb1)
    | (go_at_call 36; refine (w_put (item := itemB o) (W0 := w) (P := w1.heap.size) hB1.out.size (o.kind : Int) (V.put o.kind) hk0 hk1 KS ⟨#[]⟩ _ (by decide) ⟨_, heap_alloc_new w1 _, World.ownsRow_nil _ _ _ _, hB1.out.trans ((one_box _).mono hB1.out.size)⟩).mono ?_; rintro e w2 ⟨rfl, hI2, hk2⟩; have r2 := (hk2.2 w.heap.size (by simp; omega) (not_own hz1 R1.out)).1.trans ((Below.heap_alloc w1 _ _ hz1).trans R1.out); clear x0 x1 x2 x3 x4 x5 x6 x7 x8 x9 x10 x11 x12 x13; have x0 := row_cell (j := 0) r2 rfl; have x1 := row_cell (j := 1) r2 rfl; have x2 := row_cell (j := 2) r2 rfl; have x3 := row_cell (j := 3) r2 rfl; have x4 := row_cell (j := 4) r2 rfl; have x5 := row_cell (j := 5) r2 rfl; have x6 := row_cell (j := 6) r2 rfl; have x7 := row_cell (j := 7) r2 rfl; have x8 := row_cell (j := 8) r2 rfl; have x9 := row_cell (j := 9) r2 rfl; have x10 := row_cell (j := 10) r2 rfl; have x11 := row_cell (j := 11) r2 rfl; have x12 := row_cell (j := 12) r2 rfl; have x13 := row_cell (j := 13) r2 rfl; have hz2 : w.heap.size < w2.heap.size := row_lt r2; have I2 := Lib.hid hI2; clear r2 hI2 hk2)
    | (go_at_call 13; refine (wvisit o RA TA rc tc w w1.heap.size _ hk hB1.out.size B hB hg.out hR hs hT (⟨#[]⟩ ++ V.put o.kind) _ (by rw [emp_app]; exact KZ.out) (writer_fits.stab _ _ _ I2.out (one_box _))).mono ?_; rintro e w3 ⟨rfl, hI3, hk3⟩; rw [bytes_eq o] at hI3; obtain ⟨v, p1, p2, p3⟩ := hI3; have vc := row_cell (j := 0) p1 rfl; have hcv := own_conv p2; have P3 := Lib.hid p3; clear p1 p2 p3 hk3))
  go_ret2
  exact ⟨rfl, P3.out⟩


end Go.Proofs.YtijofikpdhapoaaGreat.L4
