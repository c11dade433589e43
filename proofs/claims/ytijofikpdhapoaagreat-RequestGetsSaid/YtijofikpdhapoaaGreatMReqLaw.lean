/-
  What the laws of layer 4 share: a command as a statement can hold.
-/
import Derived.Test.YtijofikpdhapoaaGreatReqFixed
import Derived.Test.YtijofikpdhapoaaGreatMRecOpen
import Derived.Test.YtijofikpdhapoaaGreatReqCut
import Derived.Test.YtijofikpdhapoaaGreatReqPut
namespace Go.Proofs.YtijofikpdhapoaaGreat.L4
open Go.RowKit
open L3

/-- a command that was cut -/
structure Cutd (o : O) : Prop where
  t : o.topic.size ≤ 40
  g : o.group.size ≤ 40
  m : o.member.size ≤ 40
  r : o.recs.length ≤ 20
  rs : ∀ r ∈ o.recs, r.key.size ≤ 80 ∧ r.val.size ≤ 600
  l : o.tops.length ≤ 12
  ls : ∀ s ∈ o.tops, s.size ≤ 40
/-- its kind, if it has one -/
def cutO (kind : Nat) (topic : ByteArray) (pn n off bp be bq : Int) (recs : List R) (group member : ByteArray) (gen : Int) (robin : Bool) (tops : List ByteArray) : O :=
  ⟨kind, cutS topic 40, pn, n, off, bp, be, bq, (recs.take 20).map R.cut, cutS group 40, cutS member 40, gen, robin, (tops.take 12).map (fun s => cutS s 40)⟩
theorem cutO_cut (kind : Nat) (topic : ByteArray) (pn n off bp be bq : Int) (recs : List R) (group member : ByteArray) (gen : Int) (robin : Bool) (tops : List ByteArray) : Cutd (cutO kind topic pn n off bp be bq recs group member gen robin tops) :=
  ⟨cutS_size topic 40, cutS_size group 40, cutS_size member 40, cutR_len recs, cutR_size recs, by show ((tops.take 12).map _).length ≤ 12; rw [List.length_map, List.length_take]; omega, fun s hs => by
    obtain ⟨t, _, rfl⟩ := List.mem_map.1 hs
    exact cutS_size t 40⟩
theorem Cutd.mt {o : O} (h : Cutd o) : o.topic.size ≤ maxLen := by have := h.t; unfold maxLen; omega
theorem Cutd.mg {o : O} (h : Cutd o) : o.group.size ≤ maxLen := by have := h.g; unfold maxLen; omega
theorem Cutd.mm {o : O} (h : Cutd o) : o.member.size ≤ maxLen := by have := h.m; unfold maxLen; omega
theorem Cutd.mrs {o : O} (h : Cutd o) : ∀ r ∈ o.recs, r.key.size ≤ maxLen ∧ r.val.size ≤ maxLen := fun r hr => by have := h.rs r hr; unfold maxLen; omega
theorem Cutd.ml {o : O} (h : Cutd o) : o.tops.length ≤ maxLen := by have := h.l; unfold maxLen; omega
theorem Cutd.mls {o : O} (h : Cutd o) : ∀ s ∈ o.tops, s.size ≤ maxLen := fun s hs => by have := h.ls s hs; unfold maxLen; omega
theorem Cutd.mr {o : O} (h : Cutd o) : o.recs.length ≤ maxLen := by have := h.r; unfold maxLen; omega

/-- a command, and where its lists lie -/
structure At (o : O) (RA TA : Option Addr) (w : World) : Prop where
  r : Reads w w.heap.size RA o.recs
  t : ReadsT w w.heap.size TA o.tops
theorem At.below {o : O} {RA TA : Option Addr} {w w' : World} (h : At o RA TA w) (hb : Below w.heap.size w w') : At o RA TA w' := ⟨(h.r.below hb).mono hb.size, (h.t.below hb).mono hb.size⟩

/-- a command whose lists lie in memory of the call's own -/
structure Owns (o : O) (RA TA : Option Addr) (rc tc base : Nat) (w : World) : Prop where
  r : w.ownsRow base 35 4 (.slice RA o.recs.length rc) o.recs.length (rowOf o.recs)
  t : w.ownsRow base 9 1 (.slice TA o.tops.length tc) o.tops.length (texts o.tops)
theorem Owns.at {o : O} {RA TA : Option Addr} {rc tc base : Nat} {w : World} (h : Owns o RA TA rc tc base w) : At o RA TA w := ⟨Reads.own h.r, texts_own h.t⟩
theorem Owns.below {o : O} {RA TA : Option Addr} {rc tc base : Nat} {w w' : World} (h : Owns o RA TA rc tc base w) (hb : Below w.heap.size w w') : Owns o RA TA rc tc base w' := ⟨own_below h.r hb, own_below h.t hb⟩
theorem Owns.set {o : O} {RA TA : Option Addr} {rc tc base G : Nat} {w : World} (h : Owns o RA TA rc tc base w) (hG : G < base) (v0 v1 v2 v3 v4 v5 v6 v7 v8 v9 v10 v11 v12 v13 : Value) :
    Owns o RA TA rc tc base ((((((((((((((w.setCell ⟨G, 0, none⟩ v0).setCell ⟨G, 1, none⟩ v1).setCell ⟨G, 2, none⟩ v2).setCell ⟨G, 3, none⟩ v3).setCell ⟨G, 4, none⟩ v4).setCell ⟨G, 5, none⟩ v5).setCell ⟨G, 6, none⟩ v6).setCell ⟨G, 7, none⟩ v7).setCell ⟨G, 8, none⟩ v8).setCell ⟨G, 9, none⟩ v9).setCell ⟨G, 10, none⟩ v10).setCell ⟨G, 11, none⟩ v11).setCell ⟨G, 12, none⟩ v12).setCell ⟨G, 13, none⟩ v13) :=
  ⟨set14_own h.r hG _ _ _ _ _ _ _ _ _ _ _ _ _ _, set14_own h.t hG _ _ _ _ _ _ _ _ _ _ _ _ _ _⟩
/-- Check at a command that was cut -/
theorem check_at {o : O} {RA TA : Option Addr} (rc tc : Nat) {w : World} (x : Int) (hk : o.kind ≤ 12) (hc : Hid (Cutd o)) (ha : Hid (At o RA TA w)) (HX : Hid (o.chk = x)) :
    Calls Tryz.prog 15 #[.agg #[.int .i64 o.kind, .string o.topic, .int .i64 o.pn, .int .i64 o.n, .int .i64 o.off, .int .i64 o.bp, .int .i64 o.be, .int .i64 o.bq, .slice RA o.recs.length rc, .string o.group, .string o.member, .int .i64 o.gen, .bool o.robin, .slice TA o.tops.length tc]] w fun e w' => e = .returned (.int .i64 x) ∧ Below w.heap.size w w' := by
  have h := check_in o RA TA rc tc hk w.heap.size w (Nat.le_refl _) (Lib.hid hc.out.mt) (Lib.hid hc.out.mg) (Lib.hid hc.out.mm) (Lib.hid ha.out.r) hc.out.r (Lib.hid hc.out.mrs) (Lib.hid ha.out.t) (Lib.hid hc.out.ml) (Lib.hid hc.out.mls)
  rw [HX.out] at h
  exact h
theorem rcheck_at {o : O} {RA TA : Option Addr} (rc tc : Nat) {w : World} (x : Int) (hk : o.kind ≤ 12) (hc : Hid (Cutd o)) (ha : Hid (At o RA TA w)) (HX : Hid (o.chk = x)) :
    Calls Tryz.prog 28 #[.agg #[.int .i64 o.kind, .string o.topic, .int .i64 o.pn, .int .i64 o.n, .int .i64 o.off, .int .i64 o.bp, .int .i64 o.be, .int .i64 o.bq, .slice RA o.recs.length rc, .string o.group, .string o.member, .int .i64 o.gen, .bool o.robin, .slice TA o.tops.length tc]] w fun e w' => e = .returned (.int .i64 x) ∧ Below w.heap.size w w' :=
  rcheck_in o.kind o.topic o.pn o.n o.off o.bp o.be o.bq o.recs o.group o.member o.gen o.robin o.tops RA TA rc tc x w.heap.size w hk (Lib.hid ha.out.r) (Lib.hid ha.out.t) (Nat.le_refl _) hc.out.r (Lib.hid hc.out.mrs) (Lib.hid hc.out.ml) (Lib.hid hc.out.mls) (Lib.hid hc.out.mt) (Lib.hid hc.out.mg) (Lib.hid hc.out.mm) HX

theorem row14 {w : World} {g j : Nat} {cs : Array Value} {t : TypeId} {v : Value} (hg : w.heap[g]? = some (.cells cs t (0, 0))) (hv : cs[j]? = some v) : w.cell? ⟨g, j, none⟩ = some v := (cell_of_row w g j cs t _ hg).trans hv
end Go.Proofs.YtijofikpdhapoaaGreat.L4
/-
  A command as another kind.
-/
namespace Go.Proofs.YtijofikpdhapoaaGreat.L4
open Go.RowKit
open L3

/-- a command as another kind: nothing else than its form, or its batch, is wrong -/
theorem kinds_e {o : O} (hk : o.kind ≤ 12) (hc : o.chk = 0) {k : Nat} (h : k ≤ 12) (hne : k ≠ o.kind) : ({ o with kind := k } : O).chk = 0 ∨ ({ o with kind := k } : O).chk = 40 ∨ ({ o with kind := k } : O).chk = 30 := by
  obtain ⟨ha, g⟩ := chk_ok hk hc
  obtain ⟨b, hb⟩ : ∃ b : Bool, b = true ↔ O.all { o with kind := k } (hasK k) := ⟨@decide (O.all { o with kind := k } (hasK k)) (Classical.propDecidable _), by simp⟩
  have e := chk_kind { o with kind := k } h b hb
  rw [← e]
  have n2 : numB o.pn = true := by
    by_cases q : 2 ∈ hasK o.kind
    · have := g.n2 q; simp [numB, this]
    · have := ha.2.1; rw [pickI, if_neg q] at this; rw [this]; rfl
  have n3 : numB o.n = true := by
    by_cases q : 3 ∈ hasK o.kind
    · have := g.n3 q; simp [numB, this]
    · have := ha.2.2.1; rw [pickI, if_neg q] at this; rw [this]; rfl
  have n4 : numB o.off = true := by
    by_cases q : 4 ∈ hasK o.kind
    · have := g.n4 q; simp [numB, this]
    · have := ha.2.2.2.1; rw [pickI, if_neg q] at this; rw [this]; rfl
  have n11 : numB o.gen = true := by
    by_cases q : 11 ∈ hasK o.kind
    · have := g.n11 q; simp [numB, this]
    · have := ha.2.2.2.2.2.2.2.2.2.2.1; rw [pickI, if_neg q] at this; rw [this]; rfl
  have hn : noNum { o with kind := k } (hasK k) = false := by simp [noNum, n2, n3, n4, n11]
  have hbat : noBat { o with kind := k } (hasK k) = 0 ∨ noBat { o with kind := k } (hasK k) = 30 := by
    unfold noBat
    by_cases q : 5 ∈ hasK k
    · rw [if_pos q]
      have k2 : k = 2 := by
        unfold hasK at q
        split at q <;> first | rfl | (simp at q)
      have q5 : 5 ∉ hasK o.kind := by
        intro q'
        have : o.kind = 2 := by
          generalize o.kind = j at q'
          unfold hasK at q'
          split at q' <;> first | rfl | (simp at q')
        omega
      obtain ⟨_, _, _, _, b1, b2, b3, b4, _⟩ := ha
      simp only [pickI, pickL, if_neg q5] at b1 b2 b3 b4
      right
      show allN o.bp o.be o.bq o.recs = 30
      rw [b1, b2, b3, b4]
      rfl
    · rw [if_neg q]; exact .inl rfl
  show (if (noForm { o with kind := k } (hasK k) || !b) = true then (40 : Int) else if noNum { o with kind := k } (hasK k) = true then 1 else noBat { o with kind := k } (hasK k)) = 0 ∨ _
  rw [hn]
  by_cases q : (noForm { o with kind := k } (hasK k) || !b) = true
  · right; left; rw [if_pos q]
  · rw [if_neg q, if_neg (by decide)]
    rcases hbat with q1 | q1
    · exact .inl q1
    · exact .inr (.inr q1)

end Go.Proofs.YtijofikpdhapoaaGreat.L4
