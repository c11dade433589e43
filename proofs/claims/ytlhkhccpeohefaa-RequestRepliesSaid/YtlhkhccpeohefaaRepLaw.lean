/-
  What the laws of layer 4 share: a reply as a statement can hold.
-/
import Derived.Test.YtlhkhccpeohefaaRepCut
import Derived.Test.YtlhkhccpeohefaaReqAlike
import Derived.Test.YtlhkhccpeohefaaReqRd
import Derived.Test.YtlhkhccpeohefaaReqSameP
import Derived.Test.YtlhkhccpeohefaaReqLaw3
import Derived.Test.YtlhkhccpeohefaaMReqLaw
namespace Go.Proofs.Ytlhkhccpeohefaa.L4
open Go.RowKit
open L3

/-- a reply that was cut -/
structure CutdR (r : Rp) : Prop where
  f : r.found.length ≤ 70
  fs : ∀ x ∈ r.found, x.r.key.size ≤ 80 ∧ x.r.val.size ≤ 600
  p : r.parts.length ≤ 70
  ps : ∀ x ∈ r.parts, x.t.size ≤ 40
def cutRp (e off n gen : Int) (found : List Fd) (parts : List Pt) : Rp := ⟨e, off, n, gen, (found.take 70).map Fd.cut, (parts.take 70).map Pt.cut⟩
theorem cutRp_cut (e off n gen : Int) (found : List Fd) (parts : List Pt) : CutdR (cutRp e off n gen found parts) :=
  ⟨by show ((found.take 70).map _).length ≤ 70; rw [List.length_map, List.length_take]; omega, fun x hx => by
    obtain ⟨f, _, rfl⟩ := List.mem_map.1 hx
    exact ⟨cutS_size f.r.key 80, cutS_size f.r.val 600⟩, by show ((parts.take 70).map _).length ≤ 70; rw [List.length_map, List.length_take]; omega, fun x hx => by
    obtain ⟨f, _, rfl⟩ := List.mem_map.1 hx
    exact cutS_size f.t 40⟩
theorem CutdR.mf {r : Rp} (h : CutdR r) : r.found.length ≤ maxLen := by have := h.f; unfold maxLen; omega
theorem CutdR.mp {r : Rp} (h : CutdR r) : r.parts.length ≤ maxLen := by have := h.p; unfold maxLen; omega
theorem CutdR.sf {r : Rp} (h : CutdR r) : FSz r.found := fun x hx => by have := h.fs x hx; unfold maxLen; omega
theorem CutdR.sp {r : Rp} (h : CutdR r) : PSz r.parts := fun x hx => by have := h.ps x hx; unfold maxLen; omega

/-- a reply, and where its lists lie -/
structure AtR (r : Rp) (FA PA : Option Addr) (w : World) : Prop where
  f : ReadsF w w.heap.size FA r.found
  p : ReadsP w w.heap.size PA r.parts
theorem AtR.below {r : Rp} {FA PA : Option Addr} {w w' : World} (h : AtR r FA PA w) (hb : Below w.heap.size w w') : AtR r FA PA w' := ⟨(h.f.below hb).mono hb.size, (h.p.below hb).mono hb.size⟩
structure OwnsR (r : Rp) (FA PA : Option Addr) (fc pc base : Nat) (w : World) : Prop where
  f : w.ownsRow base 78 5 (.slice FA r.found.length fc) r.found.length (rowF r.found)
  p : w.ownsRow base 23 2 (.slice PA r.parts.length pc) r.parts.length (rowP r.parts)
theorem OwnsR.at {r : Rp} {FA PA : Option Addr} {fc pc base : Nat} {w : World} (h : OwnsR r FA PA fc pc base w) : AtR r FA PA w := ⟨ReadsF.own h.f, ReadsP.own h.p⟩
theorem OwnsR.below {r : Rp} {FA PA : Option Addr} {fc pc base : Nat} {w w' : World} (h : OwnsR r FA PA fc pc base w) (hb : Below w.heap.size w w') : OwnsR r FA PA fc pc base w' := ⟨own_below h.f hb, own_below h.p hb⟩
theorem OwnsR.set {r : Rp} {FA PA : Option Addr} {fc pc base G : Nat} {w : World} (h : OwnsR r FA PA fc pc base w) (hG : G < base) (v0 v1 v2 v3 v4 v5 : Value) : OwnsR r FA PA fc pc base ((((((w.setCell ⟨G, 0, none⟩ v0).setCell ⟨G, 1, none⟩ v1).setCell ⟨G, 2, none⟩ v2).setCell ⟨G, 3, none⟩ v3).setCell ⟨G, 4, none⟩ v4).setCell ⟨G, 5, none⟩ v5) := ⟨set6_own h.f hG _ _ _ _ _ _, set6_own h.p hG _ _ _ _ _ _⟩
/-- the row that it lies in, too -/
structure SitsR (r : Rp) (H : Nat) (FA PA : Option Addr) (fc pc : Nat) (w : World) : Prop where
  row : w.heap[H]? = some (.cells #[.int .i64 r.e, .int .i64 r.off, .int .i64 r.n, .int .i64 r.gen, .slice FA r.found.length fc, .slice PA r.parts.length pc] 42 (0, 0))
  at_ : AtR r FA PA w
theorem SitsR.below {r : Rp} {H : Nat} {FA PA : Option Addr} {fc pc : Nat} {w w' : World} (h : SitsR r H FA PA fc pc w) (hb : Below w.heap.size w w') : SitsR r H FA PA fc pc w' := ⟨(hb.block H (Array.getElem?_eq_some_iff.1 h.row).1).trans h.row, h.at_.below hb⟩
theorem SitsR.box {r : Rp} {H : Nat} {FA PA : Option Addr} {fc pc : Nat} {w : World} (h : SitsR r H FA PA fc pc w) (x : Obj) : SitsR r H FA PA fc pc (w.alloc x) := h.below (one_box x)

theorem set6_other {w : World} {H k : Nat} {v0 v1 v2 v3 v4 v5 : Value} (hk : k ≠ H) : ((((((w.setCell ⟨H, 0, none⟩ v0).setCell ⟨H, 1, none⟩ v1).setCell ⟨H, 2, none⟩ v2).setCell ⟨H, 3, none⟩ v3).setCell ⟨H, 4, none⟩ v4).setCell ⟨H, 5, none⟩ v5).heap[k]? = w.heap[k]? := by
  rw [heap_setCell_other _ _ _ _ hk, heap_setCell_other _ _ _ _ hk, heap_setCell_other _ _ _ _ hk, heap_setCell_other _ _ _ _ hk, heap_setCell_other _ _ _ _ hk, heap_setCell_other _ _ _ _ hk]
theorem Owns.set6 {o : O} {RA TA : Option Addr} {rc tc base G : Nat} {w : World} (h : Owns o RA TA rc tc base w) (hG : G < base) (v0 v1 v2 v3 v4 v5 : Value) : Owns o RA TA rc tc base ((((((w.setCell ⟨G, 0, none⟩ v0).setCell ⟨G, 1, none⟩ v1).setCell ⟨G, 2, none⟩ v2).setCell ⟨G, 3, none⟩ v3).setCell ⟨G, 4, none⟩ v4).setCell ⟨G, 5, none⟩ v5) := ⟨set6_own h.r hG _ _ _ _ _ _, set6_own h.t hG _ _ _ _ _ _⟩

theorem cutr_u (e off n gen : Int) (FA PA : Option Addr) (found : List Fd) (parts : List Pt) (fc pc B : Nat) (w : World) (hF : Hid (ReadsFO w B FA found)) (hP : Hid (ReadsPO w B PA parts)) (hB : B ≤ w.heap.size) (zF : Hid (found.length ≤ maxLen)) (zP : Hid (parts.length ≤ maxLen))
    (sF : Hid (∀ f ∈ found, f.r.key.size ≤ maxLen ∧ f.r.val.size ≤ maxLen)) (sP : Hid (∀ f ∈ parts, f.t.size ≤ maxLen)) (r : Rp) (HR : Hid (r = cutRp e off n gen found parts)) :
    Calls Try.prog 20 #[.agg #[.int .i64 e, .int .i64 off, .int .i64 n, .int .i64 gen, .slice FA found.length fc, .slice PA parts.length pc]] w fun x w' =>
      ∃ FA PA fc pc, x = .returned (.agg #[.int .i64 r.e, .int .i64 r.off, .int .i64 r.n, .int .i64 r.gen, .slice FA r.found.length fc, .slice PA r.parts.length pc]) ∧ OwnsR r FA PA fc pc w.heap.size w' ∧ Below w.heap.size w w' := by
  obtain rfl := HR.out
  refine (cutr_is e off n gen FA PA found parts fc pc B w hF hP hB zF zP sF sP _ _ (Lib.hid rfl) (Lib.hid rfl)).mono ?_
  rintro x w' ⟨FA, fc, PA, pc, rfl, h1, h2, hb⟩
  exact ⟨FA, PA, fc, pc, rfl, ⟨h1, h2⟩, hb⟩

/-- what Reply tells -/
def RepU (r : Rp) (s : ByteArray) (x : Int) : Prop := r.chk = x ∧ s = if x = 0 then r.bytes else ⟨#[]⟩
theorem RepU.ex (r : Rp) : ∃ s x, RepU r s x := ⟨_, _, rfl, rfl⟩
theorem RepU.ok {r : Rp} {s : ByteArray} (h : RepU r s 0) : r.chk = 0 ∧ s = r.bytes := ⟨h.1, h.2⟩
theorem rep_size {r : Rp} (h : r.chk = 0) : r.bytes.size ≤ 100000 := by
  have g := good_r h
  have h1 := five_size r g 5
  have h2 := catF_size g (five r 5) r.found.length
  rw [List.take_length] at h2
  have h3 := put_le (r.parts.length : Int) (by have := g.lp; omega)
  rw [Int.toNat_natCast] at h3
  have h4 := catP_size g (catF (five r 5) r.found ++ V.put r.parts.length) r.parts.length
  rw [List.take_length, ByteArray.size_append] at h4
  have h5 := g.lf
  have h6 := g.lp
  have e : r.bytes = catP (catF (five r 5) r.found ++ V.put r.parts.length) r.parts := rfl
  rw [e]
  omega
theorem RepU.size {r : Rp} {s : ByteArray} {x : Int} (h : RepU r s x) : s.size ≤ 100000 := by
  obtain ⟨h1, h2⟩ := h
  by_cases hx : x = 0
  · subst hx
    rw [if_pos rfl] at h2
    rw [h2]
    exact rep_size h1
  · rw [if_neg hx] at h2
    rw [h2]
    exact Nat.zero_le 100000
theorem reply_u (r : Rp) (FA PA : Option Addr) (fc pc : Nat) (w : World) (HC : Hid (CutdR r)) (ha : Hid (AtR r FA PA w)) (s : ByteArray) (x : Int) (HU : Hid (RepU r s x)) :
    Calls Try.prog 21 #[.agg #[.int .i64 r.e, .int .i64 r.off, .int .i64 r.n, .int .i64 r.gen, .slice FA r.found.length fc, .slice PA r.parts.length pc]] w fun e w' => e = .returned (.tuple #[.string s, .int .i64 x]) ∧ Below w.heap.size w w' := by
  obtain ⟨h1, h2⟩ := HU.out
  by_cases hx : x = 0
  · subst hx
    rw [if_pos rfl] at h2
    subst h2
    exact reply_ok r FA PA fc pc w.heap.size w (Nat.le_refl _) (Lib.hid ha.out.f) (Lib.hid ha.out.p) (Lib.hid HC.out.mf) (Lib.hid HC.out.mp) (Lib.hid HC.out.sf) (Lib.hid HC.out.sp) (Lib.hid h1)
  · rw [if_neg hx] at h2
    subst h2
    exact reply_bad r FA PA fc pc w.heap.size w (Nat.le_refl _) (Lib.hid ha.out.f) (Lib.hid ha.out.p) (Lib.hid HC.out.mf) (Lib.hid HC.out.mp) (Lib.hid HC.out.sf) (Lib.hid HC.out.sp) x (Lib.hid h1) hx

theorem parse_ok (s : ByteArray) (r : Rp) (w : World) (hs : s.size ≤ 140737488355328) (HQ : Hid (readR s 64 = (r, some (s.size : Int)))) (HX : Hid (r.chk = 0)) : Calls Try.prog 23 #[.string s] w (GotR r 0 w) := by
  have h := parse_in s r _ w hs HQ
  rw [if_pos ⟨rfl, HX.out⟩, if_pos ⟨rfl, HX.out⟩] at h
  exact h
def NoR (s : ByteArray) : Prop := ∀ r q, readR s 64 = (r, q) → ¬ (q = some (s.size : Int) ∧ r.chk = 0)
def GotNoR (w : World) (x : Ending) (w' : World) : Prop :=
  ∃ FA PA fc pc, x = .returned (.tuple #[.agg #[.int .i64 0, .int .i64 0, .int .i64 0, .int .i64 0, .slice FA 0 fc, .slice PA 0 pc], .int .i64 40]) ∧ Below w.heap.size w w'
theorem parse_none (s : ByteArray) (w : World) (hs : s.size ≤ 140737488355328) (HQ : Hid (NoR s)) : Calls Try.prog 23 #[.string s] w (GotNoR w) := by
  obtain ⟨o, q, hq⟩ : ∃ o q, readR s 64 = (o, q) := ⟨_, _, rfl⟩
  have h := parse_in s o q w hs (Lib.hid hq)
  rw [if_neg (HQ.out o q hq), if_neg (HQ.out o q hq)] at h
  refine h.mono ?_
  rintro e w' ⟨RA, TA, rc, tc, rfl, _, _, hb⟩
  exact ⟨RA, TA, rc, tc, rfl, hb⟩
theorem ralike_zero (FA PA : Option Addr) (fc pc : Nat) (w : World) :
    Calls Try.prog 25 #[.agg #[.int .i64 0, .int .i64 0, .int .i64 0, .int .i64 0, .slice FA 0 fc, .slice PA 0 pc], .agg #[.int .i64 0, .int .i64 0, .int .i64 0, .int .i64 0, .slice none 0 0, .slice none 0 0]] w fun e w' => e = .returned (.bool true) ∧ Below w.heap.size w w' :=
  ralike_is 0 0 0 0 [] [] FA PA fc pc 0 0 0 0 [] [] none none 0 0 w.heap.size true w (Lib.hid fun h => absurd h (by simp)) (Lib.hid fun h => absurd h (by simp)) (Lib.hid fun h => absurd h (by simp)) (Lib.hid fun h => absurd h (by simp)) (Nat.le_refl _) (by simp) (by simp) (Lib.hid ⟨fun _ => ⟨rfl, rfl, rfl, rfl, rfl, rfl⟩, fun _ => rfl⟩)
/-- what was put is read; with a byte more, or one fewer, it is none -/
theorem RepU.got {r : Rp} {s : ByteArray} (h : RepU r s 0) : readR s 64 = (r, some (s.size : Int)) := by
  rw [h.ok.2]
  exact readR_put (good_r h.ok.1) (Nat.le_refl _)
theorem RepU.back {s : ByteArray} {r : Rp} (h : readR s 64 = (r, some (s.size : Int))) (hc : r.chk = 0) : RepU r s 0 := ⟨hc, by rw [if_pos rfl]; exact (readR_got h).symm⟩
theorem readR_ahead {r : Rp} (g : GoodR r) {s t : ByteArray} {m : Nat} (hm : 64 ≤ m) (hs : s = r.bytes ++ t) : readR s m = (r, some (r.bytes.size : Int)) := by
  have hw : Stands s 0 (V.nats r.bytes) (r.bytes.size : Int) := ⟨[], V.nats t, by rw [hs, V.nats_append]; rfl, rfl, by simp [V.nats_len]⟩
  rw [nats_rep] at hw
  obtain ⟨h1, hw⟩ := hw.split
  obtain ⟨h2, hw⟩ := hw.split
  obtain ⟨h3, hw⟩ := hw.split
  obtain ⟨h4, hw⟩ := hw.split
  obtain ⟨h5, hw⟩ := hw.split
  obtain ⟨h6, hw⟩ := hw.split
  obtain ⟨h7, h8⟩ := hw.split
  have a1 := g.e
  have a2 := g.off
  have a3 := g.n
  have a4 := g.gen
  have a5 := g.lf
  have a6 := g.lp
  have e1 := num_put (most := 1099511627776) (by omega) (by omega) h1
  have e2 := num_put (most := 1099511627776) (by omega) (by omega) h2
  have e3 := num_put (most := 1099511627776) (by omega) (by omega) h3
  have e4 := num_put (most := 1099511627776) (by omega) (by omega) h4
  have e5 := num_put (most := m) (by omega) (by omega) h5
  have e6 := many_all (f := rFd s) r.found (fun f hf a b q => fd_put (g.fs f hf) q) h6
  have e7 := num_put (most := m) (by omega) (by omega) h7
  have e8 := many_all (f := rPt s) r.parts (fun f hf a b q => pt_put (g.ps f hf) q) h8
  have m1 : min r.found.length 65 = r.found.length := by omega
  have m2 : min r.parts.length 65 = r.parts.length := by omega
  unfold readR
  simp only [rFds, rPts, e1, e2, e3, e4, e5, m1, e6, e7, m2, e8, Int.toNat_of_nonneg a1.1, Int.toNat_of_nonneg a2.1, Int.toNat_of_nonneg a3.1, Int.toNat_of_nonneg a4.1]
theorem RepU.more {r : Rp} {s : ByteArray} (h : RepU r s 0) (b : ByteArray) (hb : b.size = 1) : NoR (s ++ b) := by
  intro x q e hq
  have h1 := readR_ahead (good_r h.ok.1) (m := 64) (s := s ++ b) (t := b) (Nat.le_refl _) (by rw [h.ok.2])
  rw [e] at h1
  obtain ⟨rfl, rfl⟩ := Prod.mk.inj h1
  have := Option.some.inj hq.1
  rw [ByteArray.size_append, ← h.ok.2, hb] at this
  omega
theorem RepU.less {r : Rp} {s : ByteArray} (h : RepU r s 0) (hn : 0 < s.size) : NoR (s.extract 0 (s.size - 1)) := by
  intro x q e hq
  obtain ⟨rfl, hx⟩ := hq
  have h1 := readR_got e
  have h2 := readR_ahead (good_r hx) (m := 64) (s := s) (t := s.extract (s.size - 1) s.size) (Nat.le_refl _) (by
    rw [h1]
    apply V.nats_inj
    rw [V.nats_append, V.nats_extract, V.nats_extract]
    simp only [List.drop_zero, Nat.sub_zero]
    rw [List.take_of_length_le (l := List.drop _ _) (by rw [List.length_drop, V.nats_len]; omega), List.take_append_drop])
  rw [h.got] at h2
  obtain ⟨rfl, h3⟩ := Prod.mk.inj h2
  have h4 := Option.some.inj h3
  rw [h1, ByteArray.size_extract] at h4
  omega
theorem rep_pos {r : Rp} {s : ByteArray} (h : RepU r s 0) : 0 < s.size := by
  rw [h.ok.2, ← V.nats_len, nats_rep, List.length_append]
  have := V.puts_pos r.e.toNat
  omega
/-- the answer whether two replies are the same -/
def AlikeR (v : Bool) (r q : Rp) : Prop := v = true ↔ (r.e = q.e ∧ r.off = q.off ∧ r.n = q.n ∧ r.gen = q.gen ∧ r.found = q.found ∧ r.parts = q.parts)
theorem AlikeR.refl (r : Rp) : AlikeR true r r := ⟨fun _ => ⟨rfl, rfl, rfl, rfl, rfl, rfl⟩, fun _ => rfl⟩
theorem AlikeR.ex (r q : Rp) : ∃ v, AlikeR v r q := bool_iff _
theorem AlikeR.gen {r : Rp} {y : Int} (h : r.gen ≠ y) : AlikeR false r { r with gen := y } := ⟨(fun h => by cases h), fun q => absurd q.2.2.2.1 h⟩
theorem ralike_o (r : Rp) (FA PA : Option Addr) (fc pc : Nat) (q : Rp) (FA' PA' : Option Addr) (fc' pc' : Nat) (v : Bool) {w : World} (ha : Hid (AtR r FA PA w)) (hb : Hid (AtR q FA' PA' w)) (HC : Hid (CutdR r)) (HV : Hid (AlikeR v r q)) :
    Calls Try.prog 25 #[.agg #[.int .i64 r.e, .int .i64 r.off, .int .i64 r.n, .int .i64 r.gen, .slice FA r.found.length fc, .slice PA r.parts.length pc], .agg #[.int .i64 q.e, .int .i64 q.off, .int .i64 q.n, .int .i64 q.gen, .slice FA' q.found.length fc', .slice PA' q.parts.length pc']] w fun e w' => e = .returned (.bool v) ∧ Below w.heap.size w w' :=
  ralike_is r.e r.off r.n r.gen r.found r.parts FA PA fc pc q.e q.off q.n q.gen q.found q.parts FA' PA' fc' pc' w.heap.size v w (Lib.hid ha.out.f) (Lib.hid hb.out.f) (Lib.hid ha.out.p) (Lib.hid hb.out.p) (Nat.le_refl _) HC.out.mf HC.out.mp (Lib.hid HV.out)
theorem alike_o (r : Rp) (FA PA : Option Addr) (fc pc : Nat) (q : Rp) (FA' PA' : Option Addr) (fc' pc' : Nat) (v : Bool) {w : World} (ha : Hid (AtR r FA PA w)) (hb : Hid (AtR q FA' PA' w)) (HC : Hid (CutdR r)) (HV : Hid (AlikeR v r q)) :
    Calls Try.prog 26 #[.agg #[.int .i64 r.e, .int .i64 r.off, .int .i64 r.n, .int .i64 r.gen, .slice FA r.found.length fc, .slice PA r.parts.length pc], .agg #[.int .i64 q.e, .int .i64 q.off, .int .i64 q.n, .int .i64 q.gen, .slice FA' q.found.length fc', .slice PA' q.parts.length pc']] w fun e w' => e = .returned (.bool v) ∧ Below w.heap.size w w' :=
  alike_is r.e r.off r.n r.gen r.found r.parts FA PA fc pc q.e q.off q.n q.gen q.found q.parts FA' PA' fc' pc' w.heap.size v w (Lib.hid ha.out.f) (Lib.hid hb.out.f) (Lib.hid ha.out.p) (Lib.hid hb.out.p) (Nat.le_refl _) HC.out.mf HC.out.mp (Lib.hid HV.out)
end Go.Proofs.Ytlhkhccpeohefaa.L4
