/-
  Contracts: may a command be? The document's.
-/
import Derived.Test.YtijofikpdhapoaaGreatReqOnly
import Derived.Test.YtijofikpdhapoaaGreatMRecRall
import Derived.Test.YtijofikpdhapoaaGreatMRepChk
import Derived.Lib.AppendStr
import Derived.Laws.IdiomStrings
namespace Go.Proofs.YtijofikpdhapoaaGreat.L4
open Go.RowKit
open L3

theorem two_eq (k : Nat) : ((k : Int) == 2) = decide (k = 2) := by
  by_cases h : k = 2
  · subst h; rfl
  · rw [decide_eq_false h, beq_eq_false_iff_ne]
    omega
theorem rname_w (s : ByteArray) (v : Bool) (w : World) (hs : Hid (s.size ≤ maxLen)) (HV : Hid (nameB s = v)) :
    Calls Tryz.prog 53 #[.string s] w fun e w' => e = .returned (.bool v) ∧ w = w' := by
  have h := rname_any s w hs.out
  rw [HV.out] at h
  exact h
/-- what is wrong with a command -/
def chkF (v0 P T G M L a b c d n1 n2 n3 n4 : Bool) (two : Bool) (x : Int) : Int :=
  if v0 = false then 40 else if (P || T) && !a then 40 else if G && !b then 40 else if M && !c then 40 else if L && !d then 40
  else if !(n1 && n2 && n3 && n4) then 1 else if two then x else 0
def chkO (kind : Nat) (topic : ByteArray) (pn n off bp be bq : Int) (recs : List R) (group member : ByteArray) (gen : Int) (robin : Bool) (tops : List ByteArray) : Int :=
  chkF (onlyB kind topic pn n off bp be bq recs.length group member gen robin tops.length) (amB (hasS kind) 112) (amB (hasS kind) 116) (amB (hasS kind) 103) (amB (hasS kind) 109) (amB (hasS kind) 108) (nameB topic) (nameB group) (nameB member) (namesB tops)
    (numB pn) (numB n) (numB off) (numB gen) (decide (kind = 2)) (allN bp be bq recs)

set_option maxRecDepth 100000 in
set_option maxHeartbeats 16000000 in
theorem rcheck_in (kind : Nat) (topic : ByteArray) (pn : Int) (n : Int) (off : Int) (bp : Int) (be : Int) (bq : Int) (recs : List R) (group : ByteArray) (member : ByteArray) (gen : Int) (robin : Bool) (tops : List ByteArray) (RA TA : Option Addr) (rc tc : Nat) (x : Int) (Bd : Nat) (w : World) (hk : kind ≤ 12) (hR : Hid (Reads w Bd RA recs)) (hT : Hid (ReadsT w Bd TA tops)) (hB : Bd ≤ w.heap.size) (hl : recs.length ≤ 20) (hs : Hid (∀ r ∈ recs, r.key.size ≤ maxLen ∧ r.val.size ≤ maxLen)) (ht : Hid (tops.length ≤ maxLen)) (hts : Hid (∀ s ∈ tops, s.size ≤ maxLen))
    (z1 : Hid (topic.size ≤ maxLen)) (z2 : Hid (group.size ≤ maxLen)) (z3 : Hid (member.size ≤ maxLen)) (HV : Hid (chkO kind topic pn n off bp be bq recs group member gen robin tops = x)) :
    Calls Tryz.prog 28 #[.agg #[.int .i64 kind, .string topic, .int .i64 pn, .int .i64 n, .int .i64 off, .int .i64 bp, .int .i64 be, .int .i64 bq, .slice RA recs.length rc, .string group, .string member, .int .i64 gen, .bool robin, .slice TA tops.length tc]] w fun e w' => e = .returned (.int .i64 x) ∧ Below w.heap.size w w' := by
  have HRL : Hid (recs.length ≤ maxLen) := Lib.hid (by unfold maxLen; omega)
  have K12 := Lib.hid hk
  obtain ⟨s, hs'⟩ : ∃ s, hasS kind = s := ⟨_, rfl⟩
  have HS := Lib.hid hs'
  have SZ : Hid (s.size ≤ maxLen) := Lib.hid (by rw [← hs']; exact has_size _)
  obtain ⟨v0, e0⟩ : ∃ v, onlyB kind topic pn n off bp be bq recs.length group member gen robin tops.length = v := ⟨_, rfl⟩
  obtain ⟨P, eP⟩ : ∃ v, amB s 112 = v := ⟨_, rfl⟩
  obtain ⟨T, eT⟩ : ∃ v, amB s 116 = v := ⟨_, rfl⟩
  obtain ⟨G, eG⟩ : ∃ v, amB s 103 = v := ⟨_, rfl⟩
  obtain ⟨M, eM⟩ : ∃ v, amB s 109 = v := ⟨_, rfl⟩
  obtain ⟨L, eL⟩ : ∃ v, amB s 108 = v := ⟨_, rfl⟩
  obtain ⟨a, ea⟩ : ∃ v, nameB topic = v := ⟨_, rfl⟩
  obtain ⟨b, eb⟩ : ∃ v, nameB group = v := ⟨_, rfl⟩
  obtain ⟨c, ec⟩ : ∃ v, nameB member = v := ⟨_, rfl⟩
  obtain ⟨d, ed⟩ : ∃ v, namesB tops = v := ⟨_, rfl⟩
  obtain ⟨n1, en1⟩ : ∃ v, numB pn = v := ⟨_, rfl⟩
  obtain ⟨n2, en2⟩ : ∃ v, numB n = v := ⟨_, rfl⟩
  obtain ⟨n3, en3⟩ : ∃ v, numB off = v := ⟨_, rfl⟩
  obtain ⟨n4, en4⟩ : ∃ v, numB gen = v := ⟨_, rfl⟩
  obtain ⟨y, ey⟩ : ∃ v, allN bp be bq recs = v := ⟨_, rfl⟩
  obtain ⟨t2, et2⟩ : ∃ v, decide (kind = 2) = v := ⟨_, rfl⟩
  have HX : Hid (chkF v0 P T G M L a b c d n1 n2 n3 n4 t2 y = x) := Lib.hid (by rw [← HV.out]; unfold chkO; rw [hs', e0, eP, eT, eG, eM, eL, ea, eb, ec, ed, en1, en2, en3, en4, ey, et2])
  have q2 : ((kind : Int) == 2) = t2 := by rw [← et2]; exact two_eq kind
  have E0 := Lib.hid e0; have EP := Lib.hid eP; have ET := Lib.hid eT; have EG := Lib.hid eG; have EM := Lib.hid eM; have EL := Lib.hid eL
  have Ea := Lib.hid ea; have Eb := Lib.hid eb; have Ec := Lib.hid ec; have Ed := Lib.hid ed; have En1 := Lib.hid en1; have En2 := Lib.hid en2; have En3 := Lib.hid en3; have En4 := Lib.hid en4; have EY := Lib.hid ey
  have g0 : ¬ (kind : Int) < 0 := by omega
  have g1 : ¬ 12 < (kind : Int) := by omega
  have g2 : (kind : Int) ≤ 12 := by omega
  clear hk hs' e0 eP eT eG eM eL ea eb ec ed en1 en2 en3 en4 ey et2 HV
  go_enter Tryz.func28, Tryz.ntmps28
  go_wp2_with (first
    | (go_at_call 9; refine (rhas_s _ _ _ K12.out HS).mono ?_; rintro e w1 ⟨rfl, hb1⟩; have r1 := Lib.hid ((hb1.block w.heap.size (by simp)).trans (heap_alloc_new w _)); have hB1 := Lib.hid ((one_box _).trans (hb1.mono (by simp))); have x0 := (cell_of_row _ _ 0 _ _ _ r1.out).trans rfl; have x1 := (cell_of_row _ _ 1 _ _ _ r1.out).trans rfl; have x2 := (cell_of_row _ _ 2 _ _ _ r1.out).trans rfl; have x3 := (cell_of_row _ _ 3 _ _ _ r1.out).trans rfl; have x4 := (cell_of_row _ _ 4 _ _ _ r1.out).trans rfl; have x5 := (cell_of_row _ _ 5 _ _ _ r1.out).trans rfl; have x6 := (cell_of_row _ _ 6 _ _ _ r1.out).trans rfl; have x7 := (cell_of_row _ _ 7 _ _ _ r1.out).trans rfl; have x8 := (cell_of_row _ _ 8 _ _ _ r1.out).trans rfl; have x9 := (cell_of_row _ _ 9 _ _ _ r1.out).trans rfl; have x10 := (cell_of_row _ _ 10 _ _ _ r1.out).trans rfl; have x11 := (cell_of_row _ _ 11 _ _ _ r1.out).trans rfl; have x12 := (cell_of_row _ _ 12 _ _ _ r1.out).trans rfl; have x13 := (cell_of_row _ _ 13 _ _ _ r1.out).trans rfl)
    | (go_at_call 51; refine (ronly_is _ _ _ _ _ _ _ _ _ _ _ _ _ _ _ _ _ _ _ _ K12.out HRL ht E0).mono ?_; rintro e w2 ⟨rfl, hb2⟩; have hB2 := Lib.hid (acc hB1.out hb2); have r2 := Lib.hid ((hb2.block w.heap.size (by have := (Array.getElem?_eq_some_iff.1 r1.out).1; exact this)).trans r1.out); clear x0 x1 x2 x3 x4 x5 x6 x7 x8 x9 x10 x11 x12 x13; have x0 := (cell_of_row _ _ 0 _ _ _ r2.out).trans rfl; have x1 := (cell_of_row _ _ 1 _ _ _ r2.out).trans rfl; have x2 := (cell_of_row _ _ 2 _ _ _ r2.out).trans rfl; have x3 := (cell_of_row _ _ 3 _ _ _ r2.out).trans rfl; have x4 := (cell_of_row _ _ 4 _ _ _ r2.out).trans rfl; have x5 := (cell_of_row _ _ 5 _ _ _ r2.out).trans rfl; have x6 := (cell_of_row _ _ 6 _ _ _ r2.out).trans rfl; have x7 := (cell_of_row _ _ 7 _ _ _ r2.out).trans rfl; have x8 := (cell_of_row _ _ 8 _ _ _ r2.out).trans rfl; have x9 := (cell_of_row _ _ 9 _ _ _ r2.out).trans rfl; have x10 := (cell_of_row _ _ 10 _ _ _ r2.out).trans rfl; have x11 := (cell_of_row _ _ 11 _ _ _ r2.out).trans rfl; have x12 := (cell_of_row _ _ 12 _ _ _ r2.out).trans rfl; have x13 := (cell_of_row _ _ 13 _ _ _ r2.out).trans rfl)
    | (go_at_call 52; (with_reducible refine (among_p _ _ _ SZ EP).mono ?_); rintro e w' ⟨rfl, rfl⟩)
    | (go_at_call 52; (with_reducible refine (among_t _ _ _ SZ ET).mono ?_); rintro e w' ⟨rfl, rfl⟩)
    | (go_at_call 52; (with_reducible refine (among_g _ _ _ SZ EG).mono ?_); rintro e w' ⟨rfl, rfl⟩)
    | (go_at_call 52; (with_reducible refine (among_m _ _ _ SZ EM).mono ?_); rintro e w' ⟨rfl, rfl⟩)
    | (go_at_call 52; (with_reducible refine (among_l _ _ _ SZ EL).mono ?_); rintro e w' ⟨rfl, rfl⟩)
    | (go_at_call 53; (with_reducible refine (rname_w _ _ _ z1 Ea).mono ?_); rintro e w' ⟨rfl, rfl⟩)
    | (go_at_call 53; (with_reducible refine (rname_w _ _ _ z2 Eb).mono ?_); rintro e w' ⟨rfl, rfl⟩)
    | (go_at_call 53; (with_reducible refine (rname_w _ _ _ z3 Ec).mono ?_); rintro e w' ⟨rfl, rfl⟩)
    | (go_at_call 54; refine (rnames_is _ _ _ w.heap.size _ _ (Lib.hid ((hT.out.mono hB).below hB2.out)) hB2.out.size ht.out hts Ed).mono ?_; rintro e w3 ⟨rfl, hb3⟩; have hB2 := Lib.hid (acc hB2.out hb3); have r2 := Lib.hid ((hb3.block w.heap.size (by have := (Array.getElem?_eq_some_iff.1 r2.out).1; exact this)).trans r2.out); clear x0 x1 x2 x3 x4 x5 x6 x7 x8 x9 x10 x11 x12 x13; have x0 := (cell_of_row _ _ 0 _ _ _ r2.out).trans rfl; have x1 := (cell_of_row _ _ 1 _ _ _ r2.out).trans rfl; have x2 := (cell_of_row _ _ 2 _ _ _ r2.out).trans rfl; have x3 := (cell_of_row _ _ 3 _ _ _ r2.out).trans rfl; have x4 := (cell_of_row _ _ 4 _ _ _ r2.out).trans rfl; have x5 := (cell_of_row _ _ 5 _ _ _ r2.out).trans rfl; have x6 := (cell_of_row _ _ 6 _ _ _ r2.out).trans rfl; have x7 := (cell_of_row _ _ 7 _ _ _ r2.out).trans rfl; have x8 := (cell_of_row _ _ 8 _ _ _ r2.out).trans rfl; have x9 := (cell_of_row _ _ 9 _ _ _ r2.out).trans rfl; have x10 := (cell_of_row _ _ 10 _ _ _ r2.out).trans rfl; have x11 := (cell_of_row _ _ 11 _ _ _ r2.out).trans rfl; have x12 := (cell_of_row _ _ 12 _ _ _ r2.out).trans rfl; have x13 := (cell_of_row _ _ 13 _ _ _ r2.out).trans rfl)
    | (go_at_call 55; (with_reducible refine (num_is _ _ _ En1).mono ?_); rintro e w' ⟨rfl, rfl⟩)
    | (go_at_call 55; (with_reducible refine (num_is _ _ _ En2).mono ?_); rintro e w' ⟨rfl, rfl⟩)
    | (go_at_call 55; (with_reducible refine (num_is _ _ _ En3).mono ?_); rintro e w' ⟨rfl, rfl⟩)
    | (go_at_call 55; (with_reducible refine (num_is _ _ _ En4).mono ?_); rintro e w' ⟨rfl, rfl⟩)
    | (go_at_call 56; refine (rall_is _ _ _ _ _ _ w.heap.size _ _ (Lib.hid ((hR.out.mono hB).below hB2.out)) hB2.out.size hl hs EY).mono ?_; rintro e w4 ⟨rfl, hb4⟩; have hB2 := Lib.hid (acc hB2.out hb4)))
  all_goals
    trace "A"
    go_ret
    refine ⟨congrArg Ending.returned (congrArg (Value.int .i64) (Eq.trans ?_ HX.out)), hB2.out⟩
    simp [chkF, *]

end Go.Proofs.YtijofikpdhapoaaGreat.L4
/-
  Commands as plain data: what a kind has, its bytes.
-/
namespace Go.Proofs.YtijofikpdhapoaaGreat.L4
open Go.RowKit
open L3

/-- a command -/
structure O where
  kind : Nat
  topic : ByteArray
  pn : Int
  n : Int
  off : Int
  bp : Int
  be : Int
  bq : Int
  recs : List R
  group : ByteArray
  member : ByteArray
  gen : Int
  robin : Bool
  tops : List ByteArray

def O.zero : O := ⟨0, ⟨#[]⟩, 0, 0, 0, 0, 0, 0, [], ⟨#[]⟩, ⟨#[]⟩, 0, false, []⟩
def O.chk (o : O) : Int := chkO o.kind o.topic o.pn o.n o.off o.bp o.be o.bq o.recs o.group o.member o.gen o.robin o.tops
def O.only (o : O) : Bool := onlyB o.kind o.topic o.pn o.n o.off o.bp o.be o.bq o.recs.length o.group o.member o.gen o.robin o.tops.length

/-- what was taken over so far -/
def pickI (ks : List Nat) (k : Nat) (n : Int) : Int := if k ∈ ks then n else 0
def pickS (ks : List Nat) (k : Nat) (s : ByteArray) : ByteArray := if k ∈ ks then s else ⟨#[]⟩
def pickB (ks : List Nat) (k : Nat) (b : Bool) : Bool := if k ∈ ks then b else false
def pickV (ks : List Nat) (k : Nat) (v : Value) : Value := if k ∈ ks then v else .slice none 0 0
def pickL {α : Type} (ks : List Nat) (k : Nat) (l : List α) : List α := if k ∈ ks then l else []

/-- a text that is no name, or topics that may not be, among what was gone over -/
def noForm (o : O) (ks : List Nat) : Bool := (decide (1 ∈ ks) && !nameB o.topic) || (decide (9 ∈ ks) && !nameB o.group) || (decide (10 ∈ ks) && !nameB o.member) || (decide (13 ∈ ks) && !namesB o.tops)
def noNum (o : O) (ks : List Nat) : Bool := (decide (2 ∈ ks) && !numB o.pn) || (decide (3 ∈ ks) && !numB o.n) || (decide (4 ∈ ks) && !numB o.off) || (decide (11 ∈ ks) && !numB o.gen)
def noBat (o : O) (ks : List Nat) : Int := if 5 ∈ ks then allN o.bp o.be o.bq o.recs else 0

/-- that which was taken over is all -/
def O.all (o : O) (ks : List Nat) : Prop := o.topic = pickS ks 1 o.topic ∧ o.pn = pickI ks 2 o.pn ∧ o.n = pickI ks 3 o.n ∧ o.off = pickI ks 4 o.off ∧ o.bp = pickI ks 5 o.bp ∧ o.be = pickI ks 5 o.be ∧ o.bq = pickI ks 5 o.bq ∧ o.recs = pickL ks 5 o.recs ∧
  o.group = pickS ks 9 o.group ∧ o.member = pickS ks 10 o.member ∧ o.gen = pickI ks 11 o.gen ∧ o.robin = pickB ks 12 o.robin ∧ o.tops = pickL ks 13 o.tops

theorem isEmpty_iff (s : ByteArray) : s.toList.isEmpty = decide (s = ⟨#[]⟩) := by
  by_cases h : s = ⟨#[]⟩
  · subst h
    rw [decide_eq_true rfl, ByteArray.toList_eq]
    rfl
  · rw [decide_eq_false h]
    cases e : s.toList with
    | nil => exact absurd (empty_of ((nil_iff s).1 e)) h
    | cons _ _ => rfl
theorem len_zero {α : Type} (l : List α) : (l.length = 0) = (l = []) := by simp
theorem num_zero : numB 0 = true := rfl

theorem am_all : ∀ k ≤ 12, amB (hasS k) 116 = decide (k = 0) ∧ amB (hasS k) 112 = decide (k ∈ [2, 3, 4, 5, 10, 11]) ∧ amB (hasS k) 110 = decide (k ∈ [0, 1, 3, 6, 12]) ∧ amB (hasS k) 111 = decide (k ∈ [3, 4, 10]) ∧ amB (hasS k) 98 = decide (k = 2) ∧
    amB (hasS k) 103 = decide (k ∈ [6, 7, 8, 9, 10, 11]) ∧ amB (hasS k) 109 = decide (k ∈ [6, 7, 8, 9, 10]) ∧ amB (hasS k) 101 = decide (k ∈ [7, 8, 9, 10]) ∧ amB (hasS k) 114 = decide (k = 6) ∧ amB (hasS k) 108 = decide (k = 6) := by
  intro k hk
  have : k = 0 ∨ k = 1 ∨ k = 2 ∨ k = 3 ∨ k = 4 ∨ k = 5 ∨ k = 6 ∨ k = 7 ∨ k = 8 ∨ k = 9 ∨ k = 10 ∨ k = 11 ∨ k = 12 := by omega
  rcases this with rfl | rfl | rfl | rfl | rfl | rfl | rfl | rfl | rfl | rfl | rfl | rfl | rfl <;> decide

/-- a command has nothing else: what was taken over is all -/
theorem only_all (o : O) (hk : o.kind ≤ 12) : o.only = true ↔ o.all (hasK o.kind) := by
  obtain ⟨kind, topic, pn, n, off, bp, be, bq, recs, group, member, gen, robin, tops⟩ := o
  obtain ⟨h1, h2, h3, h4, h5, h6, h7, h8, h9, h10⟩ := am_all kind hk
  have hk' : kind ≤ 12 := hk
  have : kind = 0 ∨ kind = 1 ∨ kind = 2 ∨ kind = 3 ∨ kind = 4 ∨ kind = 5 ∨ kind = 6 ∨ kind = 7 ∨ kind = 8 ∨ kind = 9 ∨ kind = 10 ∨ kind = 11 ∨ kind = 12 := by omega
  unfold O.only O.all onlyB
  simp only [h1, h2, h3, h4, h5, h6, h7, h8, h9]
  clear h1 h2 h3 h4 h5 h6 h7 h8 h9 h10 hk hk'
  rcases this with rfl | rfl | rfl | rfl | rfl | rfl | rfl | rfl | rfl | rfl | rfl | rfl | rfl <;>
    simp [hasK, pickS, pickI, pickB, pickL, isEmpty_iff] <;> (try grind)

/-- a kind's own check is the document's -/
theorem chk_kind (o : O) (hk : o.kind ≤ 12) (b : Bool) (hb : b = true ↔ o.all (hasK o.kind)) :
    (if (noForm o (hasK o.kind) || !b) = true then (40 : Int) else if noNum o (hasK o.kind) = true then 1 else noBat o (hasK o.kind)) = o.chk := by
  have hbo : b = o.only := by
    rw [Bool.eq_iff_iff]
    exact hb.trans (only_all o hk).symm
  subst hbo
  by_cases ho : o.only = true
  · have ha := (only_all o hk).1 ho
    rw [ho, Bool.not_true, Bool.or_false]
    unfold O.chk chkO
    have ho' := ho
    unfold O.only at ho'
    rw [ho']
    obtain ⟨kind, topic, pn, n, off, bp, be, bq, recs, group, member, gen, robin, tops⟩ := o
    obtain ⟨h1, h2, h3, h4, h5, h6, h7, h8, h9, h10⟩ := am_all kind hk
    simp only [h1, h2, h6, h7, h10]
    obtain ⟨a1, a2, a3, a4, a5, a6, a7, a8, a9, a10, a11, a12, a13⟩ := ha
    have hk' : kind ≤ 12 := hk
    have : kind = 0 ∨ kind = 1 ∨ kind = 2 ∨ kind = 3 ∨ kind = 4 ∨ kind = 5 ∨ kind = 6 ∨ kind = 7 ∨ kind = 8 ∨ kind = 9 ∨ kind = 10 ∨ kind = 11 ∨ kind = 12 := by omega
    clear h1 h2 h3 h4 h5 h6 h7 h8 h9 h10 hk hk' hb ho ho'
    rcases this with rfl | rfl | rfl | rfl | rfl | rfl | rfl | rfl | rfl | rfl | rfl | rfl | rfl <;>
      simp [hasK, pickS, pickI, pickL] at a1 a2 a3 a4 a9 a10 a11 a13 <;>
      (try subst a1) <;> (try subst a2) <;> (try subst a3) <;> (try subst a4) <;> (try subst a9) <;> (try subst a10) <;> (try subst a11) <;> (try subst a13) <;>
      simp [chkF, noForm, noNum, noBat, hasK, num_zero] <;> (try grind)
  · have hf : o.only = false := by simpa using ho
    rw [hf]
    unfold O.only at hf
    unfold O.chk chkO chkF
    rw [hf]
    simp

end Go.Proofs.YtijofikpdhapoaaGreat.L4
/-
  Contracts: a batch's bytes, the program's.
-/
namespace Go.Proofs.YtijofikpdhapoaaGreat.L3
open Go.RowKit
open Go.Lib (strCells wpList_append_own_string)

theorem byteInfo : (Tryz.prog.info? 5).map (fun i => (i.zero, i.size, i.bytes)) = some (some (.int .u8 0), 1, 1) := by kernel_rfl

/-- a row of bytes, turned into a text -/
theorem own_conv {w : World} {base : Nat} {V : Value} {S : ByteArray} (h : w.ownsRow base 5 1 V S.size (strCells S)) : (convert 87 9 V).run Tryz.prog w = .ok (.string S) w := by
  rcases h.2 with ⟨rfl, h0⟩ | ⟨g, cap, cur, rfl, _⟩
  · have e := run_convert_bytes_nil (P := Tryz.prog) w 87 5 Tryz.underlying87 Tryz.underlying5 0 0 9 Tryz.underlying9
    rw [e, empty_of h0]
    rfl
  · have hc := h.cells (g := g) rfl
    have e := run_convert_bytes_back (P := Tryz.prog) w 87 9 5 ⟨g, 0, none⟩ cap S.data.toList Tryz.underlying87 Tryz.underlying5 Tryz.underlying9 (fun j hj => by
      refine hc j _ ?_
      simp [strCells, List.getElem?_eq_getElem hj])
    have hl : S.data.toList.length = S.size := by rw [Array.length_toList]; rfl
    rw [hl] at e
    rw [e]
theorem strCells_app (a b : ByteArray) : strCells a ++ strCells b = strCells (a ++ b) := by
  simp [strCells, ByteArray.data_append]

def preS (a b c d : ByteArray) : Nat → ByteArray
  | 0 => ⟨#[]⟩
  | 1 => ⟨#[]⟩ ++ a
  | 2 => ⟨#[]⟩ ++ a ++ b
  | 3 => ⟨#[]⟩ ++ a ++ b ++ c
  | _ => ⟨#[]⟩ ++ a ++ b ++ c ++ d

/-- behind the append: the longer row, and all that was ahead of the call's own -/
theorem bat_row {w0 wr w2 w3 : World} {B : Nat} {v v' : Value} {S s : ByteArray} (hown : wr.ownsRow B 5 1 v S.size (strCells S)) (hb2 : Below wr.heap.size wr w2) (hgrow : w2.grownBy w3 v.ownBlock)
    (hown3 : w3.ownsRow B 5 1 v' (S.size + s.size) (strCells S ++ strCells s)) (hbel : Below B w0 wr) (hsz : B ≤ wr.heap.size) : w3.ownsRow B 5 1 v' (S ++ s).size (strCells (S ++ s)) ∧ Below B w0 w3 := by
  refine ⟨by rw [ByteArray.size_append, ← strCells_app]; exact hown3, ?_⟩
  exact (hbel.trans (hb2.mono hsz)).grown hgrow (Nat.le_trans hsz hb2.size) (fun j e => (hown.lt j e).1)

theorem iput_is (n : Int) (s : ByteArray) (w : World) (h0 : 0 ≤ n) (h1 : n ≤ 1099511627776) (h : Hid (V.put n.toNat = s)) :
    Calls Tryz.prog 61 #[.int .u64 n] w fun e w' => e = .returned (.string s) ∧ Below w.heap.size w w' := by
  have k := put_any n w h0 (by omega)
  rw [h.out] at k
  exact k

set_option maxRecDepth 100000 in
set_option maxHeartbeats 4000000 in
theorem batch_ok (p e q : Int) (A : Option Addr) (l : List R) (cap B : Nat) (w : World) (hR : Hid (Reads w B A l)) (hB : B ≤ w.heap.size) (hs : Hid (∀ r ∈ l, r.key.size ≤ maxLen ∧ r.val.size ≤ maxLen)) (HX : Hid (allN p e q l = 0)) :
    Calls Tryz.prog 121 #[.agg #[.int .i64 p, .int .i64 e, .int .i64 q, .slice A l.length cap]] w fun e' w' => e' = .returned (.tuple #[.string (batT p e q l), .int .i64 0]) ∧ Below w.heap.size w w' := by
  obtain ⟨⟨p0, p1⟩, ⟨e0, e1⟩, ⟨q0, q1⟩, l0, l1, hall⟩ := allN_ok HX.out
  have HALL := Lib.hid hall
  obtain ⟨b0, hb0, hbz, hby, hbb⟩ := info_parts byteInfo
  obtain ⟨sp, hsp⟩ : ∃ s, V.put p.toNat = s := ⟨_, rfl⟩
  obtain ⟨se, hse⟩ : ∃ s, V.put e.toNat = s := ⟨_, rfl⟩
  obtain ⟨sq, hsq⟩ : ∃ s, V.put q.toNat = s := ⟨_, rfl⟩
  obtain ⟨sn, hsn⟩ : ∃ s, V.put (l.length : Int).toNat = s := ⟨_, rfl⟩
  have zp : sp.size ≤ 10 := by rw [← hsp]; exact put_le _ p1
  have ze : se.size ≤ 10 := by rw [← hse]; exact put_le _ e1
  have zq : sq.size ≤ 10 := by rw [← hsq]; exact put_le _ q1
  have zn : sn.size ≤ 10 := by rw [← hsn]; exact put_le _ (by omega)
  have SP := Lib.hid hsp
  have SE := Lib.hid hse
  have SQ := Lib.hid hsq
  have SN := Lib.hid hsn
  have hd : Hid (V.nats (sp ++ se ++ sq ++ sn) = V.puts p.toNat ++ (V.puts e.toNat ++ (V.puts q.toNat ++ V.puts l.length))) := Lib.hid (by rw [← hsp, ← hse, ← hsq, ← hsn]; simp [V.nats_append, V.nats_put])
  obtain ⟨g, rfl, hg, hcells⟩ := hR.out l0
  have HC := Lib.hid hcells
  have i0 : ∀ w, (Instr.index 150 (.agg #[.int .u64 p, .int .u64 e, .int .u64 q, .int .u64 l.length]) (.int .i64 0)).run Tryz.prog w = .ok (.int .u64 p) w := fun _ => by kernel_rfl
  have i1 : ∀ w, (Instr.index 150 (.agg #[.int .u64 p, .int .u64 e, .int .u64 q, .int .u64 l.length]) (.int .i64 1)).run Tryz.prog w = .ok (.int .u64 e) w := fun _ => by kernel_rfl
  have i2 : ∀ w, (Instr.index 150 (.agg #[.int .u64 p, .int .u64 e, .int .u64 q, .int .u64 l.length]) (.int .i64 2)).run Tryz.prog w = .ok (.int .u64 q) w := fun _ => by kernel_rfl
  have i3 : ∀ w, (Instr.index 150 (.agg #[.int .u64 p, .int .u64 e, .int .u64 q, .int .u64 l.length]) (.int .i64 3)).run Tryz.prog w = .ok (.int .u64 l.length) w := fun _ => by kernel_rfl
  clear hcells hall hsp hse hsq hsn
  have cp : IntKind.u64.wrap p = p := by rw [IntKind.wrap_u64]; omega
  have ce : IntKind.u64.wrap e = e := by rw [IntKind.wrap_u64]; omega
  have cq : IntKind.u64.wrap q = q := by rw [IntKind.wrap_u64]; omega
  have cn : IntKind.u64.wrap (l.length : Int) = (l.length : Int) := by rw [IntKind.wrap_u64]; omega
  have P0 := Lib.hid p0
  have E0 := Lib.hid e0
  have Q0 := Lib.hid q0
  have P1 := Lib.hid p1
  have E1 := Lib.hid e1
  have Q1 := Lib.hid q1
  go_enter Tryz.func121, Tryz.ntmps121
  go_wp2_with (go_at_call 115; refine (all_is _ _ _ _ _ _ _ _ _ (Lib.hid (hR.out.below ((one_box _).mono hB))) (by simp; omega) (by omega) hs HX).mono ?_; rintro e w1 ⟨rfl, hb1⟩; obtain ⟨hc1, hf1⟩ := box_cells hb1)
  have hsz1 : w.heap.size + 1 ≤ w1.heap.size := by have := hb1.size; simpa using this
  go_loopw [5, 31] (fun v i wr => ∃ (k : Nat) (S : ByteArray), k ≤ 4 ∧ i = .int .i64 k ∧ wr.ownsRow (w.heap.size + 1) 5 1 v S.size (strCells S) ∧ S.size ≤ 10 * k ∧ Hid (S = preS sp se sq sn k) ∧ Below (w.heap.size + 1) w1 wr) (fun _ i _ => 4 - (intOf i).toNat)
  case atStart => exact ⟨0, ⟨#[]⟩, by omega, rfl, World.ownsRow_nil _ _ _ _, by show 0 ≤ _; omega, Lib.hid rfl, Below.refl _ _⟩
  case round =>
    obtain ⟨k, S, hk, rfl, hown, hz, hS, hbel⟩ := hrel
    have hsz : w.heap.size + 1 ≤ wr.heap.size := Nat.le_trans hsz1 hbel.size
    have hk4 : k = 0 ∨ k = 1 ∨ k = 2 ∨ k = 3 ∨ k = 4 := by omega
    rcases hk4 with rfl | rfl | rfl | rfl | rfl
    · go_wp2_with (first
        | (go_at_call 61; (with_reducible refine (iput_is _ _ _ P0.out P1.out SP).mono ?_); rintro e2 w2 ⟨rfl, hb2⟩; have hown2 := own_below hown hb2)
        | (at_builtin; refine wpList_append_own_string _ rfl _ _ 87 9 rfl (w.heap.size + 1) 5 b0 Tryz.underlying87 Tryz.underlying9 hb0 hbz hby hbb _ _ _ rfl hown2 sp rfl (by unfold maxLen; omega) (by omega) (Nat.le_trans hsz hb2.size) ?_; intro v' w3 hown3 hgrow _))
      have hnx := bat_row hown hb2 hgrow hown3 hbel hsz
      go_roundw
      case rel => exact ⟨1, S ++ sp, by omega, rfl, hnx.1, by rw [ByteArray.size_append]; omega, Lib.hid (by rw [hS.out]; rfl), hnx.2⟩
      case measure => simp [intOf]
    · go_wp2_with (first
        | (go_at_call 61; (with_reducible refine (iput_is _ _ _ E0.out E1.out SE).mono ?_); rintro e2 w2 ⟨rfl, hb2⟩; have hown2 := own_below hown hb2)
        | (at_builtin; refine wpList_append_own_string _ rfl _ _ 87 9 rfl (w.heap.size + 1) 5 b0 Tryz.underlying87 Tryz.underlying9 hb0 hbz hby hbb _ _ _ rfl hown2 se rfl (by unfold maxLen; omega) (by omega) (Nat.le_trans hsz hb2.size) ?_; intro v' w3 hown3 hgrow _))
      have hnx := bat_row hown hb2 hgrow hown3 hbel hsz
      go_roundw
      case rel => exact ⟨2, S ++ se, by omega, rfl, hnx.1, by rw [ByteArray.size_append]; omega, Lib.hid (by rw [hS.out]; rfl), hnx.2⟩
      case measure => simp [intOf]
    · go_wp2_with (first
        | (go_at_call 61; (with_reducible refine (iput_is _ _ _ Q0.out Q1.out SQ).mono ?_); rintro e2 w2 ⟨rfl, hb2⟩; have hown2 := own_below hown hb2)
        | (at_builtin; refine wpList_append_own_string _ rfl _ _ 87 9 rfl (w.heap.size + 1) 5 b0 Tryz.underlying87 Tryz.underlying9 hb0 hbz hby hbb _ _ _ rfl hown2 sq rfl (by unfold maxLen; omega) (by omega) (Nat.le_trans hsz hb2.size) ?_; intro v' w3 hown3 hgrow _))
      have hnx := bat_row hown hb2 hgrow hown3 hbel hsz
      go_roundw
      case rel => exact ⟨3, S ++ sq, by omega, rfl, hnx.1, by rw [ByteArray.size_append]; omega, Lib.hid (by rw [hS.out]; rfl), hnx.2⟩
      case measure => simp [intOf]
    · go_wp2_with (first
        | (go_at_call 61; (with_reducible refine (iput_is _ _ _ (by omega) (by omega) SN).mono ?_); rintro e2 w2 ⟨rfl, hb2⟩; have hown2 := own_below hown hb2)
        | (at_builtin; refine wpList_append_own_string _ rfl _ _ 87 9 rfl (w.heap.size + 1) 5 b0 Tryz.underlying87 Tryz.underlying9 hb0 hbz hby hbb _ _ _ rfl hown2 sn rfl (by unfold maxLen; omega) (by omega) (Nat.le_trans hsz hb2.size) ?_; intro v' w3 hown3 hgrow _))
      have hnx := bat_row hown hb2 hgrow hown3 hbel hsz
      go_roundw
      case rel => exact ⟨4, S ++ sn, by omega, rfl, hnx.1, by rw [ByteArray.size_append]; omega, Lib.hid (by rw [hS.out]; rfl), hnx.2⟩
      case measure => simp [intOf]
    · have hbox : wr.cell? ⟨w.heap.size, 3, none⟩ = some (.slice (some ⟨g, 0, none⟩) l.length cap) := (hbel.cell (p := ⟨w.heap.size, 3, none⟩) (by show w.heap.size < _; omega)).trans ((hb1.cell (p := ⟨w.heap.size, 3, none⟩) (by simp)).trans (by simp [go_sem]))
      have hbw : Below w.heap.size w w1 := (one_box _).trans (hb1.mono (by simp))
      clear hc1 hf1
      rw [show ((4 : Nat) : Int) = 4 from rfl]
      go_wp2_with fail
      go_loopw [5, 42] (fun v i wq => ∃ (k : Nat) (S : ByteArray), k ≤ l.length ∧ i = .int .i64 k ∧ wq.ownsRow (w.heap.size + 1) 5 1 v S.size (strCells S) ∧ Hid (V.nats S = (V.puts p.toNat ++ (V.puts e.toNat ++ (V.puts q.toNat ++ V.puts l.length))) ++ (l.take k).flatMap fun r => V.nats r.put) ∧ Below (w.heap.size + 1) w1 wq) (fun _ i _ => l.length - (intOf i).toNat)
      case atStart => exact ⟨0, S, by omega, rfl, hown, Lib.hid (by rw [hS.out]; show V.nats (⟨#[]⟩ ++ sp ++ se ++ sq ++ sn) = _; rw [show (⟨#[]⟩ : ByteArray) ++ sp = sp from ByteArray.empty_append]; rw [hd.out]; simp), hbel⟩
      clear hS hz hown hbel hbox
      case round =>
        obtain ⟨k, S, hk, rfl, hown, hN, hbel⟩ := hrel
        have hsq : w.heap.size + 1 ≤ wr.heap.size := Nat.le_trans hsz1 hbel.size
        have hbelw : Below w.heap.size w wr := hbw.trans (hbel.mono (by omega))
        have hS1 : S.size ≤ 40 + 600 * k := by
          have := congrArg List.length hN.out
          rw [V.nats_len] at this
          rw [this]
          have f1 := V.puts_len p.toNat (by omega)
          have f2 := V.puts_len e.toNat (by omega)
          have f3 := V.puts_len q.toNat (by omega)
          have f4 := V.puts_len l.length (by omega)
          have f5 := flat_le l k
          simp only [List.length_append]
          omega
        by_cases hlt : k < l.length
        · obtain ⟨⟨rk, key, tb, val⟩, hr⟩ : ∃ r, l[k]? = some r := ⟨l[k], List.getElem?_eq_getElem hlt⟩
          have Z0 : Hid (chk rk key tb val = 0) := Lib.hid (HALL.out _ (List.mem_of_getElem? hr))
          obtain ⟨z1, z2⟩ := hs.out _ (List.mem_of_getElem? hr)
          have Z1 := Lib.hid z1
          have Z2 := Lib.hid z2
          obtain ⟨c0, c1, c2, c3⟩ := HC.out k _ hr
          have d0 := (hbelw.cell (p := ⟨g, k * 4, none⟩) (by show g < _; omega)).trans c0
          have d1 := (hbelw.cell (p := ⟨g, k * 4 + 1, none⟩) (by show g < _; omega)).trans c1
          have d2 := (hbelw.cell (p := ⟨g, k * 4 + 2, none⟩) (by show g < _; omega)).trans c2
          have d3 := (hbelw.cell (p := ⟨g, k * 4 + 3, none⟩) (by show g < _; omega)).trans c3
          have HR := Lib.hid hr
          clear c0 c1 c2 c3 hr z1 z2
          dsimp only at d0 d1 d2 d3 Z1 Z2
          obtain ⟨t, ht⟩ : ∃ t, putT rk key tb val = t := ⟨_, rfl⟩
          have ht1 : t.size ≤ 600 := by rw [← ht]; exact putT_size _ _ _ _
          have HT := Lib.hid ht
          clear ht
          go_wp2_with (first
            | (go_at_call 38; refine (put_is _ _ _ _ _ _ _ Z1.out Z2.out Z0 HT).mono ?_; rintro e w2 ⟨rfl, hb2⟩; have hb3 : Below wr.heap.size wr w2 := ((one_box _).trans (hb2.mono (by simp))); have hown2 := own_below hown hb3)
            | (at_builtin; refine wpList_append_own_string _ rfl _ _ 87 9 rfl (w.heap.size + 1) 5 b0 Tryz.underlying87 Tryz.underlying9 hb0 hbz hby hbb _ _ _ rfl hown2 t rfl (by unfold maxLen; omega) (by omega) (Nat.le_trans hsq hb3.size) ?_; intro v' w3 hown3 hgrow _))
          have hnx := bat_row hown hb3 hgrow hown3 hbel hsq
          go_roundw
          case rel => exact ⟨k + 1, S ++ t, by omega, by go_num, hnx.1, Lib.hid (bat_next HR.out HT.out hN.out), hnx.2⟩
          case measure => simp [intOf]; omega
        · obtain rfl : k = l.length := by omega
          have hfin : S = batT p e q l := V.nats_inj (by rw [hN.out, nats_bat, List.take_length]; simp [batN])
          have HF := Lib.hid hfin
          have kc := own_conv hown
          clear hfin
          go_wp2_with fail
          go_ret2
          exact ⟨by rw [← HF.out]; rfl, hbelw⟩

set_option maxHeartbeats 1000000 in
theorem batch_err (p e q : Int) (A : Option Addr) (l : List R) (cap B : Nat) (x : Int) (w : World) (hR : Hid (Reads w B A l)) (hB : B ≤ w.heap.size) (hl : l.length ≤ 20) (hs : Hid (∀ r ∈ l, r.key.size ≤ maxLen ∧ r.val.size ≤ maxLen)) (HX : Hid (allN p e q l = x)) (hx : (x != 0) = true) :
    Calls Tryz.prog 121 #[.agg #[.int .i64 p, .int .i64 e, .int .i64 q, .slice A l.length cap]] w fun e' w' => e' = .returned (.tuple #[.string ⟨#[]⟩, .int .i64 x]) ∧ Below w.heap.size w w' := by
  go_enter Tryz.func121, Tryz.ntmps121
  go_wp2_with (go_at_call 115; refine (all_is _ _ _ _ _ _ _ _ _ (Lib.hid (hR.out.below ((one_box _).mono hB))) (by simp; omega) hl hs HX).mono ?_; rintro e w1 ⟨rfl, hb1⟩)
  go_ret2
  exact ⟨rfl, (one_box _).trans (hb1.mono (by simp))⟩

theorem batch_is (p e q : Int) (A : Option Addr) (l : List R) (cap B : Nat) (x : Int) (t : ByteArray) (w : World) (hR : Hid (Reads w B A l)) (hB : B ≤ w.heap.size) (hl : l.length ≤ 20) (hs : Hid (∀ r ∈ l, r.key.size ≤ maxLen ∧ r.val.size ≤ maxLen)) (HX : Hid (allN p e q l = x)) (HT : Hid (batP p e q l = t)) :
    Calls Tryz.prog 121 #[.agg #[.int .i64 p, .int .i64 e, .int .i64 q, .slice A l.length cap]] w fun e' w' => e' = .returned (.tuple #[.string t, .int .i64 x]) ∧ Below w.heap.size w w' := by
  have ht := HT.out
  by_cases hx : x = 0
  · subst hx
    rw [batP_ok HX.out] at ht
    subst ht
    exact batch_ok p e q A l cap B w hR hB hs HX
  · rw [batP_err HX.out hx] at ht
    subst ht
    exact batch_err p e q A l cap B x w hR hB hl hs HX (by simpa using hx)
end Go.Proofs.YtijofikpdhapoaaGreat.L3
