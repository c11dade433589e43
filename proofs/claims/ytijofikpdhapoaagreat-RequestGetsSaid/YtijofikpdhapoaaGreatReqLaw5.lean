/-
  The document's Put at any kind; a command that was cut, cut again.
-/
import Derived.Test.YtijofikpdhapoaaGreatReqLaw3
import Derived.Test.YtijofikpdhapoaaGreatReqRput
namespace Go.Proofs.YtijofikpdhapoaaGreat.L4
open Go.RowKit
open L3

set_option maxRecDepth 100000 in
set_option maxHeartbeats 8000000 in
theorem rput_kind (kind : Int) (a1 a2 a3 a4 a5 a6 a7 a8 a9 a10 a11 a12 a13 : Value) (w : World) (hk : Hid (kind < 0 ∨ 12 < kind)) :
    Calls Tryz.prog 11 #[.agg #[.int .i64 kind, a1, a2, a3, a4, a5, a6, a7, a8, a9, a10, a11, a12, a13]] w fun e w' => e = .returned (.tuple #[.string ⟨#[]⟩, .int .i64 41]) ∧ Below w.heap.size w w' := by
  go_enter Tryz.func11, Tryz.ntmps11
  go_wp2_with (go_at_call 28; refine (rcheck_bad _ _ _ _ _ _ _ _ _ _ _ _ _ _ _ hk.out).mono ?_; rintro e w1 ⟨rfl, hb1⟩; have HB1 := Lib.hid ((one_box (.cells #[.int .i64 kind, a1, a2, a3, a4, a5, a6, a7, a8, a9, a10, a11, a12, a13] 29 (0, 0))).trans (hb1.mono (by simp))); have r1 := (hb1.block w.heap.size (by simp)).trans (heap_alloc_new w (.cells #[.int .i64 kind, a1, a2, a3, a4, a5, a6, a7, a8, a9, a10, a11, a12, a13] 29 (0, 0))); have x0 := row14 (j := 0) r1 rfl; have x1 := row14 (j := 1) r1 rfl; have x2 := row14 (j := 2) r1 rfl; have x3 := row14 (j := 3) r1 rfl; have x4 := row14 (j := 4) r1 rfl; have x5 := row14 (j := 5) r1 rfl; have x6 := row14 (j := 6) r1 rfl; have x7 := row14 (j := 7) r1 rfl; have x8 := row14 (j := 8) r1 rfl; have x9 := row14 (j := 9) r1 rfl; have x10 := row14 (j := 10) r1 rfl; have x11 := row14 (j := 11) r1 rfl; have x12 := row14 (j := 12) r1 rfl; have x13 := row14 (j := 13) r1 rfl; clear r1 hb1)
  go_ret2
  exact ⟨rfl, HB1.out⟩

theorem rput_u (kind : Int) {o : O} {RA TA : Option Addr} (rc tc : Nat) {w : World} (HC : Hid (Cutd o)) (ha : Hid (At o RA TA w)) (s : ByteArray) (x : Int) (HP : Hid (PutU kind o s x)) :
    Calls Tryz.prog 11 #[.agg #[.int .i64 kind, .string o.topic, .int .i64 o.pn, .int .i64 o.n, .int .i64 o.off, .int .i64 o.bp, .int .i64 o.be, .int .i64 o.bq, .slice RA o.recs.length rc, .string o.group, .string o.member, .int .i64 o.gen, .bool o.robin, .slice TA o.tops.length tc]] w fun e w' => e = .returned (.tuple #[.string s, .int .i64 x]) ∧ Below w.heap.size w w' := by
  obtain ⟨hc, hs⟩ := HP.out
  rcases hc with ⟨rfl, hk, hx⟩ | ⟨hk, rfl⟩
  · by_cases h0 : x = 0
    · subst h0
      rw [if_pos rfl] at hs
      subst hs
      exact rput_ok rc tc hk HC ha (Lib.hid hx)
    · rw [if_neg h0] at hs
      subst hs
      exact rput_bad rc tc hk HC ha x h0 (Lib.hid hx)
  · rw [if_neg (by decide)] at hs
    subst hs
    exact rput_kind kind _ _ _ _ _ _ _ _ _ _ _ _ _ w (Lib.hid hk)

theorem rnameb_is (s : ByteArray) (v : Bool) (w : World) (hs : s.size ≤ maxLen) (HV : Hid (nameB s = v)) : Calls Tryz.prog 53 #[.string s] w fun e w' => e = .returned (.bool v) ∧ Below w.heap.size w w' := by
  have h := rname_any s w hs
  rw [HV.out] at h
  refine h.mono ?_
  rintro e w' ⟨rfl, rfl⟩
  exact ⟨rfl, Below.refl _ _⟩
theorem cutS_id {s : ByteArray} {m : Nat} (h : s.size ≤ m) : cutS s m = s := by
  unfold cutS
  rw [show (min (s.size : Int) m).toNat = s.size by omega]
  cases s
  simp
theorem cutR_id {r : R} (h : r.key.size ≤ 80 ∧ r.val.size ≤ 600) : r.cut = r := by
  unfold R.cut
  rw [show cutS r.key 80 = r.key from cutS_id (m := 80) h.1, show cutS r.val 600 = r.val from cutS_id (m := 600) h.2]
theorem Cutd.again {o : O} (h : Cutd o) (k : Nat) (hk : o.kind = k) : o = cutO k o.topic o.pn o.n o.off o.bp o.be o.bq o.recs o.group o.member o.gen o.robin o.tops := by
  have e1 : cutS o.topic 40 = o.topic := cutS_id (m := 40) h.t
  have e2 : cutS o.group 40 = o.group := cutS_id (m := 40) h.g
  have e3 : cutS o.member 40 = o.member := cutS_id (m := 40) h.m
  have e4 : (o.recs.take 20).map R.cut = o.recs := by
    rw [List.take_of_length_le h.r]
    exact (List.map_congr_left (g := id) fun r hr => cutR_id (h.rs r hr)).trans (List.map_id _)
  have e5 : (o.tops.take 12).map (fun s => cutS s 40) = o.tops := by
    rw [List.take_of_length_le h.l]
    exact (List.map_congr_left (g := id) fun s hs => cutS_id (m := 40) (h.ls s hs)).trans (List.map_id _)
  unfold cutO
  rw [e1, e2, e3, e4, e5, ← hk]
end Go.Proofs.YtijofikpdhapoaaGreat.L4
