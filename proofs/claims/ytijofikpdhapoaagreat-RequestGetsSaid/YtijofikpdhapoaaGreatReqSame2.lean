/-
  Contracts: whether two batches, two commands are the same: the document's.
-/
import Derived.Test.YtijofikpdhapoaaGreatMReqTops
namespace Go.Proofs.YtijofikpdhapoaaGreat.L4
open Go.RowKit
open L3

theorem int_off {a b : Int} (h : a ≠ b) : (a == b) = false := by simpa using h
theorem off_of {v : Bool} {P : Prop} (h : v = true ↔ P) (hn : ¬ P) : v = false := by
  cases v
  · rfl
  · exact absurd (h.1 rfl) hn
theorem on_of {v : Bool} {P : Prop} (h : v = true ↔ P) (hp : P) : v = true := h.2 hp

set_option maxRecDepth 100000 in
set_option maxHeartbeats 4000000 in
theorem rbsame_is (p e q p' e' q' : Int) (A A' : Option Addr) (l l' : List R) (cap cap' B : Nat) (v : Bool) (w : World) (hR : Hid (Reads w B A l)) (hR' : Hid (Reads w B A' l')) (hB : B ≤ w.heap.size) (hl : l.length ≤ maxLen) (HV : Hid (v = true ↔ p = p' ∧ e = e' ∧ q = q' ∧ l = l')) :
    Calls Tryz.prog 16 #[.agg #[.int .i64 p, .int .i64 e, .int .i64 q, .slice A l.length cap], .agg #[.int .i64 p', .int .i64 e', .int .i64 q', .slice A' l'.length cap']] w fun e' w' => e' = .returned (.bool v) ∧ Below w.heap.size w w' := by
  have HL := Lib.hid hl
  clear hl
  by_cases hp : p = p'
  · subst hp
    by_cases he : e = e'
    · subst he
      by_cases hq : q = q'
      · subst hq
        have HW : Hid (v = true ↔ l = l') := Lib.hid (HV.out.trans ⟨fun h => h.2.2.2, fun h => ⟨rfl, rfl, rfl, h⟩⟩)
        clear HV
        go_enter Tryz.func16, Tryz.ntmps16
        go_wp2_with (go_at_call 35; refine (rrecords_is _ _ _ _ _ _ w.heap.size _ _ (Lib.hid ((hR.out.mono hB).below (two_box _ _))) (Lib.hid ((hR'.out.mono hB).below (two_box _ _))) (by simp; omega) HL.out HW).mono ?_; rintro e1 w1 ⟨rfl, hb1⟩)
        go_ret
        exact ⟨rfl, (two_box _ _).trans (hb1.mono (by simp; omega))⟩
      · have HD : Hid (v = false) := Lib.hid (off_of HV.out (by rintro ⟨h1, h2, h3, h4⟩; exact hq h3))
        have q0 : (q == q') = false := int_off hq
        clear hq HV
        go_enter Tryz.func16, Tryz.ntmps16
        go_wp2_with fail
        go_ret
        exact ⟨congrArg Ending.returned (congrArg Value.bool HD.out.symm), two_box _ _⟩
    · have HD : Hid (v = false) := Lib.hid (off_of HV.out (by rintro ⟨h1, h2, h3, h4⟩; exact he h2))
      have q0 : (e == e') = false := int_off he
      clear he HV
      go_enter Tryz.func16, Tryz.ntmps16
      go_wp2_with fail
      go_ret
      exact ⟨congrArg Ending.returned (congrArg Value.bool HD.out.symm), two_box _ _⟩
  · have HD : Hid (v = false) := Lib.hid (off_of HV.out (by rintro ⟨h1, h2, h3, h4⟩; exact hp h1))
    have q0 : (p == p') = false := int_off hp
    clear hp HV
    go_enter Tryz.func16, Tryz.ntmps16
    go_wp2_with fail
    go_ret
    exact ⟨congrArg Ending.returned (congrArg Value.bool HD.out.symm), two_box _ _⟩

set_option maxRecDepth 100000 in
set_option maxHeartbeats 16000000 in
theorem rsame_is (kind : Int) (topic : ByteArray) (pn : Int) (n : Int) (off : Int) (bp : Int) (be : Int) (bq : Int) (recs : List R) (group : ByteArray) (member : ByteArray) (gen : Int) (robin : Bool) (tops : List ByteArray) (RA TA : Option Addr) (rc tc : Nat)
    (kind' : Int) (topic' : ByteArray) (pn' : Int) (n' : Int) (off' : Int) (bp' : Int) (be' : Int) (bq' : Int) (recs' : List R) (group' : ByteArray) (member' : ByteArray) (gen' : Int) (robin' : Bool) (tops' : List ByteArray) (RA' TA' : Option Addr) (rc' tc' : Nat)
    (B : Nat) (v : Bool) (w : World) (hR : Hid (Reads w B RA recs)) (hR' : Hid (Reads w B RA' recs')) (hT : Hid (ReadsT w B TA tops)) (hT' : Hid (ReadsT w B TA' tops')) (hB : B ≤ w.heap.size) (hl : recs.length ≤ maxLen) (ht : tops.length ≤ maxLen)
    (HV : Hid (v = true ↔ (kind = kind' ∧ topic = topic' ∧ pn = pn' ∧ n = n' ∧ off = off' ∧ bp = bp' ∧ be = be' ∧ bq = bq' ∧ recs = recs' ∧ group = group' ∧ member = member' ∧ gen = gen' ∧ robin = robin' ∧ tops = tops'))) :
    Calls Tryz.prog 6 #[.agg #[.int .i64 kind, .string topic, .int .i64 pn, .int .i64 n, .int .i64 off, .int .i64 bp, .int .i64 be, .int .i64 bq, .slice RA recs.length rc, .string group, .string member, .int .i64 gen, .bool robin, .slice TA tops.length tc], .agg #[.int .i64 kind', .string topic', .int .i64 pn', .int .i64 n', .int .i64 off', .int .i64 bp', .int .i64 be', .int .i64 bq', .slice RA' recs'.length rc', .string group', .string member', .int .i64 gen', .bool robin', .slice TA' tops'.length tc']] w fun e' w' => e' = .returned (.bool v) ∧ Below w.heap.size w w' := by
  have HL := Lib.hid hl
  have HLT := Lib.hid ht
  clear hl ht
  by_cases hkind : kind = kind'
  · subst hkind
    by_cases htopic : topic = topic'
    · subst htopic
      by_cases hpn : pn = pn'
      · subst hpn
        by_cases hn : n = n'
        · subst hn
          by_cases hoff : off = off'
          · subst hoff
            by_cases hbatch : bp = bp' ∧ be = be' ∧ bq = bq' ∧ recs = recs'
            · have HVB : Hid (true = true ↔ bp = bp' ∧ be = be' ∧ bq = bq' ∧ recs = recs') := Lib.hid ⟨fun _ => hbatch, fun _ => rfl⟩
              by_cases hgroup : group = group'
              · subst hgroup
                by_cases hmember : member = member'
                · subst hmember
                  by_cases hgen : gen = gen'
                  · subst hgen
                    by_cases hrobin : robin = robin'
                    · subst hrobin
                      have HVT : Hid (v = true ↔ tops = tops') := Lib.hid (HV.out.trans ⟨fun h => by obtain ⟨e_kind, e_topic, e_pn, e_n, e_off, e_bp, e_be, e_bq, e_recs, e_group, e_member, e_gen, e_robin, e_tops⟩ := h; exact e_tops, fun h => ⟨rfl, rfl, rfl, rfl, rfl, hbatch.1, hbatch.2.1, hbatch.2.2.1, hbatch.2.2.2, rfl, rfl, rfl, rfl, h⟩⟩)
                      clear HV hbatch
                      go_enter Tryz.func6, Tryz.ntmps6
                      go_wp2_with (first
                        | (go_at_call 16; refine (rbsame_is _ _ _ _ _ _ _ _ _ _ _ _ w.heap.size true _ (Lib.hid ((hR.out.mono hB).below (two_box _ _))) (Lib.hid ((hR'.out.mono hB).below (two_box _ _))) (by simp; omega) HL.out HVB).mono ?_; rintro e1 w1 ⟨rfl, hb1⟩; have r0 := (hb1.block w.heap.size (by simp; omega)).trans (heap_alloc2_old w _ _); have r1 := (hb1.block (w.heap.size + 1) (by simp)).trans (heap_alloc2_new w _ _); have x9 := (cell_of_row _ _ 9 _ _ _ r0).trans rfl; have y9 := (cell_of_row _ _ 9 _ _ _ r1).trans rfl; have x10 := (cell_of_row _ _ 10 _ _ _ r0).trans rfl; have y10 := (cell_of_row _ _ 10 _ _ _ r1).trans rfl; have x11 := (cell_of_row _ _ 11 _ _ _ r0).trans rfl; have y11 := (cell_of_row _ _ 11 _ _ _ r1).trans rfl; have x12 := (cell_of_row _ _ 12 _ _ _ r0).trans rfl; have y12 := (cell_of_row _ _ 12 _ _ _ r1).trans rfl; have x13 := (cell_of_row _ _ 13 _ _ _ r0).trans rfl; have y13 := (cell_of_row _ _ 13 _ _ _ r1).trans rfl; have hB1 := Lib.hid ((two_box _ _).trans (hb1.mono (by simp; omega))); clear r0 r1)
                        | (go_at_call 17; refine (rtexts_is _ _ _ _ _ _ w.heap.size v _ (Lib.hid ((hT.out.mono hB).below hB1.out)) (Lib.hid ((hT'.out.mono hB).below hB1.out)) hB1.out.size HLT.out HVT).mono ?_; rintro e2 w2 ⟨rfl, hb2⟩))
                      go_ret
                      exact ⟨rfl, acc hB1.out hb2⟩
                    · have HD : Hid (v = false) := Lib.hid (off_of HV.out (by rintro ⟨e_kind, e_topic, e_pn, e_n, e_off, e_bp, e_be, e_bq, e_recs, e_group, e_member, e_gen, e_robin, e_tops⟩; exact hrobin e_robin))
                      have q0 : (robin == robin') = false := bool_off hrobin
                      clear hrobin HV hbatch
                      go_enter Tryz.func6, Tryz.ntmps6
                      go_wp2_with (go_at_call 16; refine (rbsame_is _ _ _ _ _ _ _ _ _ _ _ _ w.heap.size true _ (Lib.hid ((hR.out.mono hB).below (two_box _ _))) (Lib.hid ((hR'.out.mono hB).below (two_box _ _))) (by simp; omega) HL.out HVB).mono ?_; rintro e1 w1 ⟨rfl, hb1⟩; have r0 := (hb1.block w.heap.size (by simp; omega)).trans (heap_alloc2_old w _ _); have r1 := (hb1.block (w.heap.size + 1) (by simp)).trans (heap_alloc2_new w _ _); have x9 := (cell_of_row _ _ 9 _ _ _ r0).trans rfl; have y9 := (cell_of_row _ _ 9 _ _ _ r1).trans rfl; have x10 := (cell_of_row _ _ 10 _ _ _ r0).trans rfl; have y10 := (cell_of_row _ _ 10 _ _ _ r1).trans rfl; have x11 := (cell_of_row _ _ 11 _ _ _ r0).trans rfl; have y11 := (cell_of_row _ _ 11 _ _ _ r1).trans rfl; have x12 := (cell_of_row _ _ 12 _ _ _ r0).trans rfl; have y12 := (cell_of_row _ _ 12 _ _ _ r1).trans rfl; have x13 := (cell_of_row _ _ 13 _ _ _ r0).trans rfl; have y13 := (cell_of_row _ _ 13 _ _ _ r1).trans rfl; have hB1 := Lib.hid ((two_box _ _).trans (hb1.mono (by simp; omega))); clear r0 r1)
                      go_ret
                      exact ⟨congrArg Ending.returned (congrArg Value.bool HD.out.symm), hB1.out⟩
                  · have HD : Hid (v = false) := Lib.hid (off_of HV.out (by rintro ⟨e_kind, e_topic, e_pn, e_n, e_off, e_bp, e_be, e_bq, e_recs, e_group, e_member, e_gen, e_robin, e_tops⟩; exact hgen e_gen))
                    have q0 : (gen == gen') = false := int_off hgen
                    clear hgen HV hbatch
                    go_enter Tryz.func6, Tryz.ntmps6
                    go_wp2_with (go_at_call 16; refine (rbsame_is _ _ _ _ _ _ _ _ _ _ _ _ w.heap.size true _ (Lib.hid ((hR.out.mono hB).below (two_box _ _))) (Lib.hid ((hR'.out.mono hB).below (two_box _ _))) (by simp; omega) HL.out HVB).mono ?_; rintro e1 w1 ⟨rfl, hb1⟩; have r0 := (hb1.block w.heap.size (by simp; omega)).trans (heap_alloc2_old w _ _); have r1 := (hb1.block (w.heap.size + 1) (by simp)).trans (heap_alloc2_new w _ _); have x9 := (cell_of_row _ _ 9 _ _ _ r0).trans rfl; have y9 := (cell_of_row _ _ 9 _ _ _ r1).trans rfl; have x10 := (cell_of_row _ _ 10 _ _ _ r0).trans rfl; have y10 := (cell_of_row _ _ 10 _ _ _ r1).trans rfl; have x11 := (cell_of_row _ _ 11 _ _ _ r0).trans rfl; have y11 := (cell_of_row _ _ 11 _ _ _ r1).trans rfl; have x12 := (cell_of_row _ _ 12 _ _ _ r0).trans rfl; have y12 := (cell_of_row _ _ 12 _ _ _ r1).trans rfl; have x13 := (cell_of_row _ _ 13 _ _ _ r0).trans rfl; have y13 := (cell_of_row _ _ 13 _ _ _ r1).trans rfl; have hB1 := Lib.hid ((two_box _ _).trans (hb1.mono (by simp; omega))); clear r0 r1)
                    go_ret
                    exact ⟨congrArg Ending.returned (congrArg Value.bool HD.out.symm), hB1.out⟩
                · have HD : Hid (v = false) := Lib.hid (off_of HV.out (by rintro ⟨e_kind, e_topic, e_pn, e_n, e_off, e_bp, e_be, e_bq, e_recs, e_group, e_member, e_gen, e_robin, e_tops⟩; exact hmember e_member))
                  have q0 : (member.toList == member'.toList) = false := bytes_off hmember
                  clear hmember HV hbatch
                  go_enter Tryz.func6, Tryz.ntmps6
                  go_wp2_with (go_at_call 16; refine (rbsame_is _ _ _ _ _ _ _ _ _ _ _ _ w.heap.size true _ (Lib.hid ((hR.out.mono hB).below (two_box _ _))) (Lib.hid ((hR'.out.mono hB).below (two_box _ _))) (by simp; omega) HL.out HVB).mono ?_; rintro e1 w1 ⟨rfl, hb1⟩; have r0 := (hb1.block w.heap.size (by simp; omega)).trans (heap_alloc2_old w _ _); have r1 := (hb1.block (w.heap.size + 1) (by simp)).trans (heap_alloc2_new w _ _); have x9 := (cell_of_row _ _ 9 _ _ _ r0).trans rfl; have y9 := (cell_of_row _ _ 9 _ _ _ r1).trans rfl; have x10 := (cell_of_row _ _ 10 _ _ _ r0).trans rfl; have y10 := (cell_of_row _ _ 10 _ _ _ r1).trans rfl; have x11 := (cell_of_row _ _ 11 _ _ _ r0).trans rfl; have y11 := (cell_of_row _ _ 11 _ _ _ r1).trans rfl; have x12 := (cell_of_row _ _ 12 _ _ _ r0).trans rfl; have y12 := (cell_of_row _ _ 12 _ _ _ r1).trans rfl; have x13 := (cell_of_row _ _ 13 _ _ _ r0).trans rfl; have y13 := (cell_of_row _ _ 13 _ _ _ r1).trans rfl; have hB1 := Lib.hid ((two_box _ _).trans (hb1.mono (by simp; omega))); clear r0 r1)
                  go_ret
                  exact ⟨congrArg Ending.returned (congrArg Value.bool HD.out.symm), hB1.out⟩
              · have HD : Hid (v = false) := Lib.hid (off_of HV.out (by rintro ⟨e_kind, e_topic, e_pn, e_n, e_off, e_bp, e_be, e_bq, e_recs, e_group, e_member, e_gen, e_robin, e_tops⟩; exact hgroup e_group))
                have q0 : (group.toList == group'.toList) = false := bytes_off hgroup
                clear hgroup HV hbatch
                go_enter Tryz.func6, Tryz.ntmps6
                go_wp2_with (go_at_call 16; refine (rbsame_is _ _ _ _ _ _ _ _ _ _ _ _ w.heap.size true _ (Lib.hid ((hR.out.mono hB).below (two_box _ _))) (Lib.hid ((hR'.out.mono hB).below (two_box _ _))) (by simp; omega) HL.out HVB).mono ?_; rintro e1 w1 ⟨rfl, hb1⟩; have r0 := (hb1.block w.heap.size (by simp; omega)).trans (heap_alloc2_old w _ _); have r1 := (hb1.block (w.heap.size + 1) (by simp)).trans (heap_alloc2_new w _ _); have x9 := (cell_of_row _ _ 9 _ _ _ r0).trans rfl; have y9 := (cell_of_row _ _ 9 _ _ _ r1).trans rfl; have x10 := (cell_of_row _ _ 10 _ _ _ r0).trans rfl; have y10 := (cell_of_row _ _ 10 _ _ _ r1).trans rfl; have x11 := (cell_of_row _ _ 11 _ _ _ r0).trans rfl; have y11 := (cell_of_row _ _ 11 _ _ _ r1).trans rfl; have x12 := (cell_of_row _ _ 12 _ _ _ r0).trans rfl; have y12 := (cell_of_row _ _ 12 _ _ _ r1).trans rfl; have x13 := (cell_of_row _ _ 13 _ _ _ r0).trans rfl; have y13 := (cell_of_row _ _ 13 _ _ _ r1).trans rfl; have hB1 := Lib.hid ((two_box _ _).trans (hb1.mono (by simp; omega))); clear r0 r1)
                go_ret
                exact ⟨congrArg Ending.returned (congrArg Value.bool HD.out.symm), hB1.out⟩
            · have HD : Hid (v = false) := Lib.hid (off_of HV.out (by rintro ⟨e_kind, e_topic, e_pn, e_n, e_off, e_bp, e_be, e_bq, e_recs, e_group, e_member, e_gen, e_robin, e_tops⟩; exact hbatch ⟨e_bp, e_be, e_bq, e_recs⟩))
              have HVB : Hid (false = true ↔ bp = bp' ∧ be = be' ∧ bq = bq' ∧ recs = recs') := Lib.hid ⟨fun h => Bool.noConfusion h, fun h => absurd h hbatch⟩
              clear hbatch HV
              go_enter Tryz.func6, Tryz.ntmps6
              go_wp2_with (go_at_call 16; refine (rbsame_is _ _ _ _ _ _ _ _ _ _ _ _ w.heap.size false _ (Lib.hid ((hR.out.mono hB).below (two_box _ _))) (Lib.hid ((hR'.out.mono hB).below (two_box _ _))) (by simp; omega) HL.out HVB).mono ?_; rintro e1 w1 ⟨rfl, hb1⟩; have r0 := (hb1.block w.heap.size (by simp; omega)).trans (heap_alloc2_old w _ _); have r1 := (hb1.block (w.heap.size + 1) (by simp)).trans (heap_alloc2_new w _ _); have x9 := (cell_of_row _ _ 9 _ _ _ r0).trans rfl; have y9 := (cell_of_row _ _ 9 _ _ _ r1).trans rfl; have x10 := (cell_of_row _ _ 10 _ _ _ r0).trans rfl; have y10 := (cell_of_row _ _ 10 _ _ _ r1).trans rfl; have x11 := (cell_of_row _ _ 11 _ _ _ r0).trans rfl; have y11 := (cell_of_row _ _ 11 _ _ _ r1).trans rfl; have x12 := (cell_of_row _ _ 12 _ _ _ r0).trans rfl; have y12 := (cell_of_row _ _ 12 _ _ _ r1).trans rfl; have x13 := (cell_of_row _ _ 13 _ _ _ r0).trans rfl; have y13 := (cell_of_row _ _ 13 _ _ _ r1).trans rfl; have hB1 := Lib.hid ((two_box _ _).trans (hb1.mono (by simp; omega))); clear r0 r1)
              go_ret
              exact ⟨congrArg Ending.returned (congrArg Value.bool HD.out.symm), hB1.out⟩
          · have HD : Hid (v = false) := Lib.hid (off_of HV.out (by rintro ⟨e_kind, e_topic, e_pn, e_n, e_off, e_bp, e_be, e_bq, e_recs, e_group, e_member, e_gen, e_robin, e_tops⟩; exact hoff e_off))
            have q0 : (off == off') = false := int_off hoff
            clear hoff HV
            go_enter Tryz.func6, Tryz.ntmps6
            go_wp2_with fail
            go_ret
            exact ⟨congrArg Ending.returned (congrArg Value.bool HD.out.symm), two_box _ _⟩
        · have HD : Hid (v = false) := Lib.hid (off_of HV.out (by rintro ⟨e_kind, e_topic, e_pn, e_n, e_off, e_bp, e_be, e_bq, e_recs, e_group, e_member, e_gen, e_robin, e_tops⟩; exact hn e_n))
          have q0 : (n == n') = false := int_off hn
          clear hn HV
          go_enter Tryz.func6, Tryz.ntmps6
          go_wp2_with fail
          go_ret
          exact ⟨congrArg Ending.returned (congrArg Value.bool HD.out.symm), two_box _ _⟩
      · have HD : Hid (v = false) := Lib.hid (off_of HV.out (by rintro ⟨e_kind, e_topic, e_pn, e_n, e_off, e_bp, e_be, e_bq, e_recs, e_group, e_member, e_gen, e_robin, e_tops⟩; exact hpn e_pn))
        have q0 : (pn == pn') = false := int_off hpn
        clear hpn HV
        go_enter Tryz.func6, Tryz.ntmps6
        go_wp2_with fail
        go_ret
        exact ⟨congrArg Ending.returned (congrArg Value.bool HD.out.symm), two_box _ _⟩
    · have HD : Hid (v = false) := Lib.hid (off_of HV.out (by rintro ⟨e_kind, e_topic, e_pn, e_n, e_off, e_bp, e_be, e_bq, e_recs, e_group, e_member, e_gen, e_robin, e_tops⟩; exact htopic e_topic))
      have q0 : (topic.toList == topic'.toList) = false := bytes_off htopic
      clear htopic HV
      go_enter Tryz.func6, Tryz.ntmps6
      go_wp2_with fail
      go_ret
      exact ⟨congrArg Ending.returned (congrArg Value.bool HD.out.symm), two_box _ _⟩
  · have HD : Hid (v = false) := Lib.hid (off_of HV.out (by rintro ⟨e_kind, e_topic, e_pn, e_n, e_off, e_bp, e_be, e_bq, e_recs, e_group, e_member, e_gen, e_robin, e_tops⟩; exact hkind e_kind))
    have q0 : (kind == kind') = false := int_off hkind
    clear hkind HV
    go_enter Tryz.func6, Tryz.ntmps6
    go_wp2_with fail
    go_ret
    exact ⟨congrArg Ending.returned (congrArg Value.bool HD.out.symm), two_box _ _⟩

end Go.Proofs.YtijofikpdhapoaaGreat.L4
