/-
  Contracts: whether two batches, two commands, two replies are the same: the program's own.
-/
import Derived.Test.YtijofikpdhapoaaGreatReqEq
namespace Go.Proofs.YtijofikpdhapoaaGreat.L4
open Go.RowKit
open L3

set_option maxRecDepth 100000 in
set_option maxHeartbeats 4000000 in
theorem sameB_is (p e q p' e' q' : Int) (A A' : Option Addr) (l l' : List R) (cap cap' B : Nat) (v : Bool) (w : World) (hR : Hid (Reads w B A l)) (hR' : Hid (Reads w B A' l')) (hB : B ≤ w.heap.size) (hl : l.length ≤ maxLen) (HV : Hid (v = true ↔ p = p' ∧ e = e' ∧ q = q' ∧ l = l')) :
    Calls Tryz.prog 46 #[.agg #[.int .i64 p, .int .i64 e, .int .i64 q, .slice A l.length cap], .agg #[.int .i64 p', .int .i64 e', .int .i64 q', .slice A' l'.length cap']] w fun e' w' => e' = .returned (.bool v) ∧ Below w.heap.size w w' := by
  have HL := Lib.hid hl
  clear hl
  by_cases hp : p = p'
  · subst hp
    by_cases he : e = e'
    · subst he
      by_cases hq : q = q'
      · subst hq
        have HW : Hid (v = true ↔ l = l') := Lib.hid (HV.out.trans ⟨fun h => h.2.2.2, fun h => ⟨rfl, rfl, rfl, h⟩⟩)
        clear HV
        go_enter Tryz.func46, Tryz.ntmps46
        go_wp2_with (go_at_call 72; refine (erecords_is _ _ _ _ _ _ w.heap.size _ _ (Lib.hid ((hR.out.mono hB).below (two_box _ _))) (Lib.hid ((hR'.out.mono hB).below (two_box _ _))) (by simp; omega) HL.out HW).mono ?_; rintro e1 w1 ⟨rfl, hb1⟩)
        go_ret
        exact ⟨rfl, (two_box _ _).trans (hb1.mono (by simp; omega))⟩
      · have HD : Hid (v = false) := Lib.hid (off_of HV.out (by rintro ⟨h1, h2, h3, h4⟩; exact hq h3))
        have q0 : (q == q') = false := int_off hq
        clear hq HV
        go_enter Tryz.func46, Tryz.ntmps46
        go_wp2_with fail
        go_ret
        exact ⟨congrArg Ending.returned (congrArg Value.bool HD.out.symm), two_box _ _⟩
    · have HD : Hid (v = false) := Lib.hid (off_of HV.out (by rintro ⟨h1, h2, h3, h4⟩; exact he h2))
      have q0 : (e == e') = false := int_off he
      clear he HV
      go_enter Tryz.func46, Tryz.ntmps46
      go_wp2_with fail
      go_ret
      exact ⟨congrArg Ending.returned (congrArg Value.bool HD.out.symm), two_box _ _⟩
  · have HD : Hid (v = false) := Lib.hid (off_of HV.out (by rintro ⟨h1, h2, h3, h4⟩; exact hp h1))
    have q0 : (p == p') = false := int_off hp
    clear hp HV
    go_enter Tryz.func46, Tryz.ntmps46
    go_wp2_with fail
    go_ret
    exact ⟨congrArg Ending.returned (congrArg Value.bool HD.out.symm), two_box _ _⟩

set_option maxRecDepth 100000 in
set_option maxHeartbeats 16000000 in
theorem alike_is (e : Int) (off : Int) (n : Int) (gen : Int) (found : List Fd) (parts : List Pt) (FA PA : Option Addr) (fc pc : Nat)
    (e' : Int) (off' : Int) (n' : Int) (gen' : Int) (found' : List Fd) (parts' : List Pt) (FA' PA' : Option Addr) (fc' pc' : Nat)
    (B : Nat) (v : Bool) (w : World) (hR : Hid (ReadsF w B FA found)) (hR' : Hid (ReadsF w B FA' found')) (hT : Hid (ReadsP w B PA parts)) (hT' : Hid (ReadsP w B PA' parts')) (hB : B ≤ w.heap.size) (hl : found.length ≤ maxLen) (ht : parts.length ≤ maxLen)
    (HV : Hid (v = true ↔ (e = e' ∧ off = off' ∧ n = n' ∧ gen = gen' ∧ found = found' ∧ parts = parts'))) :
    Calls Tryz.prog 24 #[.agg #[.int .i64 e, .int .i64 off, .int .i64 n, .int .i64 gen, .slice FA found.length fc, .slice PA parts.length pc], .agg #[.int .i64 e', .int .i64 off', .int .i64 n', .int .i64 gen', .slice FA' found'.length fc', .slice PA' parts'.length pc']] w fun e' w' => e' = .returned (.bool v) ∧ Below w.heap.size w w' := by
  have HL := Lib.hid hl
  have HLT := Lib.hid ht
  clear hl ht
  by_cases he : e = e'
  · subst he
    by_cases hoff : off = off'
    · subst hoff
      by_cases hn : n = n'
      · subst hn
        by_cases hgen : gen = gen'
        · subst hgen
          by_cases hf : found = found'
          · have HVB : Hid (true = true ↔ found = found') := Lib.hid ⟨fun _ => hf, fun _ => rfl⟩
            have HVT : Hid (v = true ↔ parts = parts') := Lib.hid (HV.out.trans ⟨fun h => by obtain ⟨e_e, e_off, e_n, e_gen, e_found, e_parts⟩ := h; exact e_parts, fun h => ⟨rfl, rfl, rfl, rfl, hf, h⟩⟩)
            clear HV hf
            go_enter Tryz.func24, Tryz.ntmps24
            go_wp2_with (first
              | (go_at_call 47; refine (efound_is _ _ _ _ _ _ w.heap.size true _ (Lib.hid ((hR.out.mono hB).below (two_box _ _))) (Lib.hid ((hR'.out.mono hB).below (two_box _ _))) (by simp; omega) HL.out HVB).mono ?_; rintro e1 w1 ⟨rfl, hb1⟩; have r0 := (hb1.block w.heap.size (by simp; omega)).trans (heap_alloc2_old w _ _); have r1 := (hb1.block (w.heap.size + 1) (by simp)).trans (heap_alloc2_new w _ _); have x5 := (cell_of_row _ _ 5 _ _ _ r0).trans rfl; have y5 := (cell_of_row _ _ 5 _ _ _ r1).trans rfl; have hB1 := Lib.hid ((two_box _ _).trans (hb1.mono (by simp; omega))); clear r0 r1)
              | (go_at_call 48; refine (eparts_is _ _ _ _ _ _ w.heap.size v _ (Lib.hid ((hT.out.mono hB).below hB1.out)) (Lib.hid ((hT'.out.mono hB).below hB1.out)) hB1.out.size HLT.out HVT).mono ?_; rintro e2 w2 ⟨rfl, hb2⟩))
            go_ret
            exact ⟨rfl, acc hB1.out hb2⟩
          · have HD : Hid (v = false) := Lib.hid (off_of HV.out (by rintro ⟨e_e, e_off, e_n, e_gen, e_found, e_parts⟩; exact hf e_found))
            have HVB : Hid (false = true ↔ found = found') := Lib.hid ⟨fun h => Bool.noConfusion h, fun h => absurd h hf⟩
            clear hf HV
            go_enter Tryz.func24, Tryz.ntmps24
            go_wp2_with (go_at_call 47; refine (efound_is _ _ _ _ _ _ w.heap.size false _ (Lib.hid ((hR.out.mono hB).below (two_box _ _))) (Lib.hid ((hR'.out.mono hB).below (two_box _ _))) (by simp; omega) HL.out HVB).mono ?_; rintro e1 w1 ⟨rfl, hb1⟩; have r0 := (hb1.block w.heap.size (by simp; omega)).trans (heap_alloc2_old w _ _); have r1 := (hb1.block (w.heap.size + 1) (by simp)).trans (heap_alloc2_new w _ _); have x5 := (cell_of_row _ _ 5 _ _ _ r0).trans rfl; have y5 := (cell_of_row _ _ 5 _ _ _ r1).trans rfl; have hB1 := Lib.hid ((two_box _ _).trans (hb1.mono (by simp; omega))); clear r0 r1)
            go_ret
            exact ⟨congrArg Ending.returned (congrArg Value.bool HD.out.symm), hB1.out⟩
        · have HD : Hid (v = false) := Lib.hid (off_of HV.out (by rintro ⟨e_e, e_off, e_n, e_gen, e_found, e_parts⟩; exact hgen e_gen))
          have q0 : (gen == gen') = false := int_off hgen
          clear hgen HV
          go_enter Tryz.func24, Tryz.ntmps24
          go_wp2_with fail
          go_ret
          exact ⟨congrArg Ending.returned (congrArg Value.bool HD.out.symm), two_box _ _⟩
      · have HD : Hid (v = false) := Lib.hid (off_of HV.out (by rintro ⟨e_e, e_off, e_n, e_gen, e_found, e_parts⟩; exact hn e_n))
        have q0 : (n == n') = false := int_off hn
        clear hn HV
        go_enter Tryz.func24, Tryz.ntmps24
        go_wp2_with fail
        go_ret
        exact ⟨congrArg Ending.returned (congrArg Value.bool HD.out.symm), two_box _ _⟩
    · have HD : Hid (v = false) := Lib.hid (off_of HV.out (by rintro ⟨e_e, e_off, e_n, e_gen, e_found, e_parts⟩; exact hoff e_off))
      have q0 : (off == off') = false := int_off hoff
      clear hoff HV
      go_enter Tryz.func24, Tryz.ntmps24
      go_wp2_with fail
      go_ret
      exact ⟨congrArg Ending.returned (congrArg Value.bool HD.out.symm), two_box _ _⟩
  · have HD : Hid (v = false) := Lib.hid (off_of HV.out (by rintro ⟨e_e, e_off, e_n, e_gen, e_found, e_parts⟩; exact he e_e))
    have q0 : (e == e') = false := int_off he
    clear he HV
    go_enter Tryz.func24, Tryz.ntmps24
    go_wp2_with fail
    go_ret
    exact ⟨congrArg Ending.returned (congrArg Value.bool HD.out.symm), two_box _ _⟩

set_option maxRecDepth 100000 in
set_option maxHeartbeats 16000000 in
theorem same_is (kind : Int) (topic : ByteArray) (pn : Int) (n : Int) (off : Int) (bp : Int) (be : Int) (bq : Int) (recs : List R) (group : ByteArray) (member : ByteArray) (gen : Int) (robin : Bool) (tops : List ByteArray) (RA TA : Option Addr) (rc tc : Nat)
    (kind' : Int) (topic' : ByteArray) (pn' : Int) (n' : Int) (off' : Int) (bp' : Int) (be' : Int) (bq' : Int) (recs' : List R) (group' : ByteArray) (member' : ByteArray) (gen' : Int) (robin' : Bool) (tops' : List ByteArray) (RA' TA' : Option Addr) (rc' tc' : Nat)
    (B : Nat) (v : Bool) (w : World) (hR : Hid (Reads w B RA recs)) (hR' : Hid (Reads w B RA' recs')) (hT : Hid (ReadsT w B TA tops)) (hT' : Hid (ReadsT w B TA' tops')) (hB : B ≤ w.heap.size) (hl : recs.length ≤ maxLen) (ht : tops.length ≤ maxLen)
    (HV : Hid (v = true ↔ (kind = kind' ∧ topic = topic' ∧ pn = pn' ∧ n = n' ∧ off = off' ∧ bp = bp' ∧ be = be' ∧ bq = bq' ∧ recs = recs' ∧ group = group' ∧ member = member' ∧ gen = gen' ∧ robin = robin' ∧ tops = tops'))) :
    Calls Tryz.prog 23 #[.agg #[.int .i64 kind, .string topic, .int .i64 pn, .int .i64 n, .int .i64 off, .int .i64 bp, .int .i64 be, .int .i64 bq, .slice RA recs.length rc, .string group, .string member, .int .i64 gen, .bool robin, .slice TA tops.length tc], .agg #[.int .i64 kind', .string topic', .int .i64 pn', .int .i64 n', .int .i64 off', .int .i64 bp', .int .i64 be', .int .i64 bq', .slice RA' recs'.length rc', .string group', .string member', .int .i64 gen', .bool robin', .slice TA' tops'.length tc']] w fun e' w' => e' = .returned (.bool v) ∧ Below w.heap.size w w' := by
  have HL := Lib.hid hl
  have HLT := Lib.hid ht
  clear hl ht
  by_cases hkind : kind = kind'
  · subst hkind
    by_cases htopic : topic = topic'
    · subst htopic
      by_cases hpn : pn = pn'
      · subst hpn
        by_cases hn : n = n'
        · subst hn
          by_cases hoff : off = off'
          · subst hoff
            by_cases hgroup : group = group'
            · subst hgroup
              by_cases hmember : member = member'
              · subst hmember
                by_cases hgen : gen = gen'
                · subst hgen
                  by_cases hrobin : robin = robin'
                  · subst hrobin
                    by_cases htops : tops = tops'
                    · have HVT : Hid (true = true ↔ tops = tops') := Lib.hid ⟨fun _ => htops, fun _ => rfl⟩
                      have HVB : Hid (v = true ↔ bp = bp' ∧ be = be' ∧ bq = bq' ∧ recs = recs') := Lib.hid (HV.out.trans ⟨fun h => by obtain ⟨e_kind, e_topic, e_pn, e_n, e_off, e_bp, e_be, e_bq, e_recs, e_group, e_member, e_gen, e_robin, e_tops⟩ := h; exact ⟨e_bp, e_be, e_bq, e_recs⟩, fun h => ⟨rfl, rfl, rfl, rfl, rfl, h.1, h.2.1, h.2.2.1, h.2.2.2, rfl, rfl, rfl, rfl, htops⟩⟩)
                      clear HV htops
                      go_enter Tryz.func23, Tryz.ntmps23
                      go_wp2_with (first
                        | (go_at_call 45; refine (etexts_is _ _ _ _ _ _ w.heap.size true _ (Lib.hid ((hT.out.mono hB).below (two_box _ _))) (Lib.hid ((hT'.out.mono hB).below (two_box _ _))) (by simp; omega) HLT.out HVT).mono ?_; rintro e1 w1 ⟨rfl, hb1⟩; have r0 := (hb1.block w.heap.size (by simp; omega)).trans (heap_alloc2_old w _ _); have r1 := (hb1.block (w.heap.size + 1) (by simp)).trans (heap_alloc2_new w _ _); have x5 := (cell_of_row _ _ 5 _ _ _ r0).trans rfl; have y5 := (cell_of_row _ _ 5 _ _ _ r1).trans rfl; have x6 := (cell_of_row _ _ 6 _ _ _ r0).trans rfl; have y6 := (cell_of_row _ _ 6 _ _ _ r1).trans rfl; have x7 := (cell_of_row _ _ 7 _ _ _ r0).trans rfl; have y7 := (cell_of_row _ _ 7 _ _ _ r1).trans rfl; have x8 := (cell_of_row _ _ 8 _ _ _ r0).trans rfl; have y8 := (cell_of_row _ _ 8 _ _ _ r1).trans rfl; have hB1 := Lib.hid ((two_box _ _).trans (hb1.mono (by simp; omega))); clear r0 r1)
                        | (go_at_call 46; refine (sameB_is _ _ _ _ _ _ _ _ _ _ _ _ w.heap.size v _ (Lib.hid ((hR.out.mono hB).below hB1.out)) (Lib.hid ((hR'.out.mono hB).below hB1.out)) hB1.out.size HL.out HVB).mono ?_; rintro e2 w2 ⟨rfl, hb2⟩))
                      go_ret
                      exact ⟨rfl, acc hB1.out hb2⟩
                    · have HD : Hid (v = false) := Lib.hid (off_of HV.out (by rintro ⟨e_kind, e_topic, e_pn, e_n, e_off, e_bp, e_be, e_bq, e_recs, e_group, e_member, e_gen, e_robin, e_tops⟩; exact htops e_tops))
                      have HVT : Hid (false = true ↔ tops = tops') := Lib.hid ⟨fun h => Bool.noConfusion h, fun h => absurd h htops⟩
                      clear htops HV
                      go_enter Tryz.func23, Tryz.ntmps23
                      go_wp2_with (go_at_call 45; refine (etexts_is _ _ _ _ _ _ w.heap.size false _ (Lib.hid ((hT.out.mono hB).below (two_box _ _))) (Lib.hid ((hT'.out.mono hB).below (two_box _ _))) (by simp; omega) HLT.out HVT).mono ?_; rintro e1 w1 ⟨rfl, hb1⟩; have r0 := (hb1.block w.heap.size (by simp; omega)).trans (heap_alloc2_old w _ _); have r1 := (hb1.block (w.heap.size + 1) (by simp)).trans (heap_alloc2_new w _ _); have x5 := (cell_of_row _ _ 5 _ _ _ r0).trans rfl; have y5 := (cell_of_row _ _ 5 _ _ _ r1).trans rfl; have x6 := (cell_of_row _ _ 6 _ _ _ r0).trans rfl; have y6 := (cell_of_row _ _ 6 _ _ _ r1).trans rfl; have x7 := (cell_of_row _ _ 7 _ _ _ r0).trans rfl; have y7 := (cell_of_row _ _ 7 _ _ _ r1).trans rfl; have x8 := (cell_of_row _ _ 8 _ _ _ r0).trans rfl; have y8 := (cell_of_row _ _ 8 _ _ _ r1).trans rfl; have hB1 := Lib.hid ((two_box _ _).trans (hb1.mono (by simp; omega))); clear r0 r1)
                      go_ret
                      exact ⟨congrArg Ending.returned (congrArg Value.bool HD.out.symm), hB1.out⟩
                  · have HD : Hid (v = false) := Lib.hid (off_of HV.out (by rintro ⟨e_kind, e_topic, e_pn, e_n, e_off, e_bp, e_be, e_bq, e_recs, e_group, e_member, e_gen, e_robin, e_tops⟩; exact hrobin e_robin))
                    have q0 : (robin == robin') = false := bool_off hrobin
                    clear hrobin HV
                    go_enter Tryz.func23, Tryz.ntmps23
                    go_wp2_with fail
                    go_ret
                    exact ⟨congrArg Ending.returned (congrArg Value.bool HD.out.symm), two_box _ _⟩
                · have HD : Hid (v = false) := Lib.hid (off_of HV.out (by rintro ⟨e_kind, e_topic, e_pn, e_n, e_off, e_bp, e_be, e_bq, e_recs, e_group, e_member, e_gen, e_robin, e_tops⟩; exact hgen e_gen))
                  have q0 : (gen == gen') = false := int_off hgen
                  clear hgen HV
                  go_enter Tryz.func23, Tryz.ntmps23
                  go_wp2_with fail
                  go_ret
                  exact ⟨congrArg Ending.returned (congrArg Value.bool HD.out.symm), two_box _ _⟩
              · have HD : Hid (v = false) := Lib.hid (off_of HV.out (by rintro ⟨e_kind, e_topic, e_pn, e_n, e_off, e_bp, e_be, e_bq, e_recs, e_group, e_member, e_gen, e_robin, e_tops⟩; exact hmember e_member))
                have q0 : (member.toList == member'.toList) = false := bytes_off hmember
                clear hmember HV
                go_enter Tryz.func23, Tryz.ntmps23
                go_wp2_with fail
                go_ret
                exact ⟨congrArg Ending.returned (congrArg Value.bool HD.out.symm), two_box _ _⟩
            · have HD : Hid (v = false) := Lib.hid (off_of HV.out (by rintro ⟨e_kind, e_topic, e_pn, e_n, e_off, e_bp, e_be, e_bq, e_recs, e_group, e_member, e_gen, e_robin, e_tops⟩; exact hgroup e_group))
              have q0 : (group.toList == group'.toList) = false := bytes_off hgroup
              clear hgroup HV
              go_enter Tryz.func23, Tryz.ntmps23
              go_wp2_with fail
              go_ret
              exact ⟨congrArg Ending.returned (congrArg Value.bool HD.out.symm), two_box _ _⟩
          · have HD : Hid (v = false) := Lib.hid (off_of HV.out (by rintro ⟨e_kind, e_topic, e_pn, e_n, e_off, e_bp, e_be, e_bq, e_recs, e_group, e_member, e_gen, e_robin, e_tops⟩; exact hoff e_off))
            have q0 : (off == off') = false := int_off hoff
            clear hoff HV
            go_enter Tryz.func23, Tryz.ntmps23
            go_wp2_with fail
            go_ret
            exact ⟨congrArg Ending.returned (congrArg Value.bool HD.out.symm), two_box _ _⟩
        · have HD : Hid (v = false) := Lib.hid (off_of HV.out (by rintro ⟨e_kind, e_topic, e_pn, e_n, e_off, e_bp, e_be, e_bq, e_recs, e_group, e_member, e_gen, e_robin, e_tops⟩; exact hn e_n))
          have q0 : (n == n') = false := int_off hn
          clear hn HV
          go_enter Tryz.func23, Tryz.ntmps23
          go_wp2_with fail
          go_ret
          exact ⟨congrArg Ending.returned (congrArg Value.bool HD.out.symm), two_box _ _⟩
      · have HD : Hid (v = false) := Lib.hid (off_of HV.out (by rintro ⟨e_kind, e_topic, e_pn, e_n, e_off, e_bp, e_be, e_bq, e_recs, e_group, e_member, e_gen, e_robin, e_tops⟩; exact hpn e_pn))
        have q0 : (pn == pn') = false := int_off hpn
        clear hpn HV
        go_enter Tryz.func23, Tryz.ntmps23
        go_wp2_with fail
        go_ret
        exact ⟨congrArg Ending.returned (congrArg Value.bool HD.out.symm), two_box _ _⟩
    · have HD : Hid (v = false) := Lib.hid (off_of HV.out (by rintro ⟨e_kind, e_topic, e_pn, e_n, e_off, e_bp, e_be, e_bq, e_recs, e_group, e_member, e_gen, e_robin, e_tops⟩; exact htopic e_topic))
      have q0 : (topic.toList == topic'.toList) = false := bytes_off htopic
      clear htopic HV
      go_enter Tryz.func23, Tryz.ntmps23
      go_wp2_with fail
      go_ret
      exact ⟨congrArg Ending.returned (congrArg Value.bool HD.out.symm), two_box _ _⟩
  · have HD : Hid (v = false) := Lib.hid (off_of HV.out (by rintro ⟨e_kind, e_topic, e_pn, e_n, e_off, e_bp, e_be, e_bq, e_recs, e_group, e_member, e_gen, e_robin, e_tops⟩; exact hkind e_kind))
    have q0 : (kind == kind') = false := int_off hkind
    clear hkind HV
    go_enter Tryz.func23, Tryz.ntmps23
    go_wp2_with fail
    go_ret
    exact ⟨congrArg Ending.returned (congrArg Value.bool HD.out.symm), two_box _ _⟩

end Go.Proofs.YtijofikpdhapoaaGreat.L4
