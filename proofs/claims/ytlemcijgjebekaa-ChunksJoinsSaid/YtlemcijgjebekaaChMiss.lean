/-
  Contracts: which chunks a joiner lacks; the whole; a copy.
-/
import Derived.Test.YtlemcijgjebekaaChMem
import Derived.Test.YtlemcijgjebekaaChDig
import Derived.Test.YtlemcijgjebekaaSegRidx
import Derived.Maps.OwnOps
namespace Go.Proofs.Ytlemcijgjebekaa.L7
open Go.RowKit
open Go.Maps
open L3 L4 L5

theorem intInfo7 : (Try.prog.info? 3).map (fun i => (i.zero, i.size, i.bytes)) = some (some (.int .i64 0), 1, 8) := by kernel_rfl
theorem miss_bounds : ∀ (i : Nat) (m : Js), (missFrom i m).length ≤ m.length := fun i m => by have := missFrom_len i m; omega
theorem miss_take {m : Js} {i : Nat} {v : Option ByteArray} (h : m[i]? = some v) : missFrom 0 (m.take (i + 1)) = missFrom 0 (m.take i) ++ (if v = none then [(i : Int)] else []) := by
  have key : ∀ (l : Js) (s j : Nat) (v : Option ByteArray), l[j]? = some v → missFrom s (l.take (j + 1)) = missFrom s (l.take j) ++ (if v = none then [((s + j : Nat) : Int)] else []) := by
    intro l
    induction l with
    | nil => intro s j v h; simp at h
    | cons a t ih =>
      intro s j v h
      cases j with
      | zero =>
        simp at h
        subst h
        cases a <;> simp [missFrom]
      | succ j =>
        have := ih (s + 1) j v (by simpa using h)
        rw [List.take_succ_cons, List.take_succ_cons]
        have e : s + 1 + j = s + (j + 1) := by omega
        rw [e] at this
        cases a with
        | none =>
          show _ :: missFrom (s + 1) (t.take (j + 1)) = (_ :: missFrom (s + 1) (t.take j)) ++ _
          rw [this]; rfl
        | some b => exact this
  have := key m 0 i v h
  simpa using this

set_option maxRecDepth 100000 in
set_option maxHeartbeats 2000000 in
theorem missing_any {w : World} {g bm dg : Nat} {m : Js} (n : Nat) (HJ : Hid (Jn w g bm dg m)) (hn : m.length = n) (hl : n ≤ 4096) :
    Calls Try.prog 55 #[.pointer (some ⟨g, 0, none⟩)] w fun e w' => ∃ A c, e = .returned (.slice A (missing m).length c) ∧ w'.ownsRow w.heap.size 3 1 (.slice A (missing m).length c) (missing m).length (rowI (missing m)) ∧ Below w.heap.size w w' := by
  obtain ⟨i0, hi0, hz0, hz1, hz2⟩ := info_parts intInfo7
  have HN := Lib.hid hn
  have c1 := HJ.out.c1
  rw [hn] at c1
  clear hn
  go_enter Try.func55, Try.ntmps55
  go_wp2_with fail
  go_loopw [3, 11] (fun v i wr => ∃ k : Nat, k ≤ n ∧ i = .int .i64 k ∧ Hid (wr.ownsRow w.heap.size 3 1 v (missFrom 0 (m.take k)).length (rowI (missFrom 0 (m.take k)))) ∧ Hid (Below w.heap.size w wr)) (fun _ i _ => n - (intOf i).toNat)
  case atStart => exact ⟨0, by omega, rfl, Lib.hid (World.ownsRow_nil _ _ _ _), Lib.hid (Below.refl _ _)⟩
  case round =>
    obtain ⟨k, hk, rfl, HR, HB⟩ := hrel
    by_cases hlt : k < n
    · obtain ⟨v, hv⟩ : ∃ v, m[k]? = some v := ⟨_, List.getElem?_eq_getElem (by rw [HN.out]; omega)⟩
      have hJ' := HJ.out.below HB.out
      have c2 := hJ'.c2
      have k0 : (0 : Int) ≤ (k : Int) := by omega
      have k1 : (k : Int) < (n : Int) := by omega
      have hlook := hJ'.has.look (x := (k : Int)) (by omega) (by omega)
      have hval : valM m (k : Int) = v := by rw [valM_nat, hv]; rfl
      rw [hval] at hlook
      have HT := Lib.hid (miss_take hv)
      have hle : (missFrom 0 (m.take k)).length ≤ 4096 := by have := miss_bounds 0 (m.take k); rw [List.length_take] at this; omega
      have HLE := Lib.hid hle
      clear hv hval hle
      cases v with
      | some b =>
        simp only [Option.getD_some, Option.isSome_some] at hlook
        go_wp2_with fail
        go_roundw
        case rel => exact ⟨k + 1, by omega, by go_num, by rw [HT.out]; simpa using HR, HB⟩
        case measure => simp [intOf]; omega
      | none =>
        simp only [Option.getD_none, Option.isSome_none] at hlook
        obtain ⟨q, hq⟩ : ∃ q, missFrom 0 (m.take k) = q := ⟨_, rfl⟩
        rw [hq] at HR HLE HT
        go_wp2_with (at_builtin; refine wpList_append_own _ rfl _ _ 90 rfl w.heap.size 3 i0 _ 1 8 Try.underlying90 hi0 hz0 hz1 hz2 rfl (by decide) _ _ _ rfl (HR.out.alloc _) ⟨wr.heap.size, 0, none⟩ 1 1 [.int .i64 k] rfl rfl (cell_one_new _ _ _) (by simp [Value.oneCell']) (by have := HLE.out; unfold maxLen; omega) (by have := HLE.out; omega) (by have := HB.out.size; simp; omega) ?_; intro v' w2 hown' hgrow _)
        go_roundw
        case rel =>
          refine ⟨k + 1, by omega, by go_num, Lib.hid ?_, Lib.hid ?_⟩
          · rw [HT.out, if_pos rfl, List.length_append]
            have e : rowI q ++ [.int .i64 (k : Int)] = rowI (q ++ [(k : Int)]) := by simp [rowI]
            rw [← e]; exact hown'
          · exact (HB.out.alloc HB.out.size _).grown hgrow (by have := HB.out.size; simp; omega) (fun j e => (HR.out.lt j e).1)
        case measure => simp [intOf]; omega
    · obtain rfl : k = n := by omega
      go_wp2_with fail
      have hfin : missFrom 0 (m.take k) = missing m := by rw [List.take_of_length_le (by rw [HN.out]; omega)]; rfl
      have hr := HR.out
      rw [hfin] at hr
      obtain ⟨A, c, rfl⟩ := own_form hr
      go_ret
      exact ⟨A, c, rfl, hr, HB.out⟩

set_option maxRecDepth 100000 in
set_option maxHeartbeats 2000000 in
theorem whole_no {w : World} {g bm dg : Nat} {m : Js} (HJ : Hid (Jn w g bm dg m)) (h : m = [] ∨ cntM m < m.length) :
    Calls Try.prog 54 #[.pointer (some ⟨g, 0, none⟩)] w fun e w' => e = .returned (.tuple #[.string ⟨#[]⟩, .bool false]) ∧ Below w.heap.size w w' := by
  have j1 := HJ.out.c1
  have j2 := HJ.out.c2
  have l1 := HJ.out.has.len
  have l2 := HJ.out.drew.has.len
  by_cases h0 : m.length = 0
  · have h1 : ((m.length : Int) == 0) = true := by simp [h0]
    go_enter Try.func54, Try.ntmps54
    go_wp2_with fail
    go_region
    go_wp2_with fail
    go_ret2
    exact ⟨rfl, (Below.refl _ _).drew⟩
  · have h1 : ((m.length : Int) == 0) = false := by simpa using h0
    have h2 : cntM m < m.length := by
      rcases h with rfl | h
      · exact absurd rfl h0
      · exact h
    have h3 : (cntM m : Int) < (m.length : Int) := by omega
    go_enter Try.func54, Try.ntmps54
    go_wp2_with fail
    go_region
    go_wp2_with fail
    go_ret2
    exact ⟨rfl, (Below.refl _ _).drew⟩
theorem join_le (l : List ByteArray) (k : Nat) : (join (l.take k)).size ≤ (join l).size := by
  have key : ∀ (r : List ByteArray) (a : ByteArray), a.size ≤ (r.foldl (· ++ ·) a).size := by
    intro r
    induction r with
    | nil => intro a; exact Nat.le_refl _
    | cons x t ih => intro a; exact Nat.le_trans (by rw [ByteArray.size_append]; omega) (ih (a ++ x))
  have h : join l = (l.drop k).foldl (· ++ ·) (join (l.take k)) := by
    have := congrArg join (List.take_append_drop k l)
    rw [← this]; unfold join; rw [List.foldl_append]
  rw [h]
  exact key _ _

set_option maxRecDepth 100000 in
set_option maxHeartbeats 4000000 in
theorem whole_all {w : World} {g bm dg : Nat} {m : Js} (n d : Nat) (s : ByteArray) (HJ : Hid (Jn w g bm dg m)) (h0 : m ≠ []) (hn : m.length = n) (hl : n ≤ 4096) (hc : ¬ cntM m < m.length) (hs : Hid (join (bodies m) = s)) (hz : s.size ≤ 1000000) (hd : Hid (digest s = d)) :
    Calls Try.prog 54 #[.pointer (some ⟨g, 0, none⟩)] w fun e w' => (d = dg ∧ e = .returned (.tuple #[.string s, .bool true]) ∧ Below w.heap.size w w') ∨ (d ≠ dg ∧ e = .returned (.tuple #[.string ⟨#[]⟩, .bool false]) ∧ Jn w' g bm dg [] ∧ Lets [g, bm] w w') := by
  have n0 : n ≠ 0 := fun e => h0 (List.length_eq_zero_iff.1 (by omega))
  have j1 := HJ.out.c1
  rw [hn] at j1
  have j2 := HJ.out.c2
  have l1 := HJ.out.has.len
  have l2 := HJ.out.drew.has.len
  have h1 : ((n : Int) == 0) = false := by simpa using n0
  have h3 : (n : Int) ≤ (cntM m : Int) := by omega
  have h4 : decide ((cntM m : Int) < (n : Int)) = false := by simp; omega
  have h5 : decide (cntM m < n) = false := by simp; omega
  have HN := Lib.hid hn
  have HC := Lib.hid hc
  clear hn hc h0
  have hg := HJ.out.lt
  go_enter Try.func54, Try.ntmps54
  go_wp2_with fail
  go_region
  go_wp2_with fail
  clear l1 l2 h1 h3 j2 j1 h4
  go_loopw [28] (fun i wr => ∃ (k : Nat) (t : ByteArray), k ≤ n ∧ i = .int .i64 k ∧ t.size ≤ 1000000 ∧ Hid (join ((bodies m).take k) = t) ∧ Hid (Has w.heap.size w.heap.size t wr) ∧ Hid (Below w.heap.size w wr)) (fun i _ => n - (intOf i).toNat)
  case atStart => exact ⟨0, ⟨#[]⟩, by omega, rfl, by decide, Lib.hid rfl, Lib.hid (Has.new w), Lib.hid ((Below.refl _ _).drew.alloc (Nat.le_refl _) _)⟩
  case round =>
    obtain ⟨k, t, hk, rfl, ht, HT, HH, HB⟩ := hrel
    have hJ' := HJ.out.below HB.out
    have c2 := hJ'.c2
    have c0 := hJ'.c0
    by_cases hlt : k < n
    · obtain ⟨b, hb⟩ := all_there HC.out (i := k) (by rw [HN.out]; exact hlt)
      have k0 : (0 : Int) ≤ (k : Int) := by omega
      have k1 : (k : Int) < (n : Int) := by omega
      have hlook := hJ'.has.look1 (x := (k : Int)) (by omega) (by omega)
      have hval : valM m (k : Int) = some b := by rw [valM_nat, hb]; rfl
      rw [hval, Option.getD_some] at hlook
      obtain ⟨tb, hu⟩ : ∃ tb, t ++ b = tb := ⟨_, rfl⟩
      have hju : join ((bodies m).take (k + 1)) = tb := by rw [bodies_take hb, HT.out, hu]
      have hus : tb.size ≤ 1000000 := by
        have := join_le (bodies m) (k + 1)
        rw [hju, hs.out] at this
        omega
      have hbs : b.size ≤ 1000000 := by have := congrArg ByteArray.size hu; rw [ByteArray.size_append] at this; omega
      have HU := Lib.hid hu
      have HJU := Lib.hid hju
      have HSZ : Hid (w.heap.size ≤ wr.heap.size) := Lib.hid HB.out.size
      clear hb hval hu hju
      go_wp2_with (go_at_call 85; refine (write_is w.heap.size w.heap.size t b tb _ HH HU (by omega) (by omega) HSZ.out).mono ?_; rintro e w2 ⟨rfl, hh2, hb2, _⟩)
      go_roundw
      case rel => exact ⟨k + 1, tb, by omega, by go_num, hus, HJU, Lib.hid hh2, Lib.hid (HB.out.trans hb2)⟩
      case measure => simp [intOf]; omega
    · obtain rfl : k = n := by omega
      have hts : t = s := by
        rw [← HT.out, List.take_of_length_le (by unfold bodies; rw [List.length_map, HN.out]; omega), hs.out]
      subst hts
      have HSZ : Hid (w.heap.size ≤ wr.heap.size) := Lib.hid HB.out.size
      have HG : Hid (g < wr.heap.size) := Lib.hid hJ'.lt
      have HJ2 := Lib.hid hJ'
      clear hJ' c2
      by_cases hdd : d = dg
      · subst hdd
        go_wp2_with (go_at_call 89; refine (text_any w.heap.size w.heap.size t _ HH HSZ.out).mono ?_; rintro e w2 ⟨rfl, hb2⟩; have hB2 : Below w.heap.size w w2 := HB.out.trans hb2; have c02 := (HJ.out.below hB2).c0; have hg2 := (HJ.out.below hB2).lt)
        go_region_with (go_at_call 40; refine (digest_is t d _ hz hd).mono ?_; rintro e w3 ⟨rfl, hb3⟩; have hB3 : Below w.heap.size w w3 := hB2.trans ((Below.refl _ _).drew.trans (hb3.mono hB2.size)); have c03 := (HJ.out.below hB3).c0)
        all_goals
          go_wp2_with fail
          go_ret2
          first | exact .inl ⟨rfl, rfl, hB3⟩ | exact ⟨rfl, hB3⟩
      · have hne : ((d : Int) != (dg : Int)) = true := by simp; omega
        go_wp2_with (go_at_call 89; refine (text_any w.heap.size w.heap.size t _ HH HSZ.out).mono ?_; rintro e w2 ⟨rfl, hb2⟩; have hB2 : Below w.heap.size w w2 := HB.out.trans hb2; have c02 := (HJ.out.below hB2).c0; have hg2 := (HJ.out.below hB2).lt)
        go_region_with (go_at_call 40; refine (digest_is t d _ hz hd).mono ?_; rintro e w3 ⟨rfl, hb3⟩; have hB3 : Below w.heap.size w w3 := hB2.trans ((Below.refl _ _).drew.trans (hb3.mono hB2.size)); have c03 := (HJ.out.below hB3).c0)
        all_goals
          have hJ3 := HJ.out.below hB3
          have c23 := hJ3.c2
          obtain ⟨W4, hrun, hI, hgr⟩ := clear_run hJ3.has
          have hrow : W4.heap[g]? = some (.cells #[.int .u64 dg, .int .i64 m.length, .map (some bm)] 162 (0, 0)) := (hgr.block g hJ3.lt (fun e => hJ3.ne (by injection e))).trans hJ3.row
          have c14 := (cell_of_row _ _ 1 _ _ _ hrow).trans rfl
          have f14 := frozen_of_row _ g 1 _ _ hrow
          go_wp2_with fail
          go_ret2
          refine .inr ⟨hdd, rfl, ⟨heap_setCell_same W4 g 1 _ _ (.int .i64 0) hrow, hI.at (Below.heap_setCell _ _ _ _ (by intro e; exact hJ3.ne e.symm))⟩, ?_⟩
          exact ((Lets.ofBelow hB3).grown hgr (by simp)).setCell (p := ⟨g, 1, none⟩) (by simp) _
end Go.Proofs.Ytlemcijgjebekaa.L7
