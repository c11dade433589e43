/-
  Contracts: the program's Range and Robin; which list has a partition; the same lists.
-/
import Derived.Test.YthongbobopampaaAsShare
namespace Go.Proofs.Ythongbobopampaa.L10
open Go.RowKit
open L3 L4 L9

def rangeL (l : List Pt) (ms : List Mb) : List (List Pt) := listsL ms.length (seqT chR ms l 0).1
def robinL (l : List Pt) (ms : List Mb) : List (List Pt) := listsL ms.length (seqT chB ms l 0).1
theorem ShI.reads {w w' : World} {S : List Nat} {g nm : Nat} {sq : List (Nat × Pt)} (h : ShI w w' S g nm sq) : ReadsL w' w.heap.size w'.heap.size (some ⟨g, 0, none⟩) (listsL nm sq) := by
  obtain ⟨sl, h1, h2, _⟩ := h
  exact h1.reads h2
set_option maxRecDepth 100000 in
set_option maxHeartbeats 1000000 in
theorem range_ok (w : World) (A Am : Option Addr) (n c nm cm : Nat) (l : List Pt) (ms : List Mb) (L : List (List Pt)) (hL : Hid (IsL w w.heap.size A n c l)) (hM : Hid (IsM w w.heap.size Am nm cm ms)) (HX : Hid (chkE l ms 0)) (HR : Hid (rangeL l ms = L)) :
    Calls Try.prog 5 #[.slice A n c, .slice Am nm cm] w fun e w' => ∃ A' c', e = .returned (.tuple #[.slice A' nm c', .int .i64 0]) ∧ ReadsL w' w.heap.size w'.heap.size A' L ∧ Below w.heap.size w w' := by
  have HML := Lib.hid hM.out.len
  go_enter Try.func5, Try.ntmps5
  go_wp2_with (go_at_call 17; refine (share_range w w.heap.size A Am n c nm cm l ms hL hM (Nat.le_refl _) HX _ (Lib.hid rfl)).mono ?_; rintro e w1 ⟨g, rfl, hS⟩; have HS := Lib.hid hS; clear hS)
  go_ret2
  refine ⟨_, _, rfl, ?_, HS.out.only.nil⟩
  have := HS.out.reads
  rw [← HR.out]
  unfold rangeL
  rw [HML.out]
  exact this
set_option maxRecDepth 100000 in
set_option maxHeartbeats 1000000 in
theorem range_no (w : World) (A Am : Option Addr) (n c nm cm : Nat) (l : List Pt) (ms : List Mb) (x : Int) (hx : x ≠ 0) (hL : Hid (IsL w w.heap.size A n c l)) (hM : Hid (IsM w w.heap.size Am nm cm ms)) (HX : Hid (chkE l ms x)) :
    Calls Try.prog 5 #[.slice A n c, .slice Am nm cm] w fun e w' => e = .returned (.tuple #[.slice none 0 0, .int .i64 x]) ∧ Below w.heap.size w w' := by
  go_enter Try.func5, Try.ntmps5
  go_wp2_with (go_at_call 17; refine (share_norange w A Am n c nm cm l ms x hx hL hM HX).mono ?_; rintro e w1 ⟨rfl, hS⟩; have HS := Lib.hid hS; clear hS)
  go_ret2
  exact ⟨rfl, HS.out⟩
theorem IsL.box {w : World} {A : Option Addr} {n c : Nat} {l : List Pt} (o : Obj) (h : IsL w w.heap.size A n c l) : IsL (w.alloc o) w.heap.size A n c l := h.below (one_box' o)
theorem IsM.box {w : World} {A : Option Addr} {n c : Nat} {l : List Mb} (o : Obj) (h : IsM w w.heap.size A n c l) : IsM (w.alloc o) w.heap.size A n c l := h.below (one_box' o)
set_option maxRecDepth 100000 in
set_option maxHeartbeats 1000000 in
theorem robin_ok (w : World) (A Am : Option Addr) (n c nm cm : Nat) (l : List Pt) (ms : List Mb) (L : List (List Pt)) (hL : Hid (IsL w w.heap.size A n c l)) (hM : Hid (IsM w w.heap.size Am nm cm ms)) (HX : Hid (chkE l ms 0)) (HR : Hid (robinL l ms = L)) :
    Calls Try.prog 7 #[.slice A n c, .slice Am nm cm] w fun e w' => ∃ A' c', e = .returned (.tuple #[.slice A' nm c', .int .i64 0]) ∧ ReadsL w' w.heap.size w'.heap.size A' L ∧ Below w.heap.size w w' := by
  have HML := Lib.hid hM.out.len
  have HL1 := Lib.hid (hL.out.box (.cells #[.int .i64 0] 3))
  have HM1 := Lib.hid (hM.out.box (.cells #[.int .i64 0] 3))
  have HP1 : Hid (Box (w.alloc (.cells #[.int .i64 0] 3)) w.heap.size 0) := Lib.hid (heap_alloc_new w _)
  have HB1 := Lib.hid (one_box' (w := w) (.cells #[.int .i64 0] 3))
  go_enter Try.func7, Try.ntmps7
  go_wp2_with (go_at_call 17; refine (share_robin _ w.heap.size A Am n c nm cm w.heap.size l ms HL1 HM1 HB1.out.size HP1 (Nat.le_refl _) HX _ (Lib.hid rfl)).mono ?_; rintro e w1 ⟨g, rfl, hS⟩; have HS := Lib.hid hS; clear hS)
  go_ret2
  refine ⟨_, _, rfl, ?_, HB1.out.trans (HS.out.only.below HB1.out.size (fun k hk => by rw [show k = w.heap.size by simpa using hk]; exact Nat.le_refl _))⟩
  have := HS.out.reads
  rw [← HR.out]
  unfold robinL
  rw [HML.out]
  exact this.keep (fun _ _ q _ => q) (Nat.le_refl _) HB1.out.size
set_option maxRecDepth 100000 in
set_option maxHeartbeats 1000000 in
theorem robin_no (w : World) (A Am : Option Addr) (n c nm cm : Nat) (l : List Pt) (ms : List Mb) (x : Int) (hx : x ≠ 0) (hL : Hid (IsL w w.heap.size A n c l)) (hM : Hid (IsM w w.heap.size Am nm cm ms)) (HX : Hid (chkE l ms x)) :
    Calls Try.prog 7 #[.slice A n c, .slice Am nm cm] w fun e w' => e = .returned (.tuple #[.slice none 0 0, .int .i64 x]) ∧ Below w.heap.size w w' := by
  have HB1 := Lib.hid (one_box' (w := w) (.cells #[.int .i64 0] 3))
  have HL1 : Hid (IsL (w.alloc (.cells #[.int .i64 0] 3)) (w.alloc (.cells #[.int .i64 0] 3)).heap.size A n c l) := Lib.hid ((hL.out.box _).keep (fun _ _ q _ => q) HB1.out.size)
  have HM1 : Hid (IsM (w.alloc (.cells #[.int .i64 0] 3)) (w.alloc (.cells #[.int .i64 0] 3)).heap.size Am nm cm ms) := Lib.hid ((hM.out.box _).keep (fun _ _ q _ => q) HB1.out.size)
  go_enter Try.func7, Try.ntmps7
  go_wp2_with (go_at_call 17; refine (share_norobin _ A Am n c nm cm w.heap.size l ms x hx HL1 HM1 HX).mono ?_; rintro e w1 ⟨rfl, hS⟩; have HS := Lib.hid hS; clear hS)
  go_ret2
  exact ⟨rfl, HB1.out.trans (HS.out.mono HB1.out.size)⟩

/-- the first list that has a partition -/
def WhoP (L : List (List Pt)) (p : Pt) (v : Int) : Prop := (∃ i : Nat, v = (i : Int) ∧ i < L.length ∧ (∃ x, L[i]? = some x ∧ p ∈ x) ∧ ∀ j < i, ∀ x, L[j]? = some x → p ∉ x) ∨ (v = -1 ∧ ∀ x ∈ L, p ∉ x)
theorem who_one {L : List (List Pt)} {p : Pt} {v v' : Int} (h : WhoP L p v) (h' : WhoP L p v') : v = v' := by
  rcases h with ⟨i, rfl, h1, ⟨x, hx, hp⟩, h2⟩ | ⟨rfl, h2⟩ <;> rcases h' with ⟨j, rfl, h3, ⟨y, hy, hq⟩, h4⟩ | ⟨rfl, h4⟩
  · rcases Nat.lt_trichotomy i j with q | q | q
    · exact absurd hp (h4 i q x hx)
    · rw [q]
    · exact absurd hq (h2 j q y hy)
  · exact absurd hp (h4 x (List.mem_of_getElem? hx))
  · exact absurd hq (h2 y (List.mem_of_getElem? hy))
  · rfl
theorem pt_not {t t' : ByteArray} {n n' : Int} (h : ¬ (t = t' ∧ n = n')) : (⟨t, n⟩ : Pt) ≠ ⟨t', n'⟩ := fun e => by injection e with a b; exact h ⟨a, b⟩
theorem ways2 {t t' : ByteArray} {k k' : Int} (h : ¬ (t' = t ∧ k' = k)) : (t'.toList == t.toList) = false ∨ (t' = t ∧ (k' == k) = false) := by
  by_cases h1 : t' = t
  · exact .inr ⟨h1, by simp; exact fun e => h ⟨h1, e⟩⟩
  · exact .inl (bytes_off h1)
set_option maxRecDepth 100000 in
set_option maxHeartbeats 4000000 in
theorem whose_is (w : World) (lo : Nat) (A : Option Addr) (n c : Nat) (L : List (List Pt)) (t : ByteArray) (k0 v : Int) (hL : Hid (ReadsL w lo w.heap.size A L)) (hn : Hid (L.length = n)) (hn1 : n ≤ 1000000) (hx : Hid (∀ x ∈ L, x.length ≤ 1000000)) (HV : Hid (WhoP L ⟨t, k0⟩ v)) :
    Calls Try.prog 12 #[.slice A n c, .agg #[.string t, .int .i64 k0]] w fun e w' => e = .returned (.int .i64 v) ∧ Below w.heap.size w w' := by
  have hb1 : Below w.heap.size w (w.alloc (.cells #[.string t, .int .i64 k0] 27)) := one_box' _
  have hr1 := heap_alloc_new w (.cells #[.string t, .int .i64 k0] 27)
  go_enter Try.func12, Try.ntmps12
  go_wp2_with fail
  obtain ⟨w1, hw1⟩ : ∃ w1, w.alloc (.cells #[.string t, .int .i64 k0] 27) = w1 := ⟨_, rfl⟩
  rw [hw1] at hb1 hr1 ⊢
  have HB1 := Lib.hid hb1
  have HR1 := Lib.hid hr1
  have HZ1 : Hid (w.heap.size < w1.heap.size) := Lib.hid (Array.getElem?_eq_some_iff.1 hr1).1
  clear hb1 hr1 hw1
  go_loopw [11] (fun s wr => ∃ i : Nat, i ≤ n ∧ s = .int .i64 i ∧ Hid (∀ j < i, ∀ x, L[j]? = some x → (⟨t, k0⟩ : Pt) ∉ x) ∧ Hid (Below w1.heap.size w1 wr)) (fun s _ => n - (intOf s).toNat)
  case atStart => exact ⟨0, by omega, rfl, Lib.hid (fun j h => by omega), Lib.hid (Below.refl _ _)⟩
  case round =>
    obtain ⟨i, hi, rfl, HNO, HB⟩ := hrel
    by_cases hlt : i < n
    · obtain ⟨g, rfl, hlo, hg, hc⟩ := hL.out (by rw [hn.out]; omega)
      obtain ⟨x, hx0⟩ : ∃ x, L[i]? = some x := ⟨_, List.getElem?_eq_getElem (by rw [hn.out]; omega)⟩
      obtain ⟨Ai, ci, d0, hrd, -⟩ := hc i x hx0
      have hw1 : Below w.heap.size w wr := HB1.out.trans (HB.out.mono HB1.out.size)
      have d0 := (hw1.cell (p := ⟨g, i, none⟩) hg).trans d0
      have b0 : (0 : Int) ≤ (i : Int) := by omega
      have b1 : (i : Int) < (n : Int) := by omega
      have hxl := hx.out x (List.mem_of_getElem? hx0)
      obtain ⟨m, hm⟩ : ∃ m, x.length = m := ⟨_, rfl⟩
      rw [hm] at d0 hxl
      have HM := Lib.hid hm
      have HX0 := Lib.hid hx0
      have HRD := Lib.hid hrd
      have HBW := Lib.hid (HB.out)
      have HIN : Hid (∀ q : Nat, q < m → (⟨t, k0⟩ : Pt) ∉ x.take q → True) := Lib.hid (fun _ _ _ => trivial)
      clear hc hrd hm hx0 hw1 HIN
      go_wp2_with fail
      obtain ⟨wo, hwo⟩ : ∃ wo, wo = wr := ⟨_, rfl⟩
      rw [← hwo] at HB HBW d0 ⊢
      clear hwo
      go_loopw [18] (fun s wr => ∃ q : Nat, q ≤ m ∧ s = .int .i64 q ∧ Hid ((⟨t, k0⟩ : Pt) ∉ x.take q) ∧ Hid (Below w1.heap.size w1 wr)) (fun s _ => m - (intOf s).toNat)
      case atStart => exact ⟨0, by omega, rfl, Lib.hid (by simp), HBW⟩
      case round =>
        obtain ⟨q, hq, rfl, HNQ, HBQ⟩ := hrel
        have hw2 : Below w.heap.size w wr := HB1.out.trans (HBQ.out.mono HB1.out.size)
        by_cases hqm : q < m
        · obtain ⟨gi, rfl, hgi, hci⟩ := HRD.out (by rw [HM.out]; omega)
          obtain ⟨⟨t', k'⟩, hs⟩ : ∃ s, x[q]? = some s := ⟨_, List.getElem?_eq_getElem (by rw [HM.out]; omega)⟩
          obtain ⟨e0, e1⟩ := hci q _ hs
          have e0 := (hw2.cell (p := ⟨gi, q * 2, none⟩) hgi).trans e0
          have e1 := (hw2.cell (p := ⟨gi, q * 2 + 1, none⟩) hgi).trans e1
          dsimp only at e0 e1
          have hrw := (HBQ.out.block w.heap.size HZ1.out).trans HR1.out
          have f0 := (cell_of_row _ _ 0 _ _ _ hrw).trans rfl
          have f1 := (cell_of_row _ _ 1 _ _ _ hrw).trans rfl
          have hz0 : w.heap.size < wr.heap.size := Nat.lt_of_lt_of_le HZ1.out HBQ.out.size
          have j0 : (0 : Int) ≤ (q : Int) := by omega
          have j1 : (q : Int) < (m : Int) := by omega
          have HS := Lib.hid hs
          have HW2 := Lib.hid hw2
          have HNW : Hid (wr.alloc (.cells #[.string t', .int .i64 k'] 27) = wr.alloc (.cells #[.string t', .int .i64 k'] 27)) := Lib.hid rfl
          clear hci hs hw2 hrw HNW
          by_cases heq : t' = t ∧ k' = k0
          · obtain ⟨rfl, rfl⟩ := heq
            have HD : Hid (v = (i : Int)) := Lib.hid (who_one HV.out (.inl ⟨i, rfl, by rw [hn.out]; exact hlt, ⟨x, HX0.out, List.mem_of_getElem? HS.out⟩, HNO.out⟩))
            go_wp2_with fail
            go_ret
            exact ⟨congrArg Ending.returned (congrArg (Value.int .i64) HD.out.symm), HB1.out.trans ((HBQ.out.trans ((one_box' _).mono HBQ.out.size)).mono HB1.out.size)⟩
          · have HNX : Hid ((⟨t, k0⟩ : Pt) ∉ x.take (q + 1)) := Lib.hid (by
              rw [List.take_add_one, HS.out]
              intro hmem
              rcases List.mem_append.1 hmem with hmem | hmem
              · exact HNQ.out hmem
              · simp at hmem
                exact heq ⟨hmem.1.symm, hmem.2.symm⟩)
            rcases ways2 heq with hne | ⟨rfl, hne⟩
            all_goals
              go_wp2_with fail
              go_roundw
              case rel => exact ⟨q + 1, by omega, by go_num, HNX, Lib.hid (HBQ.out.trans ((one_box' _).mono HBQ.out.size))⟩
              case measure => simp [intOf]; omega
        · have HNX : Hid (∀ j < i + 1, ∀ y, L[j]? = some y → (⟨t, k0⟩ : Pt) ∉ y) := Lib.hid (fun j hj y hy => by
            rcases Nat.lt_or_ge j i with z | z
            · exact HNO.out j z y hy
            · obtain rfl : j = i := by omega
              rw [HX0.out] at hy; injection hy with hy; subst hy
              have := HNQ.out
              rwa [List.take_of_length_le (by rw [HM.out]; omega)] at this)
          obtain rfl : q = m := by omega
          clear hw2
          go_wp2_with fail
          go_roundw
          case rel => exact ⟨i + 1, by omega, by go_num, HNX, HBQ⟩
          case measure => simp [intOf]; omega
    · obtain rfl : i = n := by omega
      have HD : Hid (v = -1) := Lib.hid (who_one HV.out (.inr ⟨rfl, fun x hx => by
        obtain ⟨j, hj, rfl⟩ := List.mem_iff_getElem.1 hx
        exact HNO.out j (by rw [← hn.out]; exact hj) _ (List.getElem?_eq_getElem hj)⟩))
      go_wp2_with fail
      go_ret
      exact ⟨congrArg Ending.returned (congrArg (Value.int .i64) HD.out.symm), HB1.out.trans (HB.out.mono HB1.out.size)⟩
end Go.Proofs.Ythongbobopampaa.L10
