/-
  Contracts: the document's segment: bytes, index, whether numbers are the same.
-/
import Derived.Test.YtpagoeoilkbmjaaSegRkeep
namespace Go.Proofs.Ytpagoeoilkbmjaa.L5
open Go.RowKit
open L3 L4

set_option maxRecDepth 100000 in
set_option maxHeartbeats 2000000 in
theorem rbytes_is {T : TypeId} {w : World} {g : Nat} {A : Option Addr} {cap : Nat} {base next : Int} {L : List L4.Fd} (n : Nat) (h : Hid (Seg T w g A cap base next L)) (hn : L.length = n) (hl : n ≤ 64) (hs : Hid (∀ f ∈ L, f.r.chk = 0)) :
    Calls Try.prog 57 #[.pointer (some ⟨g, 0, none⟩)] w fun e w' => e = .returned (.int .i64 (bytesL L : Nat)) ∧ Below w.heap.size w w' := by
  have HN := Lib.hid hn
  clear hn
  go_enter Try.func57, Try.ntmps57
  go_wp2_with fail
  go_loopw [3, 4] (fun s i wr => ∃ (k m : Nat), k ≤ n ∧ i = .int .i64 k ∧ s = .int .i64 m ∧ m ≤ 600 * k ∧ Hid (bytesL (L.take k) = m) ∧ Below w.heap.size w wr) (fun _ i _ => n - (intOf i).toNat)
  case atStart => exact ⟨0, 0, by omega, rfl, rfl, by omega, Lib.hid rfl, Below.refl _ _⟩
  case round =>
    obtain ⟨k, m, hk, rfl, rfl, hm, hM, hbel⟩ := hrel
    have hseg := h.out.below hbel
    have c2 := hseg.c2
    rw [HN.out] at c2
    by_cases hlt : k < n
    · obtain ⟨b, rfl, hb, hcells⟩ := hseg.reads (by rw [HN.out]; omega)
      obtain ⟨⟨o, ⟨rk, key, tb, val⟩⟩, hf⟩ : ∃ s, L[k]? = some s := ⟨_, List.getElem?_eq_getElem (by rw [HN.out]; omega)⟩
      obtain ⟨d0, d1, d2, d3, d4⟩ := hcells k _ hf
      have HC : Hid (chk rk key tb val = 0) := Lib.hid (hs.out _ (List.mem_of_getElem? hf))
      have k0 : (0 : Int) ≤ (k : Int) := by omega
      have k1 : (k : Int) < (n : Int) := by omega
      obtain ⟨p, hp⟩ : ∃ p, putT rk key tb val = p := ⟨_, rfl⟩
      have hps : p.size ≤ 600 := by rw [← hp]; exact putT_size _ _ _ _
      have HP := Lib.hid hp
      have hnx := bytes_take hf
      rw [hM.out] at hnx
      have HNX : Hid (bytesL (L.take (k + 1)) = m + p.size) := Lib.hid (by rw [hnx]; show m + (putT rk key tb val).size = _; rw [hp])
      have e1 : wrap64 ((m : Int) + (p.size : Int)) = ((m + p.size : Nat) : Int) := by simp only [wrap64]; omega
      clear hcells hf hseg hp hnx
      dsimp only at d0 d1 d2 d3 d4
      go_wp2_with (go_at_call 85; refine (refrec_is _ _ _ _ _ _ HC HP).mono ?_; rintro e w1 ⟨rfl, hb1⟩)
      go_roundw
      case rel => exact ⟨k + 1, m + p.size, by omega, by go_num, by go_num, by omega, HNX, hbel.trans (hb1.mono hbel.size)⟩
      case measure => simp [intOf]; omega
    · obtain rfl : k = n := by omega
      have HE : Hid (bytesL L = m) := Lib.hid (by have := hM.out; rwa [List.take_of_length_le (by rw [HN.out]; omega)] at this)
      clear hseg
      go_wp2_with fail
      go_ret
      exact ⟨congrArg (fun m : Nat => Ending.returned (.int .i64 m)) HE.out.symm, hbel⟩

set_option maxRecDepth 100000 in
set_option maxHeartbeats 2000000 in
theorem rindex_is {T : TypeId} {w : World} {g : Nat} {A : Option Addr} {cap : Nat} {base next : Int} {L : List L4.Fd} (n : Nat) (h : Hid (Seg T w g A cap base next L)) (hn : L.length = n) (hl : n ≤ 64) :
    Calls Try.prog 60 #[.pointer (some ⟨g, 0, none⟩)] w (NumsP w (indexL L)) := by
  obtain ⟨i0, hi0, hz0, hz1, hz2⟩ := info_parts intInfo
  obtain ⟨mk, hmk⟩ : ∃ mk, (n + 7) / 8 = mk := ⟨_, rfl⟩
  have HN := Lib.hid hn
  have HMK := Lib.hid hmk
  have hm8 : mk ≤ 8 := by omega
  have HLEN : Hid ((indexL L).length = mk) := Lib.hid (by rw [index_len, hn, hmk])
  clear hn hmk
  go_enter Try.func60, Try.ntmps60
  go_wp2_with fail
  go_loopw [3, 4] (fun v i wr => ∃ (k q : Nat), k ≤ mk ∧ Hid (q = k * 8) ∧ q ≤ 64 ∧ i = .int .i64 q ∧ Hid (wr.ownsRow w.heap.size 3 1 v k (rowI ((indexL L).take k))) ∧ Below w.heap.size w wr) (fun _ i _ => 72 - (intOf i).toNat)
  case atStart => exact ⟨0, 0, by omega, Lib.hid rfl, by omega, rfl, Lib.hid (by simpa [rowI] using World.ownsRow_made (size := 1) w #[] 0 (Nat.le_refl _) (by unfold maxLen; omega) rfl), one_box _⟩
  case round =>
    obtain ⟨k, q, hk, hqk, hq64, rfl, hown, hbel⟩ := hrel
    have hseg := h.out.below hbel
    have c2 := hseg.c2
    rw [HN.out] at c2
    by_cases hlt : q < n
    · have hmk := HMK.out
      have hq := hqk.out
      have hkm : k < mk := by omega
      obtain ⟨b, rfl, hb, hcells⟩ := hseg.reads (by rw [HN.out]; omega)
      obtain ⟨⟨o, r⟩, hf⟩ : ∃ s, L[k * 8]? = some s := ⟨_, List.getElem?_eq_getElem (by rw [HN.out]; omega)⟩
      have d0 := (hcells _ _ hf).1
      rw [← hq] at d0
      have htk := index_take (by rw [HN.out]; omega) hf
      have HTK := Lib.hid htk
      have k0 : (0 : Int) ≤ (q : Int) := by omega
      have k1 : (q : Int) < (n : Int) := by omega
      dsimp only at d0
      clear hcells hf hseg htk hmk hq
      go_wp2_with (at_builtin; refine wpList_append_own _ rfl _ _ 31 (by rfl) w.heap.size 3 i0 _ 1 8 Try.underlying31 hi0 hz0 hz1 hz2 rfl (by omega) _ k (rowI ((indexL L).take k)) (by rfl) (hown.out.alloc _) ⟨wr.heap.size, 0, none⟩ 1 1 [.int .i64 o] (by rfl) (by rfl) (World.news_of_block (cs := #[.int .i64 o]) (t := 3) (fr := (0, 0)) (heap_alloc_new wr _)) (by simp [Value.oneCell']) (by unfold maxLen; omega) (by omega) (by simp; exact Nat.le_succ_of_le hbel.size) ?_; intro v1 w1 hown1 hgrow1 hnil1)
      go_roundw
      case rel =>
        refine ⟨k + 1, q + 8, by omega, Lib.hid (by have := hqk.out; omega), by have := hqk.out; omega, by go_num, Lib.hid ?_, (hbel.alloc hbel.size _).grown hgrow1 (by simp; exact Nat.le_succ_of_le hbel.size) (fun j e => (hown.out.lt j e).1)⟩
        rw [HTK.out]
        have : rowI (List.take k (indexL L) ++ [o]) = rowI (List.take k (indexL L)) ++ [Value.int .i64 o] := by simp [rowI]
        rw [this]
        exact hown1
      case measure => simp [intOf]; omega
    · have hmk := HMK.out
      have hq := hqk.out
      obtain rfl : k = mk := by omega
      have ho := hown.out
      rw [List.take_of_length_le (by rw [HLEN.out]; omega)] at ho
      obtain ⟨A1, c1, rfl⟩ := own_form ho
      clear hmk hq hseg
      go_wp2_with fail
      go_ret
      have e := HLEN.out
      refine ⟨A1, c1, by rw [e]; rfl, ?_, hbel⟩
      rw [e]; exact ho

theorem ReadsI.own {w : World} {base : Nat} {T : TypeId} {A : Option Addr} {cap : Nat} {l : List Int} (h : w.ownsRow base T 1 (.slice A l.length cap) l.length (rowI l)) : ReadsI w w.heap.size A l := fun h0 => by
  rcases h.2 with ⟨_, e⟩ | ⟨g, cap', cur, e, hb, hh, _⟩
  · omega
  · injection e with e1 e2 e3
    refine ⟨g, 0, e1, (Array.getElem?_eq_some_iff.1 hh).1, fun i x hx => ?_⟩
    have hc := h.cells (g := g) (by rw [e1]; rfl)
    have := hc i (.int .i64 x) (by simp [rowI, hx])
    rw [addr_add] at this
    simpa using this

set_option maxRecDepth 100000 in
set_option maxHeartbeats 2000000 in
/-- two lists of numbers: the same? -/
theorem nums_is (A A' : Option Addr) (l l' : List Int) (cap cap' B : Nat) (v : Bool) (w : World) (hR : Hid (ReadsI w B A l)) (hR' : Hid (ReadsI w B A' l')) (hB : B ≤ w.heap.size) (hl : l.length ≤ maxLen) (HV : Hid (v = true ↔ l = l')) :
    Calls Try.prog 58 #[.slice A l.length cap, .slice A' l'.length cap'] w fun e w' => e = .returned (.bool v) ∧ Below w.heap.size w w' := by
  unfold maxLen at hl
  by_cases hn : l.length = l'.length
  · go_enter Try.func58, Try.ntmps58
    rw [← hn]
    have HN := Lib.hid hn
    clear hn
    go_wp2_with fail
    go_loopw [5] (fun i wr => ∃ k : Nat, k ≤ l.length ∧ i = .int .i64 k ∧ Hid (l.take k = l'.take k) ∧ Below w.heap.size w wr) (fun i _ => l.length - (intOf i).toNat)
    case atStart => exact ⟨0, by omega, rfl, Lib.hid (by simp), Below.refl _ _⟩
    case round =>
      obtain ⟨k, hk, rfl, heq, hbel⟩ := hrel
      by_cases hlt : k < l.length
      · have HNo := HN.out
        obtain ⟨g, go, rfl, hg, hcells⟩ := hR.out (by omega)
        obtain ⟨g', go', rfl, hg', hcells'⟩ := hR'.out (by omega)
        obtain ⟨s, hs⟩ : ∃ s, l[k]? = some s := ⟨l[k], List.getElem?_eq_getElem hlt⟩
        obtain ⟨t, ht⟩ : ∃ t, l'[k]? = some t := ⟨l'[k], List.getElem?_eq_getElem (by omega)⟩
        have d0 := (hbel.cell (p := ⟨g, go + k, none⟩) (by show g < _; omega)).trans (hcells k s hs)
        have e0 := (hbel.cell (p := ⟨g', go' + k, none⟩) (by show g' < _; omega)).trans (hcells' k t ht)
        have k0 : (0 : Int) ≤ (k : Int) := by omega
        have k1 : (k : Int) < (l.length : Int) := by omega
        by_cases hst : s = t
        · subst hst
          have HNX : Hid (l.take (k + 1) = l'.take (k + 1)) := Lib.hid (by rw [List.take_add_one, List.take_add_one, hs, ht, heq.out])
          clear hcells hcells' hs ht HNo
          go_wp2_with fail
          go_quiet (fail)
          go_wp2_with fail
          go_roundw
          case rel => exact ⟨k + 1, by omega, by go_num, HNX, drewN_below hbel _⟩
          case measure => simp [intOf]; omega
        · have hne : (s != t) = true := by simpa using hst
          have HD : Hid (v = false) := Lib.hid (by
            cases v
            · rfl
            · have e := HV.out.1 rfl
              subst e
              rw [hs] at ht
              exact absurd (Option.some.inj ht) hst)
          clear hcells hcells' hs ht HNo hst
          go_wp2_with fail
          go_quiet (fail)
          go_wp2_with fail
          go_ret
          exact ⟨congrArg Ending.returned (congrArg Value.bool HD.out.symm), drewN_below hbel _⟩
      · obtain rfl : k = l.length := by omega
        have HD : Hid (v = true) := Lib.hid (by
          have := heq.out
          rw [List.take_length, List.take_of_length_le (by have := HN.out; omega)] at this
          exact HV.out.2 this)
        go_wp2_with fail
        go_ret
        exact ⟨congrArg Ending.returned (congrArg Value.bool HD.out.symm), hbel⟩
  · have h1 : ((l.length : Int) != (l'.length : Int)) = true := by simp; omega
    have HD : Hid (v = false) := Lib.hid (by
      cases v
      · rfl
      · exact absurd (congrArg List.length (HV.out.1 rfl)) hn)
    clear hn
    go_enter Try.func58, Try.ntmps58
    go_wp2_with fail
    go_ret
    exact ⟨congrArg Ending.returned (congrArg Value.bool HD.out.symm), Below.refl _ _⟩
end Go.Proofs.Ytpagoeoilkbmjaa.L5
