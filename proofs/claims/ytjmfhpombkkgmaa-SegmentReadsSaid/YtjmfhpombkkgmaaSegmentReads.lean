/-
  Proved: what is read are records from the offset on, in order, no more than were asked for; read on behind the last one, all come, each once (of at most 64 records). No condition.
-/
import Derived.Test.YtjmfhpombkkgmaaRows
import Derived.WalkKit
import Derived.ProofKit
import Derived.OpenShut
import Derived.ShutString
import Derived.ChangeOld
import Derived.Below
import Derived.Test.YtjmfhpombkkgmaaSegOpen
import Derived.Deep.QuietTactic
import Derived.BigQuiet
import Derived.LoopTactic
namespace Go.Proofs.Ytjmfhpombkkgmaa.segmentReads
open Go.ChangeShapes Go.WideShapes Go.ChangeAt Go.RowKit
open Go.ChangeMaps (open_string shut_string)
open L3 L4 L5

theorem own : ownKnob Try.prog.godebug = none := by kernel_rfl
theorem laidOut : laidOutB Try.prog = true := by kernel_rfl


theorem mask (x : Int) : 0 ≤ bits .and .i64 x 7 ∧ bits .and .i64 x 7 ≤ 7 := by
  have e : (BitVec.ofInt 64 x &&& BitVec.ofInt 64 7).toNat ≤ 7 := by
    rw [BitVec.toNat_and]
    exact Nat.le_trans Nat.and_le_right (by decide)
  show 0 ≤ IntKind.i64.wrap ((BitVec.ofInt 64 x &&& BitVec.ofInt 64 7).toNat : Int) ∧ IntKind.i64.wrap ((BitVec.ofInt 64 x &&& BitVec.ofInt 64 7).toNat : Int) ≤ 7
  rw [IntKind.wrap_i64]
  omega
/-- what has been gathered: offsets rise up to the last one -/
structure Up (M : List L4.Fd) (last : Int) : Prop where
  rise : riseB 0 (last + 1) M = true
  lo : -1 ≤ last
  hi : last < 1099511627776
  len : M.length ≤ 64
  rec_ : ∀ f ∈ M, f.r = rV
theorem Up.nil : Up [] (-1) := ⟨rfl, by omega, by omega, by simp, fun f hf => by cases hf⟩
theorem Up.next {M : List L4.Fd} {last o : Int} (u : Up M last) (h1 : last < o) (h2 : o < 1099511627776) (hl : M.length < 64) : Up (M ++ [⟨o, rV⟩]) o := by
  have := u.lo
  refine ⟨rise_app u.rise (by omega) (by omega) (rise_cons.2 ⟨by show last + 1 ≤ o; omega, by show o < o + 1; omega, rfl⟩), by omega, h2, by simp; omega, fun f hf => ?_⟩
  rcases List.mem_append.1 hf with hf | hf
  · exact u.rec_ f hf
  · obtain rfl : f = ⟨o, rV⟩ := by simpa using hf
    rfl
theorem chk_all : ∀ {M : List L4.Fd}, (∀ f ∈ M, f.r = rV) → chkL (M.map (·.r)) = 0
  | [], _ => rfl
  | f :: t, h => by
    show (if f.r.chk ≠ 0 then f.r.chk else chkL (t.map (·.r))) = 0
    rw [h f (by simp), show rV.chk = 0 by decide, if_neg (by simp)]
    exact chk_all fun g hg => h g (by simp [hg])
theorem Up.load {M : List L4.Fd} {last : Int} (u : Up M last) : loadE 0 1099511627776 M = 0 := by
  have := u.hi
  rw [load_ok (by decide) (by decide) (by decide) u.len (rise_mono u.rise (by omega) (by omega)), chk_all u.rec_]
theorem Up.whole {M : List L4.Fd} {last : Int} (u : Up M last) : riseB 0 1099511627776 M = true := by
  have := u.hi
  exact rise_mono u.rise (by omega) (by omega)
theorem read_all {M : List L4.Fd} (h : riseB 0 1099511627776 M = true) (hl : M.length ≤ 64) : readL M (-5) 99 = M := by
  unfold readL
  rw [List.filter_eq_self.2 (fun f hf => by have := rise_mem h f hf; simp; omega), List.take_of_length_le (by have : (99 : Int).toNat = 99 := rfl; omega)]
theorem read_no (M : List L4.Fd) (a : Int) {c : Int} (h : c ≤ 0) : readL M a c = [] := by
  unfold readL
  rw [show c.toNat = 0 by omega, List.take_zero]
/-- what is read next -/
theorem read_some {M : List L4.Fd} (h : riseB 0 1099511627776 M = true) {at_ c : Int} {p : Nat} (hp : posF M at_ = p) : readL M at_ c = (M.drop p).take c.toNat := by rw [read_is h, hp]
theorem pos_next {M : List L4.Fd} (h : riseB 0 1099511627776 M = true) {r : Nat} {f : L4.Fd} (hf : M[r]? = some f) : posF M (f.o + 1) = r + 1 := by
  have hlt := (List.getElem?_eq_some_iff.1 hf).1
  have h1 := (pos_low (a := f.o + 1) h r f hf).1 (by omega)
  have h2 := posF_le M (f.o + 1)
  rcases Nat.lt_or_ge (r + 1) (posF M (f.o + 1)) with h3 | h3
  · obtain ⟨f2, hf2⟩ : ∃ g, M[r + 1]? = some g := ⟨_, List.getElem?_eq_getElem (by omega)⟩
    have h4 := (pos_low (a := f.o + 1) h (r + 1) f2 hf2).2 h3
    have h5 := rise_lt h r (r + 1) f f2 (by omega) hf hf2
    omega
  · omega
theorem take_on (M : List L4.Fd) (p q : Nat) : M.take p ++ (M.drop p).take q = M.take (p + q) := by rw [List.take_add]

theorem take_min {M : List L4.Fd} {p kk q m : Nat} (hm : M.length = m) (hq : min kk (m - p) = q) : M.take p ++ (M.drop p).take kk = M.take (p + q) := by
  have e : (M.drop p).take kk = (M.drop p).take q := by
    by_cases h : kk ≤ m - p
    · rw [Nat.min_eq_left h] at hq; rw [hq]
    · rw [Nat.min_eq_right (by omega)] at hq
      rw [List.take_of_length_le (by rw [List.length_drop, hm]; omega), List.take_of_length_le (by rw [List.length_drop, hm]; omega)]
  rw [e]; exact take_on M p q
theorem reads_own {w : World} {base : Nat} {T : TypeId} {A : Option Addr} {m c : Nat} {M : List L4.Fd} (hm : M.length = m) (h : w.ownsRow base T 5 (.slice A m c) m (rowF M)) : ReadsF w w.heap.size A M := by
  subst hm; exact ReadsF.own h
theorem pos_zero {M : List L4.Fd} (h : riseB 0 1099511627776 M = true) : posF M 0 = 0 :=
  List.countP_eq_zero.2 (fun f hf => by have := rise_mem h f hf; simp; omega)
theorem found_same (A A' : Option Addr) (M : List L4.Fd) (m c c' : Nat) (w : World) (hR : Hid (ReadsF w w.heap.size A M)) (hR' : Hid (ReadsF w w.heap.size A' M)) (hm : M.length = m) (hl : m ≤ maxLen) :
    Calls Try.prog 14 #[.slice A m c, .slice A' m c'] w fun e w' => e = .returned (.bool true) ∧ Below w.heap.size w w' := by
  subst hm
  exact rfound_is A A' M M c c' w.heap.size true w hR hR' (Nat.le_refl _) hl (Lib.hid (by simp))
theorem last_cell {w : World} {base : Nat} {T : TypeId} {xb n c r : Nat} {X : List L4.Fd} {f : L4.Fd} {o : Int} (h : w.ownsRow base T 5 (.slice (some ⟨xb, 0, none⟩) n c) n (rowF X)) (hf : X[r]? = some f) (ho : f.o = o) : w.cell? ⟨xb, r * 5, none⟩ = some (.int .i64 o) := by
  have := h.cells (g := xb) rfl (r * 5) _ (rowF_at X r f hf).1
  rw [addr_add, ho] at this
  exact this

set_option maxRecDepth 100000 in
set_option maxHeartbeats 8000000 in
theorem walk (w : World) (A0 : Option Addr) (l0 : List L4.Fd) (c0 : Nat) (R0 : IsFds w A0 l0) (a1 : Int) (_ : (Lit.int .i64 a1).wf = true) :
    Calls Try.prog 5 #[.slice A0 l0.length c0, .int .i64 a1] w fun e w' => e = .returned (.bool true) ∧ Below w.heap.size w w' := by
  obtain ⟨i0, hi0, hz0, hz1, hz2⟩ := info_parts fdInfo
  obtain ⟨b, hbm⟩ : ∃ b, bits .and .i64 a1 7 = b := ⟨_, rfl⟩
  have hb := mask a1
  rw [hbm] at hb
  obtain ⟨b0, b1⟩ := hb
  obtain ⟨kk, hkk⟩ : ∃ kk : Nat, 1 + b = (kk : Int) := ⟨(1 + b).toNat, by omega⟩
  have ekk : wrap64 (1 + b) = (kk : Int) := by rw [hkk]; simp only [wrap64]; omega
  have kk1 : 1 ≤ kk := by omega
  have kk8 : kk ≤ 8 := by omega
  obtain ⟨n, hn⟩ : ∃ n, l0.length = n := ⟨_, rfl⟩
  have hnm : n ≤ maxLen := by rw [← hn]; exact R0.2.2
  unfold maxLen at hnm
  have HN := Lib.hid hn
  rw [hn]
  have HR := R0.1
  clear hn R0
  go_enter Try.func5, Try.ntmps5
  go_wp2_with fail
  go_loopw [5, 6, 7] (fun v s i wr => ∃ (k m : Nat) (M : List L4.Fd) (last : Int) (A1 : Option Addr) (c1 : Nat), k ≤ n ∧ m ≤ 64 ∧ i = .int .i64 k ∧ s = .int .i64 last ∧ v = .slice A1 m c1 ∧ Hid (M.length = m) ∧ Hid (Up M last) ∧ Hid (wr.ownsRow w.heap.size 43 5 (.slice A1 m c1) m (rowF M)) ∧ Below w.heap.size w wr) (fun _ _ i _ => n - (intOf i).toNat)
  case atStart => exact ⟨0, 0, [], -1, some ⟨w.heap.size, 0, none⟩, 0, by omega, by omega, rfl, rfl, rfl, Lib.hid rfl, Lib.hid Up.nil, Lib.hid (by simpa [rowF] using World.ownsRow_made (size := 5) w #[] 0 (Nat.le_refl _) (by unfold maxLen; omega) rfl), one_box _⟩
  case round =>
    obtain ⟨k, m, M, last, A1, c1, hk, hm64, rfl, rfl, rfl, hm, hu, hown, hbel⟩ := hrel
    by_cases hlt : k < n ∧ m < 64
    · obtain ⟨h1, h2⟩ := hlt
      obtain ⟨g, go, rfl, hg, hcells⟩ := HR.out (by rw [HN.out]; omega)
      obtain ⟨⟨o, r⟩, hf⟩ : ∃ s, l0[k]? = some s := ⟨_, List.getElem?_eq_getElem (by rw [HN.out]; omega)⟩
      have d0 := (hbel.cell (p := ⟨g, go + k * 5, none⟩) hg).trans (hcells k _ hf).1
      dsimp only at d0
      have k0 : (0 : Int) ≤ (k : Int) := by omega
      have k1 : (k : Int) < (n : Int) := by omega
      clear hcells hf
      by_cases q1 : last < o
      · by_cases q2 : o < 1099511627776
        · have HU := Lib.hid (hu.out.next q1 q2 (by rw [hm.out]; exact h2))
          go_wp2_with (first
            | (at_builtin; have _q := hv1; refine wpList_append_own _ rfl _ _ 37 (by rfl) w.heap.size 43 i0 _ 5 56 Try.underlying37 hi0 hz0 hz1 hz2 rfl (by omega) _ m _ (by rfl) (HO.out.alloc _) ⟨w1.heap.size, 0, none⟩ 1 1 [.int .i64 o, .bool false, .string ⟨#[]⟩, .bool false, .string ⟨#[118]⟩] (by rfl) (by rfl) (World.news_of_block (cs := #[.int .i64 o, .bool false, .string ⟨#[]⟩, .bool false, .string ⟨#[118]⟩]) (t := 43) (fr := (0, 0)) (heap_alloc_new w1 _)) (by simp [Value.oneCell']) (by unfold maxLen; omega) (by omega) (by simp; have := hbw.size; omega) ?_; intro v1 w2 hown1 hgrow1 hnil1)
            | (go_at_call 19; refine (v_any _).mono ?_; rintro e w1 ⟨rfl, hv1⟩; have HO := Lib.hid (own_below hown.out hv1); have hbw := hbel.trans (hv1.mono hbel.size)))
          obtain ⟨A2, c2, rfl⟩ := own_form hown1
          go_roundw
          case rel => exact ⟨k + 1, m + 1, M ++ [⟨o, rV⟩], o, A2, c2, by omega, by omega, by go_num, rfl, rfl, Lib.hid (by rw [List.length_append, hm.out]; rfl), HU, Lib.hid (by rw [rowF_app]; exact hown1), (hbw.alloc hbw.size _).grown hgrow1 (by simp; have := hbw.size; omega) (fun j e => (HO.out.lt j e).1)⟩
          case measure => simp [intOf]; omega
        · go_wp2_with fail
          go_roundw
          case rel => exact ⟨k + 1, m, M, last, A1, c1, by omega, by omega, by go_num, rfl, rfl, hm, hu, hown, hbel⟩
          case measure => simp [intOf]; omega
      · go_wp2_with fail
        go_roundw
        case rel => exact ⟨k + 1, m, M, last, A1, c1, by omega, by omega, by go_num, rfl, rfl, hm, hu, hown, hbel⟩
        case measure => simp [intOf]; omega
    · by_cases hkn : k < n
      · have h64 : ¬ (m : Int) < 64 := by omega
        have hkn2 : (k : Int) < (n : Int) := by omega
        clear hlt hkn
        have hl64 : M.length ≤ 64 := hu.out.len
        have HL64 := Lib.hid hl64
        have HRI := Lib.hid hu.out.whole
        have SM : Hid (∀ f ∈ M, f.r.key.size ≤ maxLen ∧ f.r.val.size ≤ maxLen) := Lib.hid (fun f hf => by rw [hu.out.rec_ f hf]; decide)
        have HPZ : Hid (posF M 0 = 0) := Lib.hid (pos_zero hu.out.whole)
        have HLD := Lib.hid hu.out.load
        clear hl64
        go_wp2_with (go_at_call 22; refine (load_yes 0 1099511627776 A1 M m c1 wr.heap.size w wr (Lib.hid hbel) (Lib.hid (reads_own hm.out hown.out)) (Nat.le_refl _) hm.out (by unfold maxLen; omega) SM HLD).mono ?_; rintro e w3 ⟨g, rfl, hm3, hb3⟩; have M3 := Lib.hid hm3; have O3 := Lib.hid (own_below hown.out hb3); clear hm3)
        clear hkk ekk
        go_loopw [11, 12, 13] (fun a v i wr => ∃ (j p : Nat) (at_ : Int) (A2 : Option Addr) (c2 : Nat), j ≤ p ∧ p ≤ m ∧ i = .int .i64 j ∧ a = .int .i64 at_ ∧ v = .slice A2 p c2 ∧ 0 ≤ at_ ∧ at_ ≤ 1099511627776 ∧ Hid (posF M at_ = p) ∧ Hid (wr.ownsRow w3.heap.size 43 5 (.slice A2 p c2) p (rowF (M.take p))) ∧ Below w3.heap.size w3 wr) (fun _ _ i _ => 65 - (intOf i).toNat)
        case atStart => exact ⟨0, 0, 0, some ⟨w3.heap.size, 0, none⟩, 0, by omega, by omega, rfl, rfl, rfl, by omega, by omega, HPZ, Lib.hid (by simpa [rowF] using World.ownsRow_made (size := 5) w3 #[] 0 (Nat.le_refl _) (by unfold maxLen; omega) rfl), one_box _⟩
        case round =>
          obtain ⟨j, p, at_, A2, c2, hjp, hpm, rfl, rfl, rfl, ha0, ha1, hpos, hown2, hb2⟩ := hrel
          have hj65 : (j : Int) < 65 := by omega
          have M4 := Lib.hid (M3.out.below' hb2)
          obtain ⟨q, hq⟩ : ∃ q, min kk (m - p) = q := ⟨_, rfl⟩
          have hrd := read_some (c := (kk : Int)) hu.out.whole hpos.out
          rw [Int.toNat_natCast] at hrd
          have HRD := Lib.hid hrd
          have HX : Hid ((readL M at_ kk).length = q) := Lib.hid (by rw [HRD.out, List.length_take, List.length_drop, hm.out]; exact hq)
          have hqk : (q : Int) ≤ (kk : Int) := by omega
          have O4 := Lib.hid (own_below O3.out hb2)
          have HZ3 := Lib.hid hb2.size
          by_cases hq0 : q = 0
          · obtain rfl : p = m := by omega
            have q1 : ((q : Int) == 0) = true := by rw [hq0]; rfl
            have HT : Hid (M.take p = M) := Lib.hid (List.take_of_length_le (by rw [hm.out]; omega))
            have HOA : Hid (wr.ownsRow w3.heap.size 43 5 (.slice A2 p c2) p (rowF M)) := Lib.hid (by have := hown2.out; rwa [HT.out] at this)
            have HR0 := Lib.hid (read_no M 0 (c := 0) (by decide))
            have HR1 := Lib.hid (read_no M 0 (c := -1) (by decide))
            have HR9 := Lib.hid (read_all hu.out.whole hu.out.len)
            clear hq hrd hq0
            go_wp2_with (first
              | (go_at_call 21; have _q := MA; refine (fixed5_any _).mono ?_; rintro e wz ⟨rfl, hbz⟩)
              | (go_at_call 14; have _q := M9; refine (found_same A9 A1 M p c9 c1 _ (Lib.hid (reads_own hm.out O9.out)) (Lib.hid (reads_own hm.out P9.out)) hm.out (by unfold maxLen; omega)).mono ?_; rintro e wa ⟨rfl, hba⟩; have MA := Lib.hid (M9.out.below' hba))
              | (go_at_call 13; have _q := M8; refine (mine_read M8 (-5) 99 HL64.out HRI).mono ?_; rw [HR9.out]; rintro e w9 ⟨A9, c9, rfl, hown9, hb9⟩; rw [hm.out] at hown9 ⊢; have M9 := Lib.hid (M8.out.below' hb9); have O9 := Lib.hid hown9; have P9 := Lib.hid (own_below P8.out hb9); clear hown9)
              | (go_at_call 13; have _q := M7; refine (mine_read M7 0 (-1) HL64.out HRI).mono ?_; rw [HR1.out]; rintro e w8 ⟨A8, c8, rfl, hown8, hb8⟩; have M8 := Lib.hid (M7.out.below' hb8); have P8 := Lib.hid (own_below P7.out hb8); clear hown8)
              | (go_at_call 13; have _q := M6; refine (mine_read M6 0 0 HL64.out HRI).mono ?_; rw [HR0.out]; rintro e w7 ⟨A7, c7, rfl, hown7, hb7⟩; have M7 := Lib.hid (M6.out.below' hb7); have P7 := Lib.hid (own_below P6.out hb7); clear hown7)
              | (go_at_call 14; have _q := M5; refine (found_same A2 A1 M p c2 c1 _ (Lib.hid (reads_own hm.out O5.out)) (Lib.hid (reads_own hm.out P5.out)) hm.out (by unfold maxLen; omega)).mono ?_; rintro e w6 ⟨rfl, hb6⟩; have M6 := Lib.hid (M5.out.below' hb6); have P6 := Lib.hid (own_below P5.out hb6))
              | (go_at_call 13; refine (mine_read M4 at_ kk HL64.out HRI).mono ?_; rintro e w4 ⟨A4, c4, rfl, hown4, hb4⟩; rw [HX.out] at hown4 ⊢; have M5 := Lib.hid (M4.out.below' hb4); have O5 := Lib.hid (own_below HOA.out hb4); have P5 := Lib.hid (own_below O4.out hb4); clear hown4))
            go_ret
            exact ⟨rfl, MA.out.old.trans (hbz.mono MA.out.old.size)⟩
          · obtain ⟨r, hr⟩ : ∃ r, q = r + 1 := ⟨q - 1, by omega⟩
            have q1 : ((q : Int) == 0) = false := by simpa using hq0
            have HQP : Hid (0 < q) := Lib.hid (by omega)
            obtain ⟨f, hf⟩ : ∃ f, M[p + r]? = some f := ⟨_, List.getElem?_eq_getElem (by rw [hm.out]; omega)⟩
            have hx : (readL M at_ kk)[r]? = some f := by rw [HRD.out, List.getElem?_take_of_lt (by omega), List.getElem?_drop]; exact hf
            have hoo := rise_mem hu.out.whole f (List.mem_of_getElem? hf)
            have HPN := Lib.hid (pos_next hu.out.whole hf)
            have HXR := Lib.hid hx
            have HTK : Hid (rowF (M.take p) ++ rowF (readL M at_ kk) = rowF (M.take (p + q))) := Lib.hid (by rw [HRD.out, ← rowF_app, take_min hm.out hq])
            have HL5 : Hid ((rowF (readL M at_ kk)).length = q * 5) := Lib.hid (by rw [rowF_len, HX.out])
            have H15 := Lib.hid (rowF_one (readL M at_ kk))
            obtain ⟨o, ho⟩ : ∃ o, f.o = o := ⟨_, rfl⟩
            have HO := Lib.hid ho
            rw [ho] at hoo
            obtain ⟨o0, o1⟩ := hoo
            have e1 : wrap64 ((q : Int) - 1) = (r : Int) := by simp only [wrap64]; omega
            have e2 : (q : Int) - 1 = (r : Int) := by omega
            have e3 : wrap64 (o + 1) = o + 1 := by simp only [wrap64]; omega
            have r0 : (0 : Int) ≤ (r : Int) := by omega
            have r1 : (r : Int) < (q : Int) := by omega
            have hpq : p + q ≤ m := by omega
            have HR := Lib.hid hr
            clear hq hrd hq0 hf hx ho hr
            go_wp2_with (first
              | (at_builtin; have _q := hb4; refine wpList_append_own _ rfl (.tmp 83) (.tmp 84) 37 (by rfl) w3.heap.size 43 i0 _ 5 56 Try.underlying37 hi0 hz0 hz1 hz2 rfl (by omega) _ p (rowF (M.take p)) (by rfl) (own_below hown2.out hb4) ⟨xb, 0, none⟩ q c4 (rowF (readL M at_ kk)) (by rfl) HL5.out (At.own HO4.out) H15.out (by unfold maxLen; omega) (by omega) (Nat.le_trans HZ3.out hb4.size) ?_; intro v1 w5 hown5 hgrow5 hnil5; have d0 := hgrow5.cell (last_cell HO4.out HXR.out HO.out) (fun e => by have := (hown2.out.lt xb e.symm).2; omega))
              | (go_at_call 13; refine (mine_read M4 at_ kk HL64.out HRI).mono ?_; rintro e w4 ⟨A4, c4, rfl, hown4, hb4⟩; rw [HX.out] at hown4 ⊢; obtain ⟨xb, xc, hxv, hxb, _⟩ := hown4.form HQP.out; injection hxv with e1 e2 e3; subst e1 e3; have HO4 := Lib.hid hown4; clear hown4))
            rw [HTK.out] at hown5
            obtain ⟨A5, c5, rfl⟩ := own_form hown5
            go_roundw
            case rel => exact ⟨j + 1, p + q, o + 1, A5, c5, by omega, by omega, by go_num, rfl, rfl, by omega, by omega, Lib.hid (by rw [← HO.out, HPN.out, HR.out]; omega), Lib.hid hown5, (hb2.trans (hb4.mono HZ3.out)).grown hgrow5 (Nat.le_trans HZ3.out hb4.size) (fun j e => (hown2.out.lt j e).1)⟩
            case measure => simp [intOf]; omega
      · have hkn2 : ¬ (k : Int) < (n : Int) := by omega
        clear hlt hkn
        have hl64 : M.length ≤ 64 := hu.out.len
        have HL64 := Lib.hid hl64
        have HRI := Lib.hid hu.out.whole
        have SM : Hid (∀ f ∈ M, f.r.key.size ≤ maxLen ∧ f.r.val.size ≤ maxLen) := Lib.hid (fun f hf => by rw [hu.out.rec_ f hf]; decide)
        have HPZ : Hid (posF M 0 = 0) := Lib.hid (pos_zero hu.out.whole)
        have HLD := Lib.hid hu.out.load
        clear hl64
        go_wp2_with (go_at_call 22; refine (load_yes 0 1099511627776 A1 M m c1 wr.heap.size w wr (Lib.hid hbel) (Lib.hid (reads_own hm.out hown.out)) (Nat.le_refl _) hm.out (by unfold maxLen; omega) SM HLD).mono ?_; rintro e w3 ⟨g, rfl, hm3, hb3⟩; have M3 := Lib.hid hm3; have O3 := Lib.hid (own_below hown.out hb3); clear hm3)
        clear hkk ekk
        go_loopw [11, 12, 13] (fun a v i wr => ∃ (j p : Nat) (at_ : Int) (A2 : Option Addr) (c2 : Nat), j ≤ p ∧ p ≤ m ∧ i = .int .i64 j ∧ a = .int .i64 at_ ∧ v = .slice A2 p c2 ∧ 0 ≤ at_ ∧ at_ ≤ 1099511627776 ∧ Hid (posF M at_ = p) ∧ Hid (wr.ownsRow w3.heap.size 43 5 (.slice A2 p c2) p (rowF (M.take p))) ∧ Below w3.heap.size w3 wr) (fun _ _ i _ => 65 - (intOf i).toNat)
        case atStart => exact ⟨0, 0, 0, some ⟨w3.heap.size, 0, none⟩, 0, by omega, by omega, rfl, rfl, rfl, by omega, by omega, HPZ, Lib.hid (by simpa [rowF] using World.ownsRow_made (size := 5) w3 #[] 0 (Nat.le_refl _) (by unfold maxLen; omega) rfl), one_box _⟩
        case round =>
          obtain ⟨j, p, at_, A2, c2, hjp, hpm, rfl, rfl, rfl, ha0, ha1, hpos, hown2, hb2⟩ := hrel
          have hj65 : (j : Int) < 65 := by omega
          have M4 := Lib.hid (M3.out.below' hb2)
          obtain ⟨q, hq⟩ : ∃ q, min kk (m - p) = q := ⟨_, rfl⟩
          have hrd := read_some (c := (kk : Int)) hu.out.whole hpos.out
          rw [Int.toNat_natCast] at hrd
          have HRD := Lib.hid hrd
          have HX : Hid ((readL M at_ kk).length = q) := Lib.hid (by rw [HRD.out, List.length_take, List.length_drop, hm.out]; exact hq)
          have hqk : (q : Int) ≤ (kk : Int) := by omega
          have O4 := Lib.hid (own_below O3.out hb2)
          have HZ3 := Lib.hid hb2.size
          by_cases hq0 : q = 0
          · obtain rfl : p = m := by omega
            have q1 : ((q : Int) == 0) = true := by rw [hq0]; rfl
            have HT : Hid (M.take p = M) := Lib.hid (List.take_of_length_le (by rw [hm.out]; omega))
            have HOA : Hid (wr.ownsRow w3.heap.size 43 5 (.slice A2 p c2) p (rowF M)) := Lib.hid (by have := hown2.out; rwa [HT.out] at this)
            have HR0 := Lib.hid (read_no M 0 (c := 0) (by decide))
            have HR1 := Lib.hid (read_no M 0 (c := -1) (by decide))
            have HR9 := Lib.hid (read_all hu.out.whole hu.out.len)
            clear hq hrd hq0
            go_wp2_with (first
              | (go_at_call 21; have _q := MA; refine (fixed5_any _).mono ?_; rintro e wz ⟨rfl, hbz⟩)
              | (go_at_call 14; have _q := M9; refine (found_same A9 A1 M p c9 c1 _ (Lib.hid (reads_own hm.out O9.out)) (Lib.hid (reads_own hm.out P9.out)) hm.out (by unfold maxLen; omega)).mono ?_; rintro e wa ⟨rfl, hba⟩; have MA := Lib.hid (M9.out.below' hba))
              | (go_at_call 13; have _q := M8; refine (mine_read M8 (-5) 99 HL64.out HRI).mono ?_; rw [HR9.out]; rintro e w9 ⟨A9, c9, rfl, hown9, hb9⟩; rw [hm.out] at hown9 ⊢; have M9 := Lib.hid (M8.out.below' hb9); have O9 := Lib.hid hown9; have P9 := Lib.hid (own_below P8.out hb9); clear hown9)
              | (go_at_call 13; have _q := M7; refine (mine_read M7 0 (-1) HL64.out HRI).mono ?_; rw [HR1.out]; rintro e w8 ⟨A8, c8, rfl, hown8, hb8⟩; have M8 := Lib.hid (M7.out.below' hb8); have P8 := Lib.hid (own_below P7.out hb8); clear hown8)
              | (go_at_call 13; have _q := M6; refine (mine_read M6 0 0 HL64.out HRI).mono ?_; rw [HR0.out]; rintro e w7 ⟨A7, c7, rfl, hown7, hb7⟩; have M7 := Lib.hid (M6.out.below' hb7); have P7 := Lib.hid (own_below P6.out hb7); clear hown7)
              | (go_at_call 14; have _q := M5; refine (found_same A2 A1 M p c2 c1 _ (Lib.hid (reads_own hm.out O5.out)) (Lib.hid (reads_own hm.out P5.out)) hm.out (by unfold maxLen; omega)).mono ?_; rintro e w6 ⟨rfl, hb6⟩; have M6 := Lib.hid (M5.out.below' hb6); have P6 := Lib.hid (own_below P5.out hb6))
              | (go_at_call 13; refine (mine_read M4 at_ kk HL64.out HRI).mono ?_; rintro e w4 ⟨A4, c4, rfl, hown4, hb4⟩; rw [HX.out] at hown4 ⊢; have M5 := Lib.hid (M4.out.below' hb4); have O5 := Lib.hid (own_below HOA.out hb4); have P5 := Lib.hid (own_below O4.out hb4); clear hown4))
            go_ret
            exact ⟨rfl, MA.out.old.trans (hbz.mono MA.out.old.size)⟩
          · obtain ⟨r, hr⟩ : ∃ r, q = r + 1 := ⟨q - 1, by omega⟩
            have q1 : ((q : Int) == 0) = false := by simpa using hq0
            have HQP : Hid (0 < q) := Lib.hid (by omega)
            obtain ⟨f, hf⟩ : ∃ f, M[p + r]? = some f := ⟨_, List.getElem?_eq_getElem (by rw [hm.out]; omega)⟩
            have hx : (readL M at_ kk)[r]? = some f := by rw [HRD.out, List.getElem?_take_of_lt (by omega), List.getElem?_drop]; exact hf
            have hoo := rise_mem hu.out.whole f (List.mem_of_getElem? hf)
            have HPN := Lib.hid (pos_next hu.out.whole hf)
            have HXR := Lib.hid hx
            have HTK : Hid (rowF (M.take p) ++ rowF (readL M at_ kk) = rowF (M.take (p + q))) := Lib.hid (by rw [HRD.out, ← rowF_app, take_min hm.out hq])
            have HL5 : Hid ((rowF (readL M at_ kk)).length = q * 5) := Lib.hid (by rw [rowF_len, HX.out])
            have H15 := Lib.hid (rowF_one (readL M at_ kk))
            obtain ⟨o, ho⟩ : ∃ o, f.o = o := ⟨_, rfl⟩
            have HO := Lib.hid ho
            rw [ho] at hoo
            obtain ⟨o0, o1⟩ := hoo
            have e1 : wrap64 ((q : Int) - 1) = (r : Int) := by simp only [wrap64]; omega
            have e2 : (q : Int) - 1 = (r : Int) := by omega
            have e3 : wrap64 (o + 1) = o + 1 := by simp only [wrap64]; omega
            have r0 : (0 : Int) ≤ (r : Int) := by omega
            have r1 : (r : Int) < (q : Int) := by omega
            have hpq : p + q ≤ m := by omega
            have HR := Lib.hid hr
            clear hq hrd hq0 hf hx ho hr
            go_wp2_with (first
              | (at_builtin; have _q := hb4; refine wpList_append_own _ rfl (.tmp 83) (.tmp 84) 37 (by rfl) w3.heap.size 43 i0 _ 5 56 Try.underlying37 hi0 hz0 hz1 hz2 rfl (by omega) _ p (rowF (M.take p)) (by rfl) (own_below hown2.out hb4) ⟨xb, 0, none⟩ q c4 (rowF (readL M at_ kk)) (by rfl) HL5.out (At.own HO4.out) H15.out (by unfold maxLen; omega) (by omega) (Nat.le_trans HZ3.out hb4.size) ?_; intro v1 w5 hown5 hgrow5 hnil5; have d0 := hgrow5.cell (last_cell HO4.out HXR.out HO.out) (fun e => by have := (hown2.out.lt xb e.symm).2; omega))
              | (go_at_call 13; refine (mine_read M4 at_ kk HL64.out HRI).mono ?_; rintro e w4 ⟨A4, c4, rfl, hown4, hb4⟩; rw [HX.out] at hown4 ⊢; obtain ⟨xb, xc, hxv, hxb, _⟩ := hown4.form HQP.out; injection hxv with e1 e2 e3; subst e1 e3; have HO4 := Lib.hid hown4; clear hown4))
            rw [HTK.out] at hown5
            obtain ⟨A5, c5, rfl⟩ := own_form hown5
            go_roundw
            case rel => exact ⟨j + 1, p + q, o + 1, A5, c5, by omega, by omega, by go_num, rfl, rfl, by omega, by omega, Lib.hid (by rw [← HO.out, HPN.out, HR.out]; omega), Lib.hid hown5, (hb2.trans (hb4.mono HZ3.out)).grown hgrow5 (Nat.le_trans HZ3.out hb4.size) (fun j e => (hown2.out.lt j e).1)⟩
            case measure => simp [intOf]; omega


set_option maxRecDepth 100000 in
theorem lifted (os : Os) (started : os.Started) (H : Type) (enc : TypeId × Value → H) :
    ReturnsInHanded {} Try.checked os 5 .any (Rows.segmentReadsSpec.pre6 enc Try.prog Try.f5 Rows.segmentReadsRow.domain false) (Rows.segmentReadsSpec.post enc Try.prog Try.f5 false true false false) := by
  refine returnsInHanded_of_change (C := Try.checked) own started (by kernel_rfl) Try.func5
    (ChangeSpec.witness6 (enc := enc) (C := Try.checked) false ⟨#[], #[.slice none 0 0, .int .i64 0], []⟩ 8 (by kernel_rfl) (by kernel_rfl) (by kernel_rfl) (by kernel_rfl)) ?_
  intro W base args ds gs before hval0 hW _ _
  have hval : ∀ (j : Nat) t v, Try.f5.params[j]? = some t → args[j]? = some v → Value.okWide Try.prog W .any base t v := hval0
  have hW' := hW
  obtain ⟨p, q, hA0, hV, rfl, hfz, hnd⟩ := hW
  have hA : DataW.TrodAll enc Try.prog W 0 (fun _ => true) true Try.f5.params.toList args.toList ds p := hA0
  rw [Try.params5] at hA hval
  obtain ⟨v0, vs0, d0, ds0, p0, q0, hargs, rfl, rfl, h0, r0⟩ := trodAll_cons hA
  obtain ⟨v1, vs1, d1, ds1, p1, q1, rfl, rfl, rfl, h1, r1⟩ := trodAll_cons r0
  obtain ⟨rfl, rfl, rfl⟩ := trodAll_nil r1
  obtain rfl : args = #[v0, v1] := by cases args; simp_all
  obtain ⟨rfl, rfl⟩ := trodVars_none hV
  have k0 := h0
  have lt0 : ∀ x ∈ p0, x.block < W.heap.size := by obtain ⟨m, hm⟩ := k0; exact DataW.trod_lt m _ _ _ hm
  have k1 := h1
  have lt1 : ∀ x ∈ p1, x.block < W.heap.size := by obtain ⟨m, hm⟩ := k1; exact DataW.trod_lt m _ _ _ hm
  obtain ⟨A0, l0, c0, e0, R0⟩ := L5.open_fds (hval 0 37 v0 rfl rfl) h0
  subst e0
  obtain ⟨a1, e1, _, _, w1⟩ := open_int Try.underlying3 (hval 1 3 v1 rfl rfl) h1
  subst e1
  clear hA0 hval0
  refine (walk W A0 l0 c0 R0 a1 w1).mono fun e W' ⟨he, bel⟩ => ?_
  subst he
  exact ⟨_, rfl, _, _, _, [], _, [], hW', trodAll_mk1 (shut_bool Try.underlying4 _), (trodAll_cons_mk (Below.trod laidOut (by kernel_rfl) (of_decide_eq_true (by kernel_rfl)) k0 bel lt0) (trodAll_cons_mk (Below.trod laidOut (by kernel_rfl) (of_decide_eq_true (by kernel_rfl)) k1 bel lt1) trodAll_mk0)), rfl, bel.frame _, fun h => by cases h⟩

theorem over : Rows.segmentReadsRow.holds Try.pinned (OpenSpec.ofChange Rows.segmentReadsSpec) :=
  OpenClaim.holds_of_wide 5 Try.f5 rfl rfl rfl rfl rfl rfl rfl ⟨rfl, rfl, rfl, rfl, rfl⟩ rfl rfl rfl rfl rfl (by kernel_rfl) Try.func5 (by kernel_rfl)
    (of_decide_eq_true (by kernel_rfl)) (by unfold Func.isWrapper; first | (rw [if_pos (by decide +kernel)]; kernel_rfl) | (rw [if_neg (by decide +kernel)]; exact ⟨rfl, rfl⟩))
    (fun os started H enc _ => lifted os started H enc)

/-- the statement -/
theorem proved : Rows.SegmentReadsSaid :=
  over
#print axioms proved
end Go.Proofs.Ytjmfhpombkkgmaa.segmentReads
