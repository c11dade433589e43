/-
  The statement GroupExpires, without conditions: at a time just those are out that were silent for their Timeout, or longer; who beat in time stays.
-/
import Derived.Test.YtidgifnnkaheeaaRows
import Derived.WalkKit
import Derived.ProofKit
import Derived.OpenShut
import Derived.ShutString
import Derived.ChangeOld
import Derived.Below
import Derived.Test.YtidgifnnkaheeaaGpAt
import Derived.Test.YtidgifnnkaheeaaMGpMine
import Derived.Test.YtidgifnnkaheeaaGpOpen
import Derived.LoopTactic
import Derived.IntWalk
namespace Go.Proofs.Ytidgifnnkaheeaa.groupExpires
open Go.ChangeShapes Go.WideShapes Go.ChangeAt Go.RowKit Go.Deep
open Go.ChangeMaps (open_string shut_string)
open L3 L4 L9 L10 L11

theorem own : ownKnob Try.prog.godebug = none := by kernel_rfl
theorem laidOut : laidOutB Try.prog = true := by kernel_rfl

theorem mask_le (m : Nat) (hm : m < 9223372036854775808) (x : Int) : 0 ≤ bits .and .i64 x (m : Int) ∧ bits .and .i64 x (m : Int) ≤ m := by
  have e : (BitVec.ofInt 64 x &&& BitVec.ofInt 64 (m : Int)).toNat ≤ m := by
    rw [BitVec.toNat_and]
    refine Nat.le_trans Nat.and_le_right ?_
    rw [BitVec.ofInt_natCast, BitVec.toNat_ofNat, Nat.mod_eq_of_lt (by omega)]
    exact Nat.le_refl _
  show 0 ≤ IntKind.i64.wrap ((BitVec.ofInt 64 x &&& BitVec.ofInt 64 (m : Int)).toNat : Int) ∧ IntKind.i64.wrap ((BitVec.ofInt 64 x &&& BitVec.ofInt 64 (m : Int)).toNat : Int) ≤ m
  rw [IntWalk.i64_in _ (by omega)]
  omega
/-- the names -/
def ns : List ByteArray := [⟨#[97]⟩, ⟨#[98]⟩, ⟨#[99]⟩, ⟨#[100]⟩, ⟨#[101]⟩, ⟨#[102]⟩, ⟨#[103]⟩, ⟨#[104]⟩]
/-- a member's seat: its time is told by a number; it was heard at sn -/
def se (t : Nat → Int) (sn : Nat → Int) (i : Nat) (x : ByteArray) : Se := ⟨⟨x, [cT]⟩, t i, sn i⟩
/-- the first so many of them -/
def qN (t : Nat → Int) (sn : Nat → Int) (n : Nat) : List Se := (ns.take n).mapIdx (fun i x => se t sn i x)
theorem qN_len (t sn : Nat → Int) {n : Nat} (h : n ≤ 8) : (qN t sn n).length = n := by
  unfold qN; rw [List.length_mapIdx, List.length_take]; show min n 8 = n; omega
theorem ns_at {i : Nat} (h : i < 8) : ∃ x, ns[i]? = some x := ⟨_, List.getElem?_eq_getElem h⟩
theorem qN_at (t sn : Nat → Int) {n i : Nat} {x : ByteArray} (hi : i < n) (h : ns[i]? = some x) : (qN t sn n)[i]? = some (se t sn i x) := by
  unfold qN
  rw [List.getElem?_mapIdx, List.getElem?_take_of_lt hi, h]
  rfl
theorem qN_next (t sn : Nat → Int) {n : Nat} {x : ByteArray} (h : ns[n]? = some x) : qN t sn (n + 1) = qN t sn n ++ [se t sn n x] := by
  unfold qN
  rw [List.take_add_one, h, Option.toList_some, List.mapIdx_append]
  have : (ns.take n).length = n := by have := (List.getElem?_eq_some_iff.1 h).1; rw [List.length_take]; omega
  rw [this]
  simp
theorem mem_qN {t sn : Nat → Int} {n : Nat} {s : Se} (h : s ∈ qN t sn n) : ∃ i x, i < n ∧ ns[i]? = some x ∧ s = se t sn i x := by
  obtain ⟨i, hi, rfl⟩ := List.mem_iff_getElem.1 h
  have h8 : i < n ∧ i < 8 := by unfold qN at hi; rw [List.length_mapIdx, List.length_take] at hi; have : ns.length = 8 := rfl; omega
  obtain ⟨x, hx⟩ := ns_at h8.2
  have := qN_at t sn h8.1 hx
  rw [List.getElem?_eq_getElem hi] at this
  exact ⟨i, x, h8.1, hx, by injection this⟩
section
set_option maxRecDepth 100000
theorem n_size {i : Nat} {x : ByteArray} (h : ns[i]? = some x) : x.size ≤ 16 ∧ nameB x = true := by
  match i, h with
  | 0, h => simp [ns] at h; subst h; exact ⟨by decide, by decide⟩
  | 1, h => simp [ns] at h; subst h; exact ⟨by decide, by decide⟩
  | 2, h => simp [ns] at h; subst h; exact ⟨by decide, by decide⟩
  | 3, h => simp [ns] at h; subst h; exact ⟨by decide, by decide⟩
  | 4, h => simp [ns] at h; subst h; exact ⟨by decide, by decide⟩
  | 5, h => simp [ns] at h; subst h; exact ⟨by decide, by decide⟩
  | 6, h => simp [ns] at h; subst h; exact ⟨by decide, by decide⟩
  | 7, h => simp [ns] at h; subst h; exact ⟨by decide, by decide⟩
  | i + 8, h => simp [ns] at h
theorem n_rise : ns.Pairwise (fun a b => lessB a b = true) := by
  unfold ns
  repeat (first | exact List.Pairwise.nil | exact absurd hy List.not_mem_nil | refine List.pairwise_cons.2 ⟨fun y hy => ?_, ?_⟩ | (simp only [List.mem_cons, List.not_mem_nil, or_false] at hy; (rcases hy with rfl | rfl | rfl | rfl | rfl | rfl | rfl | rfl <;> decide)))
end
theorem n_less {i j : Nat} {x y : ByteArray} (hij : i < j) (hx : ns[i]? = some x) (hy : ns[j]? = some y) : lessB x y = true := by
  obtain ⟨a, rfl⟩ := List.getElem?_eq_some_iff.1 hx
  obtain ⟨b, rfl⟩ := List.getElem?_eq_some_iff.1 hy
  exact List.pairwise_iff_getElem.1 n_rise i j a b hij

/-! ### the numbers -/
def tF (l : List Int) (i : Nat) : Int := 1 + bits .and .i64 (l.getD i 0) 255
theorem tF_in (l : List Int) (i : Nat) : 1 ≤ tF l i ∧ tF l i ≤ 256 := by
  have h : 0 ≤ bits .and .i64 (l.getD i 0) 255 ∧ bits .and .i64 (l.getD i 0) 255 ≤ 255 := mask_le 255 (by decide) (l.getD i 0)
  unfold tF
  exact ⟨by omega, by omega⟩
theorem tF_at {l : List Int} {i : Nat} {x : Int} (h : l[i]? = some x) : tF l i = 1 + bits .and .i64 x 255 := by
  unfold tF
  rw [List.getD_eq_getElem?_getD, h]; rfl
def z0 : Nat → Int := fun _ => 0
/-- when each was heard, behind so many rounds -/
def snB (at' : Int) (i : Nat) : Nat → Int := fun j => if j < i ∧ j % 2 = 0 then at' else 0
theorem snB_zero (at' : Int) : snB at' 0 = z0 := by funext j; unfold snB z0; rw [if_neg (by omega)]
theorem snB_odd (at' : Int) {i : Nat} (h : i % 2 = 1) : snB at' (i + 1) = snB at' i := by
  funext j; unfold snB
  by_cases hj : j < i ∧ j % 2 = 0
  · rw [if_pos hj, if_pos ⟨by omega, hj.2⟩]
  · rw [if_neg hj, if_neg (by omega)]
theorem snB_in (at' : Int) (ha : 0 ≤ at' ∧ at' ≤ 65535) (i j : Nat) : 0 ≤ snB at' i j ∧ snB at' i j ≤ 65535 := by unfold snB; split <;> omega
theorem se_may {t sn : Nat → Int} {i : Nat} {x : ByteArray} (ht : 1 ≤ t i ∧ t i ≤ 256) (hs : 0 ≤ sn i ∧ sn i ≤ 65535) (hx : ns[i]? = some x) : mayS (se t sn i x) = true := by
  unfold mayS se wB topN
  simp only [Bool.and_eq_true, decide_eq_true_eq]
  exact ⟨⟨⟨⟨(n_size hx).2, by decide⟩, by omega⟩, by omega, by omega⟩, by omega, by omega⟩
theorem qN_rise (t sn : Nat → Int) (n : Nat) : RiseS (qN t sn n) := by
  refine List.pairwise_iff_getElem.2 fun i j hi hj hij => ?_
  have h8 : j < n ∧ j < 8 := by unfold qN at hj; rw [List.length_mapIdx, List.length_take] at hj; have : ns.length = 8 := rfl; omega
  obtain ⟨x, hx⟩ := ns_at (show i < 8 by omega)
  obtain ⟨y, hy⟩ := ns_at h8.2
  have q1 := qN_at t sn (show i < n by omega) hx
  have q2 := qN_at t sn h8.1 hy
  rw [List.getElem?_eq_getElem hi] at q1
  rw [List.getElem?_eq_getElem hj] at q2
  injection q1 with q1; injection q2 with q2
  rw [q1, q2]
  exact n_less hij hx hy
theorem qN_join {t sn : Nat → Int} {i : Nat} {x : ByteArray} (hx : ns[i]? = some x) (ht : 1 ≤ t i ∧ t i ≤ 256) (hs : 0 ≤ sn i ∧ sn i ≤ 65535) : joinE i false (qN t sn i) (se t sn i x) false = 0 ∧ joinQ (qN t sn i) (se t sn i x) 0 = qN t sn (i + 1) := by
  have hi : i < 8 := (List.getElem?_eq_some_iff.1 hx).1
  constructor
  · unfold joinE
    rw [se_may ht hs hx, if_neg (by simp), if_neg (by simp), if_neg (by
      unfold fullB
      rw [qN_len t sn (by omega), decide_eq_false (by omega)]
      simp; omega)]
  · show putS _ _ = _
    rw [qN_next t sn hx]
    refine put_last (fun y hy => ?_)
    obtain ⟨j, z, hj, hz, rfl⟩ := mem_qN hy
    exact n_less hj hz hx
theorem qN_has {t sn : Nat → Int} {n i : Nat} {x : ByteArray} (hi : i < n) (hx : ns[i]? = some x) : hasS (qN t sn n) x = true := hasS_mem.2 ⟨_, List.mem_of_getElem? (qN_at t sn hi hx), rfl⟩
theorem n_inj {i j : Nat} {x : ByteArray} (hx : ns[i]? = some x) (hy : ns[j]? = some x) : i = j := by
  rcases Nat.lt_trichotomy i j with h | h | h
  · exact absurd (n_less h hx hy) (by rw [less_irr]; simp)
  · exact h
  · exact absurd (n_less h hy hx) (by rw [less_irr]; simp)
theorem qN_beat {t : Nat → Int} {n i : Nat} {x : ByteArray} {at' : Int} (ha : 0 ≤ at' ∧ at' ≤ 65535) (hi : i < n) (hx : ns[i]? = some x) (h2 : i % 2 = 0) : beatE n (qN t (snB at' i) n) x n at' = 0 ∧ beatQ (qN t (snB at' i) n) x at' 0 = qN t (snB at' (i + 1)) n := by
  constructor
  · unfold beatE fenceE
    rw [if_neg (by unfold wB topN; simp; omega), qN_has hi hx, if_neg (by simp), if_pos rfl]
  · unfold beatQ
    rw [if_pos rfl]
    unfold qN
    apply List.ext_getElem?
    intro j
    rw [List.getElem?_map, List.getElem?_mapIdx, List.getElem?_mapIdx]
    cases hj : (ns.take n)[j]? with
    | none => rfl
    | some y =>
      have hy : ns[j]? = some y := by rw [List.getElem?_take] at hj; split at hj; exact hj; cases hj
      simp only [Option.map_some]
      congr 1
      unfold beatS se
      by_cases e : y = x
      · subst e
        obtain rfl := n_inj hx hy
        rw [if_pos rfl]
        unfold snB
        simp only [h2]
        simp; omega
      · rw [if_neg e]
        have hne : j ≠ i := fun q => by subst q; rw [hx] at hy; injection hy with hy; exact e hy.symm
        unfold snB
        congr 1
        by_cases q : j < i ∧ j % 2 = 0
        · rw [if_pos q, if_pos ⟨by omega, q.2⟩]
        · rw [if_neg q, if_neg (by omega)]
/-- those that are late -/
def lateL (t : Nat → Int) (at' : Int) : Nat → List ByteArray
  | 0 => []
  | i + 1 => lateL t at' i ++ (if i % 2 = 1 ∧ t i ≤ at' then [ns.getD i ⟨#[]⟩] else [])
theorem late_len (t : Nat → Int) (at' : Int) : ∀ i, (lateL t at' i).length ≤ i
  | 0 => Nat.le_refl _
  | i + 1 => by
    have := late_len t at' i
    unfold lateL
    rw [List.length_append]
    split <;> simp <;> omega
theorem late_gone {t : Nat → Int} {at' : Int} (ha : 0 ≤ at') (ht : ∀ i, 1 ≤ t i) (n : Nat) : ∀ k, k ≤ n → k ≤ 8 → goneQ (lateB at') (qN t (snB at' n) k) = lateL t at' k
  | 0, _, _ => rfl
  | k + 1, hk, h8 => by
    obtain ⟨x, hx⟩ := ns_at (show k < 8 by omega)
    have ih := late_gone ha ht n k (by omega) (by omega)
    rw [qN_next t _ hx]
    unfold goneQ at ih ⊢
    rw [List.filter_append, List.map_append, ih]
    show _ = lateL t at' k ++ _
    congr 1
    have hb : lateB at' (se t (snB at' n) k x) = decide (k % 2 = 1 ∧ t k ≤ at') := by
      unfold lateB se snB
      have := ht k
      rw [decide_eq_decide]
      dsimp only
      by_cases e : k % 2 = 0
      · rw [if_pos ⟨by omega, e⟩]; omega
      · rw [if_neg (by omega)]; omega
    have hg : ns.getD k ⟨#[]⟩ = x := by rw [List.getD_eq_getElem?_getD, hx]; rfl
    by_cases e : k % 2 = 1 ∧ t k ≤ at'
    · rw [if_pos e, hg, List.filter_cons_of_pos (by rw [hb]; simpa using e)]; rfl
    · rw [if_neg e, List.filter_cons_of_neg (by rw [hb]; simpa using e)]; rfl
theorem stay_len (p : Se → Bool) (Q : List Se) : (stayQ p Q).length + (goneQ p Q).length = Q.length := by
  induction Q with
  | nil => rfl
  | cons a t ih =>
    unfold stayQ goneQ at ih ⊢
    rw [List.length_map] at ih ⊢
    cases e : p a
    · rw [List.filter_cons_of_pos (by simp [e]), List.filter_cons_of_neg (by simp [e])]; simp only [List.length_cons]; omega
    · rw [List.filter_cons_of_neg (by simp [e]), List.filter_cons_of_pos (by simp [e])]; simp only [List.length_cons]; omega
theorem stay_none (p : Se → Bool) (Q : List Se) : goneQ p (stayQ p Q) = [] := by
  unfold goneQ stayQ
  rw [List.filter_filter]
  simp
/-- the names' row -/
def Row8 (w : World) (gn : Nat) : Prop := w.heap[gn]? = some (.cells #[.string ⟨#[97]⟩, .string ⟨#[98]⟩, .string ⟨#[99]⟩, .string ⟨#[100]⟩, .string ⟨#[101]⟩, .string ⟨#[102]⟩, .string ⟨#[103]⟩, .string ⟨#[104]⟩] 9 (0, 0))
theorem Row8.cell {w : World} {gn i : Nat} {x : ByteArray} (h : Row8 w gn) (hx : ns[i]? = some x) : w.cell? ⟨gn, i, none⟩ = some (.string x) := by
  match i, hx with
  | 0, hx => simp [ns] at hx; subst hx; exact (cell_of_row _ _ 0 _ _ _ h).trans rfl
  | 1, hx => simp [ns] at hx; subst hx; exact (cell_of_row _ _ 1 _ _ _ h).trans rfl
  | 2, hx => simp [ns] at hx; subst hx; exact (cell_of_row _ _ 2 _ _ _ h).trans rfl
  | 3, hx => simp [ns] at hx; subst hx; exact (cell_of_row _ _ 3 _ _ _ h).trans rfl
  | 4, hx => simp [ns] at hx; subst hx; exact (cell_of_row _ _ 4 _ _ _ h).trans rfl
  | 5, hx => simp [ns] at hx; subst hx; exact (cell_of_row _ _ 5 _ _ _ h).trans rfl
  | 6, hx => simp [ns] at hx; subst hx; exact (cell_of_row _ _ 6 _ _ _ h).trans rfl
  | 7, hx => simp [ns] at hx; subst hx; exact (cell_of_row _ _ 7 _ _ _ h).trans rfl
  | i + 8, hx => simp [ns] at hx

theorem ga_to {R W wr : World} {g b gl N : Nat} {G : Int} {r : Bool} {Q : List Se} (h : At.GA R W wr g b N G r Q) (o : Only [g, b, gl] R wr) (hn : NoTxt R [g, b]) (hl : R.heap[gl]? = some (.cells #[] 9 (0, 0))) : GM W wr g b N G r Q := by
  refine ⟨⟨h.gp.row, ?_⟩, h.good, h.hg, h.hb, h.bel⟩
  obtain ⟨D, ho, hd⟩ := h.gp.map
  refine ⟨D, ho, hd.1, fun q hq => ?_⟩
  obtain ⟨A, c, h1, h2⟩ := hd.2 q hq
  refine ⟨A, c, h1, ⟨fun h0 => ?_, h2.room, h2.nil⟩⟩
  obtain ⟨gq, cs, fr, e, hg, hc⟩ := h2.row h0
  have hne : gq ∉ [g, b, gl] := fun hm => by
    simp only [List.mem_cons, List.not_mem_nil, or_false] at hm
    rcases hm with rfl | rfl | rfl
    · exact hn _ (by simp) cs fr hg
    · exact hn _ (by simp) cs fr hg
    · obtain ⟨x, hx⟩ : ∃ x, q.m.ts[0]? = some x := ⟨_, List.getElem?_eq_getElem h0⟩
      have h3 := hc 0 x hx
      have h4 := (cell_of_row _ _ 0 _ _ _ hl)
      rw [h3] at h4
      cases h4
  exact ⟨gq, cs, fr, e, (o.block gq (Array.getElem?_eq_some_iff.1 hg).1 hne).trans hg, fun i s hs => o.cell (hc i s hs) hne⟩
theorem rtexts_n (A A' : Option Addr) (l l' : List ByteArray) (n n' cap cap' : Nat) (v : Bool) (w : World) (hn : Hid (l.length = n)) (hn' : Hid (l'.length = n')) (hR : Hid (RowT w A cap l)) (hR' : Hid (RowT w A' cap' l')) (hl : Hid (l.length ≤ maxLen)) (HV : Hid (v = true ↔ l = l')) :
    Calls Try.prog 31 #[.slice A n cap, .slice A' n' cap'] w fun e w' => e = .returned (.bool v) ∧ Below w.heap.size w w' := by
  rw [← hn.out, ← hn'.out]
  exact rtexts_is A A' l l' cap cap' _ v w (Lib.hid hR.out.row.reads) (Lib.hid hR'.out.row.reads) (Nat.le_refl _) hl.out HV
set_option maxRecDepth 100000 in
set_option maxHeartbeats 16000000 in
theorem walk (W : World) (A0 : Option Addr) (l0 : List Int) (c0 : Nat) (R0 : Hid (RowsO numC 1 W A0 l0)) (_S0 : Hid (∀ r ∈ l0, (Lit.int .i64 r).wf = true)) (Z0 : l0.length ≤ maxLen) (a1 : Int) (_ : (Lit.int .i64 a1).wf = true) :
    Calls Try.prog 6 #[.slice A0 l0.length c0, .int .i64 a1] W fun e w' => e = .returned (.bool true) ∧ Below W.heap.size W w' := by
  obtain ⟨ln, hln⟩ : ∃ n, l0.length = n := ⟨_, rfl⟩
  have HLN := Lib.hid hln
  rw [hln] at Z0 ⊢
  have Z0 : ln ≤ 9223372036854775807 := by unfold maxLen at Z0; omega
  obtain ⟨n, hn⟩ : ∃ n : Nat, min (ln : Int) 8 = (n : Int) := ⟨min ln 8, by omega⟩
  have hn8 : n ≤ 8 := by omega
  have hnl : n ≤ ln := by omega
  have HAT0 : 0 ≤ bits .and .i64 a1 65535 ∧ bits .and .i64 a1 65535 ≤ 65535 := mask_le 65535 (by decide) a1
  obtain ⟨at', hat⟩ : ∃ y, bits .and .i64 a1 65535 = y := ⟨_, rfl⟩
  rw [hat] at HAT0
  have HAT := Lib.hid HAT0
  have HN8 := Lib.hid hn8
  have HNL := Lib.hid hnl
  clear HAT0 hln hn8 hnl
  go_enter Try.func6, Try.ntmps6
  go_wp2_with (go_at_call 21; refine (m_new W W (Below.refl _ _)).mono ?_; rintro e w1 ⟨g, b, rfl, h1, -⟩; have H1 := Lib.hid h1; clear h1)
  have hr1 := heap_alloc_new w1 (.cells #[.string ⟨#[97]⟩, .string ⟨#[98]⟩, .string ⟨#[99]⟩, .string ⟨#[100]⟩, .string ⟨#[101]⟩, .string ⟨#[102]⟩, .string ⟨#[103]⟩, .string ⟨#[104]⟩] 9)
  have hb1 := one_box' (w := w1) (.cells #[.string ⟨#[97]⟩, .string ⟨#[98]⟩, .string ⟨#[99]⟩, .string ⟨#[100]⟩, .string ⟨#[101]⟩, .string ⟨#[102]⟩, .string ⟨#[103]⟩, .string ⟨#[104]⟩] 9)
  have e1 : (w1.alloc (.cells #[.string ⟨#[97]⟩, .string ⟨#[98]⟩, .string ⟨#[99]⟩, .string ⟨#[100]⟩, .string ⟨#[101]⟩, .string ⟨#[102]⟩, .string ⟨#[103]⟩, .string ⟨#[104]⟩] 9)).heap.size = w1.heap.size + 1 := by simp
  obtain ⟨Wm, hWm⟩ : ∃ Wm, w1.alloc (.cells #[.string ⟨#[97]⟩, .string ⟨#[98]⟩, .string ⟨#[99]⟩, .string ⟨#[100]⟩, .string ⟨#[101]⟩, .string ⟨#[102]⟩, .string ⟨#[103]⟩, .string ⟨#[104]⟩] 9) = Wm := ⟨_, rfl⟩
  rw [hWm] at hr1 hb1 e1 ⊢
  have hr2 := heap_alloc_new Wm (.cells #[] 9)
  have hb2 := one_box' (w := Wm) (.cells #[] 9)
  obtain ⟨W2, hW2⟩ : ∃ W2, Wm.alloc (.cells #[] 9) = W2 := ⟨_, rfl⟩
  obtain ⟨gn, hgn⟩ : ∃ gn, w1.heap.size = gn := ⟨_, rfl⟩
  obtain ⟨gl, hgl⟩ : ∃ gl, gn + 1 = gl := ⟨_, rfl⟩
  rw [hW2] at hr2 hb2 ⊢
  rw [e1] at hr2
  rw [hgn] at hr1 hr2 ⊢
  rw [hgl] at hr2 ⊢
  have H2 := Lib.hid ((H1.out.below hb1).below hb2)
  have HRN := Lib.hid (show Row8 W2 gn from (hb2.block gn (by omega)).trans hr1)
  have HRL := Lib.hid hr2
  have HNG : Hid (gn ∉ [g, b] ∧ gl ∉ [g, b] ∧ g < gl ∧ b < gl ∧ gn < gl) := Lib.hid (by have := H1.out.lt; simp; omega)
  obtain ⟨t, ht⟩ : ∃ t, tF l0 = t := ⟨_, rfl⟩
  have HTI : Hid (∀ i, 1 ≤ t i ∧ t i ≤ 256) := Lib.hid (by rw [← ht]; exact tF_in l0)
  have HTF := Lib.hid ht
  clear hr1 hb1 e1 hWm hr2 hb2 hW2 hgn hgl hn hat H1 ht
  go_loopw [10] (fun i wr => ∃ j : Nat, j ≤ n ∧ i = .int .i64 j ∧ Hid (GM W wr g b j j false (qN t z0 j)) ∧ Hid (Row8 wr gn ∧ wr.heap[gl]? = some (.cells #[] 9 (0, 0)))) (fun i _ => n - (intOf i).toNat)
  case atStart => exact ⟨0, by omega, rfl, Lib.hid H2.out, Lib.hid ⟨HRN.out, HRL.out⟩⟩
  case round =>
    obtain ⟨j, hj, rfl, HG, HRW⟩ := hrel
    by_cases hlt : j < n
    · obtain ⟨x, hx⟩ := ns_at (show j < 8 by have := HN8.out; omega)
      obtain ⟨y, hy⟩ : ∃ y, l0[j]? = some y := ⟨_, List.getElem?_eq_getElem (by have := HNL.out; have := HLN.out; omega)⟩
      have HX := Lib.hid hx
      have d0 := HRW.out.1.cell hx
      obtain ⟨ga, oa, rfl, hga, hca⟩ := R0.out (by have := HNL.out; have := HLN.out; omega)
      have c0' := hca j y hy 0 _ rfl
      rw [Nat.mul_one, Nat.add_zero] at c0'
      have dt := (HG.out.bel.cell (p := ⟨ga, oa + j, none⟩) hga).trans c0'
      obtain ⟨mm, hmm⟩ : ∃ mm, bits .and .i64 y 255 = mm := ⟨_, rfl⟩
      obtain ⟨tj, htj⟩ : ∃ tj, t j = tj := ⟨_, rfl⟩
      have hti := HTI.out j
      have htm : 1 + mm = tj := by rw [← htj, ← HTF.out, tF_at hy, hmm]
      have hw1 : wrap64 (1 + mm) = tj := by rw [htm]; simp only [wrap64]; omega
      have HTJ := Lib.hid htj
      have j0 : (0 : Int) ≤ (j : Int) := by omega
      have j8 : (j : Int) < 8 := by have := HN8.out; omega
      have j1 : (j : Int) < (n : Int) := by omega
      have jl : (j : Int) < (ln : Int) := by have := HNL.out; omega
      have jN : j ≤ 1000000 := by have := HN8.out; omega
      clear hx hy hca c0' htj hti htm
      go_upto_region 10 with (go_at_call 32; refine (lseat_is x _).mono ?_; rintro e w3 ⟨A3, d3, rfl, ht3, hb3⟩)
      have hr4 := heap_alloc_new w3 (.cells #[.string x, .slice A3 1 d3, .int .i64 5, .int .i64 0] 47)
      have hb4 := one_box' (w := w3) (.cells #[.string x, .slice A3 1 d3, .int .i64 5, .int .i64 0] 47)
      obtain ⟨W4, hW4⟩ : ∃ W4, w3.alloc (.cells #[.string x, .slice A3 1 d3, .int .i64 5, .int .i64 0] 47) = W4 := ⟨_, rfl⟩
      rw [hW4] at hr4 hb4
      have f4 : W4.frozen? ⟨w3.heap.size, 2, none⟩ = false := frozen_of_row _ _ _ _ _ hr4
      have g4 : W4.cell? ⟨w3.heap.size, 2, none⟩ = some (.int .i64 5) := (cell_of_row _ _ 2 _ _ _ hr4).trans rfl
      have dt4 := cell_b hb4 (cell_b hb3 dt)
      obtain ⟨W5, hW5⟩ : ∃ W5, W4.setCell ⟨w3.heap.size, 2, none⟩ (.int .i64 tj) = W5 := ⟨_, rfl⟩
      have hr5 : W5.heap[w3.heap.size]? = some (.cells #[.string x, .slice A3 1 d3, .int .i64 tj, .int .i64 0] 47 (0, 0)) := hW5 ▸ heap_setCell_same _ _ _ _ _ _ hr4
      have hb5 : Below w3.heap.size w3 W5 := hW5 ▸ hb4.setCell (Nat.le_refl _) _
      have i0 := (cell_of_row _ _ 0 _ _ _ hr5).trans rfl
      have i1 := (cell_of_row _ _ 1 _ _ _ hr5).trans rfl
      have i2 := (cell_of_row _ _ 2 _ _ _ hr5).trans rfl
      have i3 := (cell_of_row _ _ 3 _ _ _ hr5).trans rfl
      have HT5 := Lib.hid (ht3.below hb5)
      have hB5 := hb3.trans (hb5.mono hb3.size)
      have H5 := Lib.hid (HG.out.below hB5)
      have HR5 : Hid (Row8 W5 gn ∧ W5.heap[gl]? = some (.cells #[] 9 (0, 0))) := Lib.hid ⟨(hB5.block gn (Array.getElem?_eq_some_iff.1 HRW.out.1).1).trans HRW.out.1, (hB5.block gl (Array.getElem?_eq_some_iff.1 HRW.out.2).1).trans HRW.out.2⟩
      clear ht3 hb3 hr4 hb4 hr5 hb5 hB5
      rw [hW4]
      obtain ⟨bh, hbh⟩ : ∃ bh, w3.heap.size = bh := ⟨_, rfl⟩
      rw [hbh] at f4 g4 hW5 i0 i1 i2 i3 ⊢
      go_wp2_with (first
        | (go_at_call 24; refine (m_join (n := 1) (se t z0 j x) x A3 tj 0 0 ((j : Int) + 1) false H5 jN (Lib.hid ⟨rfl, rfl, HTJ.out, rfl⟩) HT5 (Lib.hid ⟨by have := (n_size HX.out).1; show x.size ≤ _; omega, fun y hy => by simp [se] at hy; subst hy; decide⟩) (by decide) (Lib.hid (qN_join HX.out (HTI.out j) (by unfold z0; omega)).1) (Lib.hid (by rw [if_pos rfl]))).mono ?_; rintro e w6 ⟨rfl, h6, ho6⟩; have H6 : Hid (GM W w6 g b (j + 1) (j + 1 : Nat) false (qN t z0 (j + 1))) := Lib.hid (by
            have e1 : joinG (j : Int) 0 = ((j + 1 : Nat) : Int) := by unfold joinG; rw [if_pos rfl]; omega
            rw [e1, (qN_join HX.out (HTI.out j) (by unfold z0; omega)).2] at h6
            exact h6); have HR6 : Hid (Row8 w6 gn ∧ w6.heap[gl]? = some (.cells #[] 9 (0, 0))) := Lib.hid ⟨(ho6.block gn (Array.getElem?_eq_some_iff.1 HR5.out.1).1 HNG.out.1).trans HR5.out.1, (ho6.block gl (Array.getElem?_eq_some_iff.1 HR5.out.2).1 HNG.out.2.1).trans HR5.out.2⟩; clear h6 ho6))
      go_roundw
      case rel => exact ⟨j + 1, by omega, by go_num, H6, HR6⟩
      case measure => simp [intOf]; omega
    · obtain rfl : j = n := by omega
      obtain ⟨R, hR⟩ : ∃ R, wr = R := ⟨_, rfl⟩
      rw [hR] at HG HRW ⊢
      have HGA : Hid (At.GA R W R g b j j false (qN t (snB at' 0) j)) := Lib.hid (by rw [snB_zero]; exact .of HG.out)
      have HOW : Hid (R.ownsRow gl 9 1 (.slice (some ⟨gl, 0, none⟩) 0 0) 0 []) := Lib.hid ⟨rfl, .inr ⟨gl, 0, #[], rfl, Nat.le_refl _, HRW.out.2, by decide, by decide, by decide, rfl⟩⟩
      obtain ⟨i1, hi1, hy0, hy1, hy2⟩ := info_parts L11.strInfo
      have HROWL := HRW
      have HNT : Hid (NoTxt R [g, b]) := Lib.hid HG.out.gp.noTxt
      clear hR HG
      go_wp2_with fail
      go_loopw [8, 14] (fun v8 i wr => ∃ (i' N : Nat) (A : Option Addr) (L c : Nat), i' ≤ j ∧ N ≤ j + i' ∧ L ≤ i' ∧ i = .int .i64 i' ∧ v8 = .slice A L c ∧ Hid ((lateL t at' i').length = L ∧ wr.ownsRow gl 9 1 (.slice A L c) L ((lateL t at' i').map (fun x => Value.string x)) ∧ (∀ k ∈ bk A, k = gl ∨ R.heap.size ≤ k)) ∧ Hid (At.GA R W wr g b N j false (qN t (snB at' i') j)) ∧ Hid (Row8 wr gn) ∧ Hid (Only [g, b, gl] R wr)) (fun _ i _ => j - (intOf i).toNat)
      case atStart => exact ⟨0, j, some ⟨gl, 0, none⟩, 0, 0, by omega, by omega, by omega, rfl, rfl, Lib.hid ⟨rfl, HOW.out, fun k hk => .inl (by simpa [bk] using hk)⟩, HGA, Lib.hid HRW.out.1, Lib.hid (Only.refl _ _)⟩
      case round =>
        obtain ⟨i, N, A, L, c, hi, hN, hL, rfl, rfl, HLA, HG, HRN2, HON⟩ := hrel
        by_cases hlt : i < j
        · obtain ⟨x, hx⟩ := ns_at (show i < 8 by have := HN8.out; omega)
          obtain ⟨y, hy⟩ : ∃ y, l0[i]? = some y := ⟨_, List.getElem?_eq_getElem (by have := HNL.out; have := HLN.out; omega)⟩
          have HX := Lib.hid hx
          have d0 := HRN2.out.cell hx
          have j0 : (0 : Int) ≤ (i : Int) := by omega
          have j8 : (i : Int) < 8 := by have := HN8.out; omega
          have j1 : (i : Int) < (j : Int) := by omega
          have jl : (i : Int) < (ln : Int) := by have := HNL.out; omega
          have HLT := Lib.hid hlt
          by_cases h2 : i % 2 = 0
          · have m0 : (i : Int) % 2 = 0 := by omega
            have m1 : (i : Int).tmod 2 = 0 := by rw [Int.tmod_eq_emod_of_nonneg j0]; exact m0
            have HM2 := Lib.hid h2
            clear hx hy h2
            have HBT := Lib.hid (qN_beat (t := t) HAT.out HLT.out HX.out HM2.out)
            have HXS : Hid (x.size ≤ maxLen) := Lib.hid (by have := (n_size HX.out).1; unfold maxLen; omega)
            have hN1 : N ≤ 1000000 := by have := HN8.out; omega
            go_wp2_with (go_at_call 29; refine (At.m_beat x j at' 0 HG hN1 HXS (Lib.hid HBT.out.1)).mono ?_; rintro e w3 ⟨rfl, h3, ho3⟩; have H3 : Hid (At.GA R W w3 g b (N + 1) j false (qN t (snB at' (i + 1)) j)) := Lib.hid (by rw [HBT.out.2] at h3; exact h3); have HLA3 : Hid ((lateL t at' (i + 1)).length = L ∧ w3.ownsRow gl 9 1 (.slice A L c) L ((lateL t at' (i + 1)).map (fun x => Value.string x)) ∧ (∀ k ∈ bk A, k = gl ∨ R.heap.size ≤ k)) := Lib.hid (by
                have e : lateL t at' (i + 1) = lateL t at' i := by
                  have := HM2.out
                  show lateL t at' i ++ _ = _
                  rw [if_neg (by omega), List.append_nil]
                rw [e]
                exact ⟨HLA.out.1, own_at HLA.out.2.1 (fun q hq => ho3.block q (HLA.out.2.1.lt q hq).2 (by have := (HLA.out.2.1.lt q hq).1; have := HNG.out; simp; omega)), HLA.out.2.2⟩); have HRN3 := Lib.hid (show Row8 w3 gn from (ho3.block gn (Array.getElem?_eq_some_iff.1 HRN2.out).1 HNG.out.1).trans HRN2.out); have HON3 : Hid (Only [g, b, gl] R w3) := Lib.hid (HON.out.trans ho3 (fun q hq => .inl (by simp at hq ⊢; omega))); clear h3 ho3)
            go_roundw
            case rel => exact ⟨i + 1, N + 1, A, L, c, by omega, by omega, by omega, by go_num, rfl, HLA3, H3, HRN3, HON3⟩
            case measure => simp [intOf]; omega
          · have h3 : i % 2 = 1 := by omega
            have m0 : (i : Int) % 2 = 1 := by omega
            have m1 : (i : Int).tmod 2 = 1 := by rw [Int.tmod_eq_emod_of_nonneg j0]; exact m0
            have HM2 := Lib.hid h3
            obtain ⟨ga, oa, rfl, hga, hca⟩ := R0.out (by have := HNL.out; have := HLN.out; omega)
            have c0' := hca i y hy 0 _ rfl
            rw [Nat.mul_one, Nat.add_zero] at c0'
            have dt := (HG.out.bel.cell (p := ⟨ga, oa + i, none⟩) hga).trans c0'
            obtain ⟨mm, hmm⟩ : ∃ mm, bits .and .i64 y 255 = mm := ⟨_, rfl⟩
            obtain ⟨ti, hti⟩ : ∃ tj, t i = tj := ⟨_, rfl⟩
            have hti' := HTI.out i
            have htm : 1 + mm = ti := by rw [← hti, ← HTF.out, tF_at hy, hmm]
            have hw1 : wrap64 (1 + mm) = ti := by rw [htm]; simp only [wrap64]; omega
            have HTJ := Lib.hid hti
            have HGE : Hid (At.GA R W wr g b N j false (qN t (snB at' (i + 1)) j)) := Lib.hid (by rw [snB_odd at' HM2.out]; exact HG.out)
            have hg0 : ns.getD i ⟨#[]⟩ = x := by rw [List.getD_eq_getElem?_getD, hx]; rfl
            have HG0 := Lib.hid hg0
            clear hx hy h2 h3 hca c0' hti hti' htm hg0
            by_cases hle : ti ≤ at'
            · have HLE := Lib.hid hle
              have HNX : Hid (lateL t at' (i + 1) = lateL t at' i ++ [x]) := Lib.hid (by
                show lateL t at' i ++ _ = _
                rw [if_pos ⟨HM2.out, by rw [HTJ.out]; exact HLE.out⟩, HG0.out])
              go_wp2_with (at_builtin; refine wpList_append_lies _ rfl _ _ 38 (by rfl) gl 9 i1 _ 1 16 Try.underlying38 hi1 hy0 hy1 hy2 rfl (by decide) (.slice A L c) L ((lateL t at' i).map (fun x => Value.string x)) (by rfl) (HLA.out.2.1.alloc _) ⟨wr.heap.size, 0, none⟩ 1 1 [.string x] (by rfl) (by rfl) (cell_one_new _ _ _) (by simp [Value.oneCell']) (by decide) (by unfold maxLen; have := HN8.out; omega) (by have := HN8.out; omega) (by have := HG.out.lt; have := HNG.out; have := (Array.getElem?_eq_some_iff.1 HRN2.out).1; have := HON.out.size; have := (Array.getElem?_eq_some_iff.1 HROWL.out.2).1; simp; omega) (wr.heap.size + 1) (by simp) ?_; intro gg cc w5 hown5 hgrow5 hat5 hlt5)
              have HKK : Hid (∀ q, (Value.slice A L c).ownBlock = some q → q = gl ∨ R.heap.size ≤ q) := Lib.hid (fun q hq => HLA.out.2.2 q (mem_bk.2 (by rw [blk_own] at hq; exact hq)))
              have HLB : Hid (∀ q, (Value.slice A L c).ownBlock = some q → gl ≤ q) := Lib.hid (fun q hq => (HLA.out.2.1.lt q hq).1)
              have hbk : ∀ q, q < wr.heap.size → q < gl → w5.heap[q]? = wr.heap[q]? := fun q h1 h2 =>
                (hgrow5.block q (by simp; omega) (fun e => by have := HLB.out q e.symm; omega)).trans ((one_box' _).block q h1)
              have HLA5 : Hid ((lateL t at' (i + 1)).length = L + 1 ∧ w5.ownsRow gl 9 1 (.slice (some ⟨gg, 0, none⟩) (L + 1) cc) (L + 1) ((lateL t at' (i + 1)).map (fun x => Value.string x)) ∧ (∀ k ∈ bk (some (⟨gg, 0, none⟩ : Addr)), k = gl ∨ R.heap.size ≤ k)) := Lib.hid ⟨by rw [HNX.out, List.length_append, HLA.out.1]; rfl, by rw [HNX.out, List.map_append]; exact hown5, fun k hk => by
                have e : k = gg := by simpa [bk] using hk
                subst e
                rcases hat5 with q | q
                · exact HKK.out _ q
                · right; have := HON.out.size; omega⟩
              have HB5 : Hid (Below W.heap.size wr w5) := Lib.hid (((Below.refl W.heap.size wr).alloc HG.out.bel.size _).grown hgrow5 (by have := HG.out.bel.size; simp; omega) (fun q hq => by have := HLB.out q hq; have := HNG.out; have := HG.out.hg; omega))
              have H5 : Hid (At.GA R W w5 g b N j false (qN t (snB at' (i + 1)) j)) := Lib.hid (HGE.out.kept HB5.out (hbk g HG.out.lt.1 HNG.out.2.2.1) (hbk b HG.out.lt.2 HNG.out.2.2.2.1))
              have HRN5 := Lib.hid (show Row8 w5 gn from (hbk gn (Array.getElem?_eq_some_iff.1 HRN2.out).1 HNG.out.2.2.2.2).trans HRN2.out)
              have HON5 : Hid (Only [g, b, gl] R w5) := Lib.hid ((HON.out.alloc _).grown hgrow5 (fun q hq => (HKK.out q hq).imp (fun e => by simp [e]) id))
              clear hown5 hgrow5 hat5 hlt5 hbk
              go_roundw
              case rel => exact ⟨i + 1, N, _, L + 1, cc, by omega, by omega, by omega, by go_num, rfl, HLA5, H5, HRN5, HON5⟩
              case measure => simp [intOf]; omega
            · have HLE := Lib.hid hle
              have HLA5 : Hid ((lateL t at' (i + 1)).length = L ∧ wr.ownsRow gl 9 1 (.slice A L c) L ((lateL t at' (i + 1)).map (fun x => Value.string x)) ∧ (∀ k ∈ bk A, k = gl ∨ R.heap.size ≤ k)) := Lib.hid (by
                have e : lateL t at' (i + 1) = lateL t at' i := by
                  show lateL t at' i ++ _ = _
                  rw [if_neg (by rw [HTJ.out]; exact fun q => HLE.out q.2), List.append_nil]
                rw [e]; exact HLA.out)
              go_wp2_with fail
              go_roundw
              case rel => exact ⟨i + 1, N, A, L, c, by omega, by omega, by omega, by go_num, rfl, HLA5, HGE, HRN2, HON⟩
              case measure => simp [intOf]; omega
        · obtain rfl : i = j := by omega
          have HGM := Lib.hid (ga_to HG.out HON.out HNT.out HROWL.out.2)
          obtain ⟨LL, hLL⟩ : ∃ LL, lateL t at' i = LL := ⟨_, rfl⟩
          rw [hLL] at HLA
          have HLATE : Hid (goneQ (lateB at') (qN t (snB at' i) i) = LL) := Lib.hid (by rw [← hLL]; exact late_gone HAT.out.1 (fun q => (HTI.out q).1) i i (by omega) HN8.out)
          have HLL8 : Hid (L ≤ i) := Lib.hid hL
          obtain ⟨Qs, hQs⟩ : ∃ Qs, stayQ (lateB at') (qN t (snB at' i) i) = Qs := ⟨_, rfl⟩
          obtain ⟨gz, hgz⟩ : ∃ gz, goneG (lateB at') i (qN t (snB at' i) i) = gz := ⟨_, rfl⟩
          have HQL : Hid (Qs.length = i - L) := Lib.hid (by
            have h1 := stay_len (lateB at') (qN t (snB at' i) i)
            rw [HLATE.out, hQs, HLA.out.1, qN_len t _ HN8.out] at h1
            omega)
          have HQN : Hid (goneQ (lateB at') Qs = []) := Lib.hid (by rw [← hQs]; exact stay_none _ _)
          have HGZ : Hid (gz = if L = 0 then (i : Int) else (i : Int) + 1) := Lib.hid (by
            rw [← hgz]; unfold goneG upG
            rw [HLATE.out, HLA.out.1]
            have := HN8.out
            split <;> omega)
          have HTXL : Hid (LL.length ≤ maxLen) := Lib.hid (by rw [HLA.out.1]; have := HN8.out; unfold maxLen; omega)
          have HLLN : Hid (LL.length = L) := Lib.hid HLA.out.1
          have HEQ := Lib.hid (And.intro hQs hgz)
          have s1 : wrap64 ((i : Int) - (L : Int)) = ((i - L : Nat) : Int) := by have := HN8.out; simp only [wrap64]; omega
          obtain ⟨sl, hsl⟩ : ∃ sl, i - L = sl := ⟨_, rfl⟩
          rw [hsl] at HQL s1
          have hways : ((gz == (i : Int)) = true ∧ ((L : Int) == 0) = true) ∨ ((gz == (i : Int)) = false ∧ ((L : Int) == 0) = false) := by
            have := HGZ.out
            by_cases h0 : L = 0
            · left; rw [if_pos h0] at this; simp; omega
            · right; rw [if_neg h0] at this; simp; omega
          have HOWL := Lib.hid HLA.out.2.1
          have HTX : Hid (RowT wr A c LL) := Lib.hid (RowT.own HLA.out.2.1 HLA.out.1)
          have HLBK : Hid (∀ k ∈ bk A, k ∉ [g, b]) := Lib.hid (fun k hk => by
            obtain ⟨_, q, _⟩ := own_bk HLA.out.2.1 k hk
            have := HNG.out
            simp; omega)
          clear HLA HG HON hLL hQs hgz hsl hi hN hL
          rcases hways with ⟨v1, v2⟩ | ⟨v1, v2⟩
          all_goals
            go_wp2_with (first
              | (go_at_call 28; have _q := H24; refine (fixed11_any _).mono ?_; rintro e w25 ⟨rfl, hb25⟩; have H25 := Lib.hid (H24.out.below hb25); clear hb25)
              | (go_at_call 30; have _q := H23; refine (m_expire at' [] 0 H23 HQN (Lib.hid rfl)).mono ?_; rintro e w24 ⟨A24, d24, rfl, -, -, h24, -⟩; have H24 := Lib.hid h24; clear h24)
              | (go_at_call 26; have _q := H22; refine (m_seats sl H22 HQL).mono ?_; rintro e w23 ⟨A23, d23, vs, rfl, -, -, h23, -⟩; have H23 := Lib.hid h23; clear h23)
              | (go_at_call 31; have _q := H21; refine (rtexts_n A20 A LL LL L L c20 c true _ HLLN HLLN HT21 HTX21 HTXL (Lib.hid (by simp))).mono ?_; rintro e w22 ⟨rfl, hb22⟩; have H22 := Lib.hid (H21.out.below hb22); clear hb22)
              | (go_at_call 25; have _q := H20; refine (m_gen H20).mono ?_; rintro e w21 ⟨rfl, h21, hb21⟩; have H21 := Lib.hid h21; have HT21 := Lib.hid (HT20.out.below hb21); have HTX21 := Lib.hid (HTX20.out.below hb21); clear h21 hb21)
              | (go_at_call 30; refine (m_expire at' LL L HGM HLATE HLLN).mono ?_; rintro e w20 ⟨A20, c20, rfl, hr20, hk20, h20, ho20⟩; have HT20 := Lib.hid hr20; have HTX20 := Lib.hid (rowT_only HTX.out ho20 HLBK.out); have H20 : Hid (GM W w20 g b N gz false Qs) := Lib.hid (by rw [HEQ.out.1, HEQ.out.2] at h20; exact h20); clear hr20 hk20 h20 ho20))
            go_ret
            exact ⟨by simp, H25.out.bel⟩

set_option maxRecDepth 100000 in
set_option maxHeartbeats 1000000 in
theorem lifted (os : Os) (started : os.Started) (H : Type) (enc : TypeId × Value → H) :
    ReturnsInHanded {} Try.checked os 6 .any (Rows.groupExpiresSpec.pre6 enc Try.prog Try.f6 Rows.groupExpiresRow.domain false) (Rows.groupExpiresSpec.post enc Try.prog Try.f6 false true false false) := by
  refine returnsInHanded_of_change (C := Try.checked) own started (by kernel_rfl) Try.func6
    (ChangeSpec.witness6 (enc := enc) (C := Try.checked) false ⟨#[], #[.slice none 0 0, .int .i64 0], []⟩ 8 (by kernel_rfl) (by kernel_rfl) (by kernel_rfl) (by kernel_rfl)) ?_
  intro W base args ds gs before hval0 hW _ _
  have hval : ∀ (j : Nat) t v, Try.f6.params[j]? = some t → args[j]? = some v → Value.okWide Try.prog W .any base t v := hval0
  have hW' := hW
  obtain ⟨p, q, hA0, hV, rfl, hfz, hnd⟩ := hW
  have hA : DataW.TrodAll enc Try.prog W 0 (fun _ => true) true Try.f6.params.toList args.toList ds p := hA0
  rw [Try.params6] at hA hval
  obtain ⟨v0, vs0, d0, ds0, p0, q0, hargs, rfl, rfl, h0, r0⟩ := trodAll_cons hA
  obtain ⟨v1, vs1, d1, ds1, p1, q1, rfl, rfl, rfl, h1, r1⟩ := trodAll_cons r0
  obtain ⟨rfl, rfl, rfl⟩ := trodAll_nil r1
  obtain rfl : args = #[v0, v1] := by cases args; simp_all
  obtain ⟨rfl, rfl⟩ := trodVars_none hV
  have k0 := h0
  have lt0 : ∀ x ∈ p0, x.block < W.heap.size := by obtain ⟨m, hm⟩ := k0; exact DataW.trod_lt m _ _ _ hm
  have k1 := h1
  have lt1 : ∀ x ∈ p1, x.block < W.heap.size := by obtain ⟨m, hm⟩ := k1; exact DataW.trod_lt m _ _ _ hm
  obtain ⟨A0, l0, c0, e0, R0, S0, Z0⟩ := L11.open_ints (hval 0 67 v0 rfl rfl) h0
  subst e0
  obtain ⟨a1, e1, _, _, w1⟩ := open_int Try.underlying3 (hval 1 3 v1 rfl rfl) h1
  subst e1
  clear hA0 hval0
  refine (walk W A0 l0 c0 R0 S0 Z0 a1 w1).mono fun e W' ⟨he, bel⟩ => ?_
  subst he
  exact ⟨_, rfl, _, _, _, [], _, [], hW', trodAll_mk1 (shut_bool Try.underlying4 _), (trodAll_cons_mk (Below.trod laidOut (by kernel_rfl) (of_decide_eq_true (by kernel_rfl)) k0 bel lt0) (trodAll_cons_mk (Below.trod laidOut (by kernel_rfl) (of_decide_eq_true (by kernel_rfl)) k1 bel lt1) trodAll_mk0)), rfl, bel.frame _, fun h => by cases h⟩

theorem over : Rows.groupExpiresRow.holds Try.pinned (OpenSpec.ofChange Rows.groupExpiresSpec) :=
  OpenClaim.holds_of_wide 6 Try.f6 rfl rfl rfl rfl rfl rfl rfl ⟨rfl, rfl, rfl, rfl, rfl⟩ rfl rfl rfl rfl rfl (by kernel_rfl) Try.func6 (by kernel_rfl)
    (of_decide_eq_true (by kernel_rfl)) (by unfold Func.isWrapper; first | (rw [if_pos (by decide +kernel)]; kernel_rfl) | (rw [if_neg (by decide +kernel)]; exact ⟨rfl, rfl⟩))
    (fun os started H enc _ => lifted os started H enc)

/-- the statement -/
theorem proved : Rows.GroupExpiresSaid :=
  over
#print axioms proved
end Go.Proofs.Ytidgifnnkaheeaa.groupExpires
