/-
  Contracts: marks, put in order.
-/
import Derived.Test.YtcpfihagcmadcaaOfOrder
namespace Go.Proofs.Ytcpfihagcmadcaa.L12
open Go.RowKit
open Go.Maps
open Go.Sort (HoldsK putRowK PermIn SortedIn SWO grow)
open L3 L4

instance : Inhabited Mr := ⟨⟨⟨#[]⟩, ⟨#[]⟩, 0, 0⟩⟩
/-- the order, as the library's sort asks it -/
def cfM (x y : Mr) : Int := ordR x y
theorem lt_cf (x y : Mr) : ltOf cfM x y = befR x y := rfl
theorem swoM : SWO (ltOf cfM) where
  irrefl x := by rw [lt_cf]; exact bef_irrefl _
  trans x y z h1 h2 := by rw [lt_cf] at *; exact bef_trans h1 h2
  ntrans x y z h1 h2 := by
    rw [lt_cf] at *
    cases h3 : befR x z
    · rfl
    · exfalso
      cases h4 : befR y x
      · have := bef_total h1 h4
        rw [bef_same (a := x) (b := z) (a' := y) (b' := z) this ⟨rfl, rfl, rfl⟩, h2] at h3; cases h3
      · have := bef_trans h4 h3
        rw [h2] at this; cases this
theorem cmpM (blk off size : Nat) (w : World) : CmpLays Try.prog 29 #[] mkC 4 cfM blk off size w :=
  fun _ _ _ _ x y => (order_is x y (cfM x y) _ (Lib.hid rfl)).mono fun _ _ ⟨he, q, os', hq⟩ => ⟨he, q, os', hq⟩
theorem aggM (w : World) : (isAgg 32).run Try.prog w = .ok true w := Try.isAgg32 w
theorem sizeM (w : World) : (Go.sizeOf 32).run Try.prog w = .ok 4 w := Try.sizeOf32 w
theorem flat_row {l : List Mr} {j : Nat} (h : j < l.length * 4) : (rowM l)[j]? = some ((Go.Sort.flatK mkC 4 l.toArray)[j]!) := by
  have hi : j / 4 < l.length := by omega
  obtain ⟨v, hv⟩ : ∃ v, l[j / 4]? = some v := ⟨_, List.getElem?_eq_getElem hi⟩
  have hm : j % 4 < (mkC v).length := by simp [mkC]; omega
  have hr := rowM_at hv (j % 4) _ (List.getElem?_eq_getElem hm)
  have e : j / 4 * 4 + j % 4 = j := by omega
  rw [e] at hr
  rw [hr, Go.Sort.get_flatK _ _ _ _ (by simpa using h)]
  have e1 : l.toArray[j / 4]! = v := by
    have := (List.getElem?_eq_some_iff.1 hv).2
    simp [hi, this]
  rw [e1, getElem!_pos (mkC v) (j % 4) hm]
theorem holdsM {w : World} {base n c blk : Nat} {T : TypeId} {l : List Mr} (h : w.ownsRow base T 4 (.slice (some ⟨blk, 0, none⟩) n c) n (rowM l)) : HoldsK mkC 4 w blk 0 l.toArray := fun j hj => by
  have hj' : j < l.length * 4 := by simpa using hj
  have hc := h.cells (g := blk) rfl j _ (flat_row hj')
  rw [Addr.add_lit] at hc
  exact ⟨hc, h.frozenAt _⟩
/-- behind the sort -/
theorem sortedW {w w' : World} {blk q : Nat} {cs : Array Value} {T : TypeId} {d d' : Array Mr} {os : Array Obj} (hh : HoldsK mkC 4 w blk 0 d) (hb : w.heap[blk]? = some (.cells cs T (0, 0))) (hs : d'.size = d.size) (hw : w' = sortWorldK mkC 4 w blk 0 q d' os) :
    HoldsK mkC 4 w' blk 0 d' ∧ (∃ cs', w'.heap[blk]? = some (.cells cs' T (0, 0)) ∧ cs'.size = cs.size) ∧ Only [blk] w w' := by
  have hlt := (Array.getElem?_eq_some_iff.1 hb).1
  subst hw
  unfold sortWorldK
  have hsz : (putRowK mkC 4 (Go.Sort.ahead w q) blk 0 d').heap.size = w.heap.size := Go.Sort.size_putRow _ _ _ _ _
  refine ⟨Go.Sort.holdsK_grow _ _ _ _ _ _ _ (by rw [hsz]; exact hlt) (Go.Sort.holdsK_putRowK mkC 4 (Go.Sort.ahead w q) blk 0 d d' hh hs), ?_, ⟨rfl, rfl, rfl, ?_, fun k hk hn => ?_⟩⟩
  · rw [Go.Sort.heap_grow_old _ _ (by rw [hsz]; exact hlt)]
    refine ⟨Go.Sort.putCells id 0 (Go.Sort.flatK mkC 4 d') cs, ?_, by simp [Go.Sort.putCells]⟩
    show ((Go.Sort.ahead w q).heap.modify blk _)[blk]? = _
    rw [Array.getElem?_modify, if_pos rfl]
    show (w.heap[blk]?).map _ = _
    rw [hb]; rfl
  · simp only [Go.Sort.size_grow]; rw [hsz]; omega
  · rw [Go.Sort.heap_grow_old _ _ (by rw [hsz]; exact hk)]
    show ((Go.Sort.ahead w q).heap.modify blk _)[k]? = _
    rw [Array.getElem?_modify, if_neg (fun e => hn (by simp [e]))]
    rfl
/-- in order, each one once: there is one such list -/
theorem sorted_one {vs vs' Q : List Mr} (hp : vs'.Perm vs) (hm : vs.Perm Q) (hs : SortR Q) (ho : vs'.Pairwise (fun a b => ltOf cfM b a = false)) : vs' = Q := by
  have hp2 : vs'.Perm Q := hp.trans hm
  refine List.Perm.eq_of_pairwise (le := fun a b => befR b a = false) (fun a b ha hb h1 h2 => ?_) ho (hs.imp (fun {a b} h => bef_asymm h)) hp2
  exact hs.one (hp2.mem_iff.1 ha) hb (bef_total h2 h1)
theorem own_sorted {w w' : World} {base n c blk : Nat} {T : TypeId} {l l' : List Mr} (h : w.ownsRow base T 4 (.slice (some ⟨blk, 0, none⟩) n c) n (rowM l)) (hl : l'.length = n) (hh : HoldsK mkC 4 w' blk 0 l'.toArray) (hb : ∃ cs', w'.heap[blk]? = some (.cells cs' T (0, 0)) ∧ ∀ cs, w.heap[blk]? = some (.cells cs T (0, 0)) → cs'.size = cs.size) : w'.ownsRow base T 4 (.slice (some ⟨blk, 0, none⟩) n c) n (rowM l') := by
  obtain ⟨cs', hb1, hb2⟩ := hb
  refine ⟨by rw [rowM_len, hl], ?_⟩
  rcases h.2 with ⟨e, _⟩ | ⟨g, cap, cur, e, h1, h2, h3, h4, h5, h6⟩
  · cases e
  · injection e with e1 _ e3; injection e1 with e1; injection e1 with e1; subst e1; subst e3
    refine .inr ⟨blk, c, cs', rfl, h1, hb1, h3, h4, (hb2 cur h2).trans h5, ?_⟩
    refine List.ext_getElem? (fun i => ?_)
    by_cases hi : i < n * 4
    · have hi' : i < l'.length * 4 := by rw [hl]; exact hi
      have hc := (hh i (by simpa using hi')).1
      rw [Nat.zero_add, cell_of_row _ _ i _ _ _ hb1] at hc
      rw [List.getElem?_take_of_lt hi, flat_row hi', Array.getElem?_toList, hc]; rfl
    · rw [List.getElem?_eq_none (by rw [List.length_take]; omega), List.getElem?_eq_none (by rw [rowM_len, hl]; omega)]
set_option maxHeartbeats 1000000 in
theorem sort_is (vs Q : List Mr) (n c blk : Nat) (w : World) (base : Nat) (h : w.ownsRow base 32 4 (.slice (some ⟨blk, 0, none⟩) n c) n (rowM vs)) (hn : vs.length = n) (hn1 : n ≤ 1000000) (hm : vs.Perm Q) (hs : SortR Q) :
    Calls Try.prog 28 #[.slice (some ⟨blk, 0, none⟩) n c, .func (.func 29) #[] #[]] w fun e w' => e = .returned (.tuple #[]) ∧ w'.ownsRow base 32 4 (.slice (some ⟨blk, 0, none⟩) n c) n (rowM Q) ∧ Only [blk] w w' := by
  have hh := holdsM h
  obtain ⟨cs, hcs⟩ : ∃ cs, w.heap[blk]? = some (.cells cs 32 (0, 0)) := by
    obtain ⟨cs, _, q⟩ := own_bk h blk (by simp [bk]); exact ⟨cs, q⟩
  have hlt := (Array.getElem?_eq_some_iff.1 hcs).1
  have eg : ∀ args w, (callFunc 29 args).run Try.prog w = .ok (.enter 29 args) w := enters_of Try.func29 (by kernel_rfl) rfl
  have hsize : vs.toArray.size = n := by simpa using hn
  have hcon := AnyQ.slices_SortFunc Try.sortMr 4 aggM sizeM mkC (fun _ => rfl) mkC_one cfM swoM 29 #[] blk 0 c vs.toArray w eg (cmpM blk 0 _ w) hh hlt (by rw [hsize]; omega)
  rw [hsize] at hcon
  refine Calls.mono hcon ?_
  rintro e w' ⟨rfl, d', q, os, hp, ho, hw⟩
  obtain ⟨p1, _, p3⟩ := hp
  obtain ⟨k1, ⟨cs', k2, k4⟩, k3⟩ := sortedW hh hcs p1 hw
  have hd' : d'.size = n := p1.trans hsize
  have hperm : d'.toList.Perm vs := by
    have e1 : (d'.extract 0 n).toList = d'.toList := by rw [Array.extract_eq_self_of_le (by omega)]
    have e2 : (vs.toArray.extract 0 n).toList = vs := by rw [Array.extract_eq_self_of_le (by rw [hsize]; exact Nat.le_refl _)]
    rw [e1, e2] at p3; exact p3
  have hsorted : d'.toList.Pairwise (fun a b => ltOf cfM b a = false) := by
    rw [List.pairwise_iff_getElem]
    intro i j hi hj hij
    have hi' : i < d'.size := by simpa using hi
    have hj' : j < d'.size := by simpa using hj
    have := ho i j (Nat.zero_le _) hij (by omega)
    rw [getElem!_pos d' j hj', getElem!_pos d' i hi'] at this
    simpa using this
  have eQ : d'.toList = Q := sorted_one hperm hm hs hsorted
  have eA : Q.toArray = d' := by rw [← eQ]
  refine ⟨rfl, own_sorted h (by rw [← eQ]; simpa using hd') (by rw [eA]; exact k1) ⟨cs', k2, fun cs2 e => ?_⟩, k3⟩
  rw [hcs] at e; injection e with e; injection e with e; rw [← e]; exact k4
end Go.Proofs.Ytcpfihagcmadcaa.L12
