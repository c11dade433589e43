/-
  Contracts: what is remembered, put in order.
-/
import Derived.Test.YtcmlopflandlgaaDdOrder
namespace Go.Proofs.Ytcmlopflandlgaa.L8
open Go.RowKit
open Go.Maps
open Go.Sort (HoldsK putRowK PermIn SortedIn SWO grow)
open L3 L4

instance : Inhabited MV := ⟨⟨⟨0, 0, ⟨#[]⟩, 0, []⟩, none, 0⟩⟩
def rowM (l : List MV) : List Value := l.flatMap mkC
theorem rowM_len (l : List MV) : (rowM l).length = l.length * 5 := by
  induction l with
  | nil => rfl
  | cons d t ih => rw [rowM, List.flatMap_cons, List.length_append, ← rowM, ih]; simp [mkC]; omega
theorem rowM_app (a b : List MV) : rowM (a ++ b) = rowM a ++ rowM b := by simp [rowM]
theorem mkC_one (v : MV) : ∀ u ∈ mkC v, u.oneCell' = true := fun u hu => by
  simp [mkC] at hu
  rcases hu with rfl | rfl | rfl | rfl | rfl <;> rfl
theorem rowM_at : ∀ {l : List MV} {i : Nat} {v : MV}, l[i]? = some v → ∀ (j : Nat) (u : Value), (mkC v)[j]? = some u → (rowM l)[i * 5 + j]? = some u
  | [], i, v, h => by simp at h
  | a :: t, 0, v, h => fun j u hu => by
    simp at h; subst h
    rw [rowM, List.flatMap_cons, Nat.zero_mul, Nat.zero_add, List.getElem?_append_left (List.getElem?_eq_some_iff.1 hu).1]; exact hu
  | a :: t, i + 1, v, h => fun j u hu => by
    have ih := rowM_at (l := t) (i := i) (v := v) (by simpa using h) j u hu
    rw [rowM, List.flatMap_cons, List.getElem?_append_right (by simp [mkC]; omega), ← rowM]
    rw [show (i + 1) * 5 + j - (mkC a).length = i * 5 + j by simp [mkC]; omega]; exact ih
/-- a slice that reads so -/
def ReadsM (w : World) (A : Option Addr) (l : List MV) : Prop :=
  0 < l.length → ∃ g o, A = some ⟨g, o, none⟩ ∧ g < w.heap.size ∧ ∀ i v, l[i]? = some v → w.cell? ⟨g, o + i * 5, none⟩ = some (.int .i64 v.m.id) ∧ w.cell? ⟨g, o + i * 5 + 1, none⟩ = some (.int .i64 v.m.ep) ∧ w.cell? ⟨g, o + i * 5 + 2, none⟩ = some (.string v.m.t) ∧ w.cell? ⟨g, o + i * 5 + 3, none⟩ = some (.int .i64 v.m.p) ∧ w.cell? ⟨g, o + i * 5 + 4, none⟩ = some (.slice v.A v.m.l.length v.c)
theorem ReadsM.below {w w' : World} {A : Option Addr} {l : List MV} (h : ReadsM w A l) (b : Below w.heap.size w w') : ReadsM w' A l := fun h0 => by
  obtain ⟨g, o, e, hg, hc⟩ := h h0
  refine ⟨g, o, e, Nat.lt_of_lt_of_le hg b.size, fun i v hv => ?_⟩
  obtain ⟨c0, c1, c2, c3, c4⟩ := hc i v hv
  exact ⟨cell_at b c0, cell_at b c1, cell_at b c2, cell_at b c3, cell_at b c4⟩
theorem ReadsM.own {w : World} {base n c : Nat} {T : TypeId} {A : Option Addr} {l : List MV} (h : w.ownsRow base T 5 (.slice A n c) n (rowM l)) (hn : l.length = n) : ReadsM w A l := fun h0 => by
  rcases h.2 with ⟨_, e⟩ | ⟨g, cap, cur, e, h1, hh, _⟩
  · omega
  · injection e with e1; subst e1
    refine ⟨g, 0, rfl, (Array.getElem?_eq_some_iff.1 hh).1, fun i v hv => ?_⟩
    have q := fun j u hu => h.cells (g := g) rfl (i * 5 + j) u (rowM_at hv j u hu)
    have q0 := q 0 _ rfl; have q1 := q 1 _ rfl; have q2 := q 2 _ rfl; have q3 := q 3 _ rfl; have q4 := q 4 _ rfl
    rw [Addr.add_lit] at q0 q1 q2 q3 q4
    exact ⟨q0, by rw [Nat.add_assoc]; exact q1, by rw [Nat.add_assoc]; exact q2, by rw [Nat.add_assoc]; exact q3, by rw [Nat.add_assoc]; exact q4⟩
/-- the order, as the library's sort asks it -/
def cfM (x y : MV) : Int := ordC x.m y.m
theorem lt_cf (x y : MV) : ltOf cfM x y = befB x.m y.m := rfl
theorem swoM : SWO (ltOf cfM) where
  irrefl x := by rw [lt_cf]; exact bef_irrefl _
  trans x y z h1 h2 := by rw [lt_cf] at *; exact bef_trans h1 h2
  ntrans x y z h1 h2 := by
    rw [lt_cf] at *
    cases h3 : befB x.m z.m
    · rfl
    · exfalso
      cases h4 : befB y.m x.m
      · have := bef_total h1 h4
        rw [bef_same (a := x.m) (b := z.m) (a' := y.m) (b' := z.m) this ⟨rfl, rfl, rfl⟩, h2] at h3; cases h3
      · have := bef_trans h4 h3
        rw [h2] at this; cases this
theorem cmpM (blk off size : Nat) (w : World) : CmpLays Try.prog 40 #[] mkC 5 cfM blk off size w :=
  fun _ _ _ _ x y => (order_is x y (cfM x y) _ (Lib.hid rfl)).mono fun _ _ ⟨he, q, os', hq⟩ => ⟨he, q, os', hq⟩
theorem aggM (w : World) : (isAgg 48).run Try.prog w = .ok true w := Try.isAgg48 w
theorem sizeM (w : World) : (Go.sizeOf 48).run Try.prog w = .ok 5 w := Try.sizeOf48 w
theorem holdsM {w : World} {base n c blk : Nat} {T : TypeId} {l : List MV} (h : w.ownsRow base T 5 (.slice (some ⟨blk, 0, none⟩) n c) n (rowM l)) (hn : l.length = n) : HoldsK mkC 5 w blk 0 l.toArray := fun j hj => by
  have hj' : j < l.length * 5 := by simpa using hj
  have hi : j / 5 < l.length := by omega
  obtain ⟨v, hv⟩ : ∃ v, l[j / 5]? = some v := ⟨_, List.getElem?_eq_getElem hi⟩
  have hm : j % 5 < (mkC v).length := by simp [mkC]; omega
  have hr := rowM_at hv (j % 5) _ (List.getElem?_eq_getElem hm)
  have e : j / 5 * 5 + j % 5 = j := by omega
  rw [e] at hr
  have hc := h.cells (g := blk) rfl j _ hr
  rw [Addr.add_lit] at hc
  have hg : (Go.Sort.flatK mkC 5 l.toArray)[j]! = (mkC v)[j % 5]'hm := by
    rw [Go.Sort.get_flatK _ _ _ _ (by simpa using hj')]
    have e1 : l.toArray[j / 5]! = v := by
      have := (List.getElem?_eq_some_iff.1 hv).2
      simp [hi, this]
    rw [e1]; exact getElem!_pos (mkC v) (j % 5) hm
  refine ⟨?_, h.frozenAt _⟩
  rw [hg]; exact hc
/-- behind the sort -/
theorem sortedW {w w' : World} {blk q : Nat} {cs : Array Value} {T : TypeId} {d d' : Array MV} {os : Array Obj} (hh : HoldsK mkC 5 w blk 0 d) (hb : w.heap[blk]? = some (.cells cs T (0, 0))) (hs : d'.size = d.size) (hw : w' = sortWorldK mkC 5 w blk 0 q d' os) :
    HoldsK mkC 5 w' blk 0 d' ∧ (∃ cs', w'.heap[blk]? = some (.cells cs' T (0, 0))) ∧ Only [blk] w w' := by
  have hlt := (Array.getElem?_eq_some_iff.1 hb).1
  subst hw
  unfold sortWorldK
  have hsz : (putRowK mkC 5 (Go.Sort.ahead w q) blk 0 d').heap.size = w.heap.size := Go.Sort.size_putRow _ _ _ _ _
  refine ⟨Go.Sort.holdsK_grow _ _ _ _ _ _ _ (by rw [hsz]; exact hlt) (Go.Sort.holdsK_putRowK mkC 5 (Go.Sort.ahead w q) blk 0 d d' hh hs), ?_, ⟨rfl, rfl, rfl, ?_, fun k hk hn => ?_⟩⟩
  · rw [Go.Sort.heap_grow_old _ _ (by rw [hsz]; exact hlt)]
    refine ⟨Go.Sort.putCells id 0 (Go.Sort.flatK mkC 5 d') cs, ?_⟩
    show ((Go.Sort.ahead w q).heap.modify blk _)[blk]? = _
    rw [Array.getElem?_modify, if_pos rfl]
    show (w.heap[blk]?).map _ = _
    rw [hb]; rfl
  · simp only [Go.Sort.size_grow]; rw [hsz]; omega
  · rw [Go.Sort.heap_grow_old _ _ (by rw [hsz]; exact hk)]
    show ((Go.Sort.ahead w q).heap.modify blk _)[k]? = _
    rw [Array.getElem?_modify, if_neg (fun e => hn (by simp [e]))]
    rfl
/-- in order, each one once: there is one such list -/
theorem sorted_one {vs vs' : List MV} {ms : List Mk} (hp : vs'.Perm vs) (hm : (vs.map (·.m)).Perm ms) (hs : Sorted ms) (ho : vs'.Pairwise (fun a b => ltOf cfM b a = false)) : vs'.map (·.m) = ms := by
  have hp2 : (vs'.map (·.m)).Perm ms := (hp.map _).trans hm
  refine List.Perm.eq_of_pairwise (le := fun a b => befB b a = false) (fun a b ha hb h1 h2 => ?_) ?_ (hs.imp (fun {a b} h => bef_asymm h)) hp2
  · exact hs.unique (hp2.mem_iff.1 ha) hb (bef_total h2 h1)
  · rw [List.pairwise_map]; exact ho
set_option maxHeartbeats 1000000 in
theorem sort_is (vs : List MV) (ms : List Mk) (n c blk : Nat) (w : World) (base : Nat) (h : w.ownsRow base 48 5 (.slice (some ⟨blk, 0, none⟩) n c) n (rowM vs)) (hn : vs.length = n) (hn1 : n ≤ 1000000) (hm : (vs.map (·.m)).Perm ms) (hs : Sorted ms) :
    Calls Try.prog 39 #[.slice (some ⟨blk, 0, none⟩) n c, .func (.func 40) #[] #[]] w fun e w' => e = .returned (.tuple #[]) ∧ ∃ vs', vs'.Perm vs ∧ vs'.map (·.m) = ms ∧ ReadsM w' (some ⟨blk, 0, none⟩) vs' ∧ (∃ cs', w'.heap[blk]? = some (.cells cs' 48 (0, 0))) ∧ Only [blk] w w' := by
  have hh := holdsM h hn
  obtain ⟨cs, hcs⟩ : ∃ cs, w.heap[blk]? = some (.cells cs 48 (0, 0)) := by
    obtain ⟨cs, _, q⟩ := own_bk h blk (by simp [bk]); exact ⟨cs, q⟩
  have hlt := (Array.getElem?_eq_some_iff.1 hcs).1
  have eg : ∀ args w, (callFunc 40 args).run Try.prog w = .ok (.enter 40 args) w := enters_of Try.func40 (by kernel_rfl) rfl
  have hsize : vs.toArray.size = n := by simpa using hn
  have hcon := AnyQ.slices_SortFunc Try.sortMk 5 aggM sizeM mkC (fun _ => rfl) mkC_one cfM swoM 40 #[] blk 0 c vs.toArray w eg (cmpM blk 0 _ w) hh hlt (by rw [hsize]; omega)
  rw [hsize] at hcon
  refine Calls.mono hcon ?_
  rintro e w' ⟨rfl, d', q, os, hp, ho, hw⟩
  obtain ⟨p1, _, p3⟩ := hp
  obtain ⟨k1, ⟨cs', k2⟩, k3⟩ := sortedW hh hcs p1 hw
  have hd' : d'.size = n := p1.trans hsize
  have hperm : d'.toList.Perm vs := by
    have e1 : (d'.extract 0 n).toList = d'.toList := by rw [Array.extract_eq_self_of_le (by omega)]
    have e2 : (vs.toArray.extract 0 n).toList = vs := by rw [Array.extract_eq_self_of_le (by rw [hsize]; exact Nat.le_refl _)]
    rw [e1, e2] at p3; exact p3
  have hsorted : d'.toList.Pairwise (fun a b => ltOf cfM b a = false) := by
    rw [List.pairwise_iff_getElem]
    intro i j hi hj hij
    have hi' : i < d'.size := by simpa using hi
    have hj' : j < d'.size := by simpa using hj
    have := ho i j (Nat.zero_le _) hij (by omega)
    rw [getElem!_pos d' j hj', getElem!_pos d' i hi'] at this
    simpa using this
  refine ⟨rfl, d'.toList, hperm, sorted_one hperm hm hs hsorted, fun _ => ⟨blk, 0, rfl, (Array.getElem?_eq_some_iff.1 k2).1, fun i v hv => ?_⟩, ⟨cs', k2⟩, k3⟩
  have hi : i < d'.size := by have := (List.getElem?_eq_some_iff.1 hv).1; simpa using this
  have ev : d'[i]! = v := by
    have := (List.getElem?_eq_some_iff.1 hv).2
    rw [getElem!_pos d' i hi]; simpa using this
  have q := fun c (hc : c < 5) => (k1.cell (i := i) (c := c) hi hc).1
  rw [ev] at q
  have q0 := q 0 (by omega); have q1 := q 1 (by omega); have q2 := q 2 (by omega); have q3 := q 3 (by omega); have q4 := q 4 (by omega)
  exact ⟨q0, q1, q2, q3, q4⟩
end Go.Proofs.Ytcmlopflandlgaa.L8
