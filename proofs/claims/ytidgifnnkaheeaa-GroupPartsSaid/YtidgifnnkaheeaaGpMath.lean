/-
  Plain: a group's seats, and what each call makes of them.
-/
import Derived.Test.YtidgifnnkaheeaaAsMath
import Derived.Test.YtidgifnnkaheeaaMReqNames
namespace Go.Proofs.Ytidgifnnkaheeaa.L11
open L3 L4 L9 L10

/-- a seat: the member, its time, when it was heard last -/
structure Se where
  m : Mb
  tm : Int
  sn : Int
abbrev topN : Int := 1099511627776
def wB (n : Int) : Bool := decide (0 ≤ n) && decide (n ≤ topN)
def mayS (s : Se) : Bool := nameB s.m.name && namesB s.m.ts && decide (0 < s.tm) && wB s.tm && wB s.sn
theorem wB_in {n : Int} (h : wB n = true) : 0 ≤ n ∧ n ≤ 1099511627776 := by
  unfold wB at h
  simp only [Bool.and_eq_true, decide_eq_true_eq] at h
  exact h
theorem mayS_in {s : Se} (h : mayS s = true) : (0 < s.tm ∧ s.tm ≤ 1099511627776) ∧ 0 ≤ s.sn ∧ s.sn ≤ 1099511627776 := by
  unfold mayS at h
  simp only [Bool.and_eq_true, decide_eq_true_eq] at h
  exact ⟨⟨h.1.1.2, (wB_in h.1.2).2⟩, wB_in h.2⟩
theorem mayS_name {s : Se} (h : mayS s = true) : nameB s.m.name = true ∧ namesB s.m.ts = true := by
  unfold mayS at h
  simp only [Bool.and_eq_true] at h
  exact h.1.1.1
theorem nameB_size {x : ByteArray} (h : nameB x = true) : 1 ≤ x.size ∧ x.size ≤ 16 := by
  unfold nameB at h
  simp only [Bool.and_eq_true, decide_eq_true_eq] at h
  exact ⟨h.1.1, h.1.2⟩
theorem namesB_in {l : List ByteArray} (h : namesB l = true) : (1 ≤ l.length ∧ l.length ≤ 8) ∧ ∀ x ∈ l, nameB x = true := by
  unfold namesB at h
  simp only [Bool.and_eq_true, decide_eq_true_eq, List.all_eq_true, List.mem_range] at h
  refine ⟨h.1, fun x hx => ?_⟩
  obtain ⟨i, hi, rfl⟩ := List.mem_iff_getElem.1 hx
  have := h.2 i hi
  unfold L4.okAt at this
  simp only [Bool.and_eq_true] at this
  have e := this.1
  rwa [List.getD_eq_getElem?_getD, List.getElem?_eq_getElem hi] at e
theorem mayS_fit {s : Se} (h : mayS s = true) : (s.m.name.size ≤ 16) ∧ (1 ≤ s.m.ts.length ∧ s.m.ts.length ≤ 8) ∧ ∀ x ∈ s.m.ts, x.size ≤ 16 := by
  obtain ⟨h1, h2⟩ := mayS_name h
  obtain ⟨h3, h4⟩ := namesB_in h2
  exact ⟨(nameB_size h1).2, h3, fun x hx => (nameB_size (h4 x hx)).2⟩

/-! ### groups -/
def RiseS (Q : List Se) : Prop := Q.Pairwise (fun a b => lessB a.m.name b.m.name = true)
structure GoodG (G : Int) (Q : List Se) : Prop where
  rise : RiseS Q
  may : ∀ s ∈ Q, mayS s = true
  len : Q.length ≤ 8
  gen : 0 ≤ G ∧ G ≤ 1099511627776
theorem goodG_new : GoodG 0 [] := ⟨List.Pairwise.nil, fun _ h => (nomatch h), Nat.zero_le _, by omega⟩
def hasS (Q : List Se) (x : ByteArray) : Bool := Q.any (fun s => decide (s.m.name = x))
theorem hasS_mem {Q : List Se} {x : ByteArray} : hasS Q x = true ↔ ∃ s ∈ Q, s.m.name = x := by simp [hasS]
theorem hasS_not {Q : List Se} {x : ByteArray} : hasS Q x = false ↔ ∀ s ∈ Q, s.m.name ≠ x := by simp [hasS]
theorem RiseS.ne {Q : List Se} (h : RiseS Q) : Q.Pairwise (fun a b => a.m.name ≠ b.m.name) := h.imp less_ne
theorem rise_eq {Q : List Se} (h : RiseS Q) {x y : Se} (hx : x ∈ Q) (hy : y ∈ Q) (e : x.m.name = y.m.name) : x = y := by
  induction Q with
  | nil => cases hx
  | cons a t ih =>
    obtain ⟨h1, h2⟩ := List.pairwise_cons.1 h
    rcases List.mem_cons.1 hx with q | q
    · rcases List.mem_cons.1 hy with r | r
      · rw [q, r]
      · exact absurd (q ▸ e) (less_ne (h1 y r))
    · rcases List.mem_cons.1 hy with r | r
      · exact absurd (r ▸ e).symm (less_ne (h1 x q))
      · exact ih h2 q r
/-- without a member -/
def outS (Q : List Se) (x : ByteArray) : List Se := Q.filter (fun s => !decide (s.m.name = x))
theorem mem_out {Q : List Se} {x : ByteArray} {s : Se} : s ∈ outS Q x ↔ s ∈ Q ∧ s.m.name ≠ x := by simp [outS]
theorem out_none {Q : List Se} {x : ByteArray} (h : hasS Q x = false) : outS Q x = Q := by
  unfold outS
  rw [List.filter_eq_self]
  intro s hs
  simpa using hasS_not.1 h s hs
/-- one more, where it belongs -/
def insS : List Se → Se → List Se
  | [], x => [x]
  | y :: t, x => if lessB y.m.name x.m.name = true then y :: insS t x else x :: y :: t
theorem mem_insS {Q : List Se} {x y : Se} : y ∈ insS Q x ↔ y = x ∨ y ∈ Q := by
  induction Q with
  | nil => simp [insS]
  | cons a t ih =>
    unfold insS
    split
    · simp only [List.mem_cons, ih]
      constructor
      · rintro (h | h | h)
        · exact .inr (.inl h)
        · exact .inl h
        · exact .inr (.inr h)
      · rintro (h | h | h)
        · exact .inr (.inl h)
        · exact .inl h
        · exact .inr (.inr h)
    · simp
theorem len_insS {Q : List Se} {x : Se} : (insS Q x).length = Q.length + 1 := by
  induction Q with
  | nil => rfl
  | cons a t ih => unfold insS; split <;> simp [ih]
theorem rise_insS {Q : List Se} (h : RiseS Q) {x : Se} (hn : hasS Q x.m.name = false) : RiseS (insS Q x) := by
  induction Q with
  | nil => exact List.pairwise_singleton _ _
  | cons a t ih =>
    obtain ⟨h1, h2⟩ := List.pairwise_cons.1 h
    have hq := hasS_not.1 hn
    unfold insS
    split
    · rename_i hl
      refine List.pairwise_cons.2 ⟨fun y hy => ?_, ih h2 (hasS_not.2 fun y hy => hq y (List.mem_cons_of_mem _ hy))⟩
      rcases mem_insS.1 hy with rfl | hy
      · exact hl
      · exact h1 y hy
    · rename_i hl
      have ha : lessB x.m.name a.m.name = true := less_apart (by simpa using hl) (hq a List.mem_cons_self)
      refine List.pairwise_cons.2 ⟨fun y hy => ?_, h⟩
      rcases List.mem_cons.1 hy with rfl | hy
      · exact ha
      · exact less_trans ha (h1 y hy)
/-- the place where a name goes -/
def plS (Q : List Se) (x : ByteArray) : Nat := (Q.takeWhile (fun y => lessB y.m.name x)).length
theorem insS_at (Q : List Se) (x : Se) : insS Q x = Q.take (plS Q x.m.name) ++ x :: Q.drop (plS Q x.m.name) := by
  induction Q with
  | nil => rfl
  | cons a t ih =>
    unfold insS plS
    by_cases h : lessB a.m.name x.m.name = true
    · rw [if_pos h, ih]
      simp [h, plS]
    · rw [if_neg h]
      simp [h]
def putS (Q : List Se) (s : Se) : List Se := insS (outS Q s.m.name) s
theorem mem_put {Q : List Se} {s x : Se} : x ∈ putS Q s ↔ x = s ∨ (x ∈ Q ∧ x.m.name ≠ s.m.name) := by
  unfold putS
  rw [mem_insS, mem_out]
theorem out_has (Q : List Se) (x : ByteArray) : hasS (outS Q x) x = false := hasS_not.2 fun _ hs => (mem_out.1 hs).2
theorem rise_out {Q : List Se} (h : RiseS Q) (x : ByteArray) : RiseS (outS Q x) := List.Pairwise.filter _ h
theorem rise_put {Q : List Se} (h : RiseS Q) (s : Se) : RiseS (putS Q s) := rise_insS (rise_out h _) (out_has _ _)
theorem len_out {Q : List Se} (h : RiseS Q) {x : ByteArray} (hh : hasS Q x = true) : (outS Q x).length + 1 = Q.length := by
  induction Q with
  | nil => cases hh
  | cons a t ih =>
    obtain ⟨h1, h2⟩ := List.pairwise_cons.1 h
    by_cases e : a.m.name = x
    · have : hasS t x = false := hasS_not.2 fun y hy => fun e' => less_ne (h1 y hy) (e.trans e'.symm)
      have e2 : outS (a :: t) x = outS t x := by unfold outS; rw [List.filter_cons_of_neg (by simp [e])]
      rw [e2, out_none this]; rfl
    · have ht : hasS t x = true := by
        obtain ⟨y, hy, e'⟩ := hasS_mem.1 hh
        rcases List.mem_cons.1 hy with rfl | hy
        · exact absurd e' e
        · exact hasS_mem.2 ⟨y, hy, e'⟩
      have := ih h2 ht
      unfold outS at this ⊢
      rw [List.filter_cons_of_pos (by simp [e]), List.length_cons, List.length_cons]
      omega
theorem len_put {Q : List Se} (h : RiseS Q) (s : Se) : (putS Q s).length = if hasS Q s.m.name = true then Q.length else Q.length + 1 := by
  unfold putS
  rw [len_insS]
  split
  · rename_i hh; rw [len_out h hh]
  · rename_i hh; rw [out_none (by simpa using hh)]

/-! ### Join -/
def fullB (Q : List Se) (x : ByteArray) : Bool := decide (8 ≤ Q.length) && !hasS Q x
def joinE (G : Int) (r : Bool) (Q : List Se) (s : Se) (rb : Bool) : Int :=
  if mayS s = false then 1 else if 0 < Q.length ∧ rb ≠ r then 112 else if fullB Q s.m.name = true ∨ G = 1099511627776 then 2 else 0
theorem joinE_ok {G : Int} {r rb : Bool} {Q : List Se} {s : Se} (h : joinE G r Q s rb = 0) : mayS s = true ∧ (0 < Q.length → rb = r) ∧ fullB Q s.m.name = false ∧ G ≠ 1099511627776 := by
  unfold joinE at h
  split at h
  · cases h
  · split at h
    · cases h
    · split at h
      · cases h
      · rename_i h1 h2 h3
        refine ⟨by simpa using h1, fun h0 => ?_, by simpa using fun q => h3 (.inl q), fun q => h3 (.inr q)⟩
        exact Classical.not_not.1 fun q => h2 ⟨h0, q⟩
def joinQ (Q : List Se) (s : Se) (x : Int) : List Se := if x = 0 then putS Q s else Q
def joinG (G x : Int) : Int := if x = 0 then G + 1 else G
def joinR (r rb : Bool) (x : Int) : Bool := if x = 0 then rb else r
theorem good_join {G : Int} {r rb : Bool} {Q : List Se} {s : Se} {x : Int} (g : GoodG G Q) (h : joinE G r Q s rb = x) : GoodG (joinG G x) (joinQ Q s x) := by
  unfold joinG joinQ
  by_cases hx : x = 0
  · rw [if_pos hx, if_pos hx]
    rw [hx] at h
    obtain ⟨h1, _, h3, h4⟩ := joinE_ok h
    refine ⟨rise_put g.rise s, fun y hy => ?_, ?_, by have := g.gen; omega⟩
    · rcases mem_put.1 hy with rfl | ⟨hy, _⟩
      · exact h1
      · exact g.may y hy
    · rw [len_put g.rise]
      have := g.len
      split
      · exact g.len
      · rename_i hh
        unfold fullB at h3
        rw [show hasS Q s.m.name = false by simpa using hh] at h3
        simp at h3
        omega
  · rw [if_neg hx, if_neg hx]; exact g

/-! ### Fence, Beat -/
def fenceE (G : Int) (Q : List Se) (x : ByteArray) (g : Int) : Int := if hasS Q x = false then 110 else if g = G then 0 else 111
theorem fenceE_ok {G g : Int} {Q : List Se} {x : ByteArray} (h : fenceE G Q x g = 0) : hasS Q x = true ∧ g = G := by
  unfold fenceE at h
  split at h
  · cases h
  · split at h
    · rename_i h1 h2; exact ⟨by simpa using h1, h2⟩
    · cases h
def beatE (G : Int) (Q : List Se) (x : ByteArray) (g now : Int) : Int := if wB now = false then 1 else fenceE G Q x g
def beatS (x : ByteArray) (now : Int) (s : Se) : Se := if s.m.name = x then ⟨s.m, s.tm, max s.sn now⟩ else s
def beatQ (Q : List Se) (x : ByteArray) (now e : Int) : List Se := if e = 0 then Q.map (beatS x now) else Q
theorem beat_m (x : ByteArray) (now : Int) (s : Se) : (beatS x now s).m = s.m := by unfold beatS; split <;> rfl
theorem rise_mapS {Q : List Se} : RiseS Q ↔ (Q.map (·.m.name)).Pairwise (fun a b => lessB a b = true) := by
  unfold RiseS
  rw [List.pairwise_map]
theorem beat_names (Q : List Se) (x : ByteArray) (now : Int) : (Q.map (beatS x now)).map (·.m.name) = Q.map (·.m.name) := by
  rw [List.map_map]
  exact List.map_congr_left fun s _ => by simp [Function.comp, beat_m]
theorem beat_may {x : ByteArray} {now : Int} (hn : wB now = true) {s : Se} (h : mayS s = true) : mayS (beatS x now s) = true := by
  unfold beatS
  split
  · have h1 := wB_in hn
    obtain ⟨h2, h3⟩ := mayS_in h
    have h4 : wB (max s.sn now) = true := by unfold wB topN; simp only [Bool.and_eq_true, decide_eq_true_eq]; omega
    unfold mayS at h ⊢
    simp only [Bool.and_eq_true] at h ⊢
    exact ⟨⟨⟨h.1.1.1, h.1.1.2⟩, h.1.2⟩, h4⟩
  · exact h
theorem good_beat {G : Int} {Q : List Se} {x : ByteArray} {g now e : Int} (h : GoodG G Q) (he : beatE G Q x g now = e) : GoodG G (beatQ Q x now e) := by
  unfold beatQ
  split
  · rename_i h0
    rw [h0] at he
    unfold beatE at he
    split at he
    · cases he
    · rename_i hn
      have hn' : wB now = true := by simpa using hn
      refine ⟨rise_mapS.2 (by rw [beat_names]; exact rise_mapS.1 h.rise), fun s hs => ?_, by simpa using h.len, h.gen⟩
      obtain ⟨y, hy, rfl⟩ := List.mem_map.1 hs
      exact beat_may hn' (h.may y hy)
  · exact h
theorem mem_beat {Q : List Se} (h : RiseS Q) {s : Se} (hs : s ∈ Q) (now : Int) {y : Se} : y ∈ Q.map (beatS s.m.name now) ↔ y = ⟨s.m, s.tm, max s.sn now⟩ ∨ (y ∈ Q ∧ y.m.name ≠ s.m.name) := by
  rw [List.mem_map]
  constructor
  · rintro ⟨z, hz, rfl⟩
    unfold beatS
    split
    · rename_i e
      rw [rise_eq h hz hs e]
      exact .inl rfl
    · rename_i e; exact .inr ⟨hz, e⟩
  · rintro (rfl | ⟨hy, hn⟩)
    · exact ⟨s, hs, by unfold beatS; rw [if_pos rfl]⟩
    · exact ⟨y, hy, by unfold beatS; rw [if_neg hn]⟩

/-! ### those that go -/
def upG (G : Int) : Int := min (G + 1) 1099511627776
def leaveQ (Q : List Se) (x : ByteArray) (e : Int) : List Se := if e = 0 then outS Q x else Q
def leaveG (G e : Int) : Int := if e = 0 then upG G else G
theorem good_leave {G : Int} {Q : List Se} (h : GoodG G Q) (x : ByteArray) (e : Int) : GoodG (leaveG G e) (leaveQ Q x e) := by
  unfold leaveG leaveQ
  split
  · exact ⟨rise_out h.rise x, fun s hs => h.may s (mem_out.1 hs).1, Nat.le_trans (List.length_filter_le _ _) h.len, by have := h.gen; unfold upG; omega⟩
  · exact h
def lateB (now : Int) (s : Se) : Bool := decide (s.sn + s.tm ≤ now)
def goneQ (p : Se → Bool) (Q : List Se) : List ByteArray := (Q.filter p).map (·.m.name)
def stayQ (p : Se → Bool) (Q : List Se) : List Se := Q.filter (fun s => !p s)
def goneG (p : Se → Bool) (G : Int) (Q : List Se) : Int := if (goneQ p Q).length = 0 then G else upG G
theorem good_gone {G : Int} {Q : List Se} (h : GoodG G Q) (p : Se → Bool) : GoodG (goneG p G Q) (stayQ p Q) := by
  refine ⟨List.Pairwise.filter _ h.rise, fun s hs => h.may s (List.mem_filter.1 hs).1, Nat.le_trans (List.length_filter_le _ _) h.len, ?_⟩
  have := h.gen
  unfold goneG upG
  split
  · exact this
  · omega
/-- one member that goes -/
theorem gone_one {Q : List Se} (h : RiseS Q) {x : ByteArray} (hh : hasS Q x = true) : goneQ (fun s => decide (s.m.name = x)) Q = [x] := by
  unfold goneQ
  induction Q with
  | nil => cases hh
  | cons a t ih =>
    obtain ⟨h1, h2⟩ := List.pairwise_cons.1 h
    by_cases e : a.m.name = x
    · have : hasS t x = false := hasS_not.2 fun y hy => fun e' => less_ne (h1 y hy) (e.trans e'.symm)
      rw [List.filter_cons_of_pos (by simp [e]), List.filter_eq_nil_iff.2 (fun y hy => by simpa using hasS_not.1 this y hy)]
      simp [e]
    · have ht : hasS t x = true := by
        obtain ⟨y, hy, e'⟩ := hasS_mem.1 hh
        rcases List.mem_cons.1 hy with rfl | hy
        · exact absurd e' e
        · exact hasS_mem.2 ⟨y, hy, e'⟩
      rw [List.filter_cons_of_neg (by simp [e])]
      exact ih h2 ht

/-! ### Load -/
def okS (l : List Se) (i : Nat) : Prop := ∀ x, l[i]? = some x → mayS x = true ∧ (0 < i → ∀ y, l[i - 1]? = some y → lessB y.m.name x.m.name = true)
def OkToS (l : List Se) (k : Nat) : Prop := ∀ i, i < k → okS l i
/-- what loading tells: x is the error -/
def loadG (G : Int) (l : List Se) (x : Int) : Prop := if 8 < l.length then x = 2 else if wB G = false then x = 1 else (x = 0 ∧ OkToS l l.length) ∨ (x = 1 ∧ ¬ OkToS l l.length)
theorem OkToS.next {l : List Se} {k : Nat} (h : OkToS l k) (h' : okS l k) : OkToS l (k + 1) := fun i hi => by
  by_cases e : i = k
  · subst e; exact h'
  · exact h i (by omega)
theorem OkToS.rise {l : List Se} : ∀ {k : Nat}, OkToS l k → k ≤ l.length → RiseS (l.take k) ∧ ∀ x ∈ l.take k, mayS x = true
  | 0, _, _ => ⟨by simp [RiseS], fun x hx => by simp at hx⟩
  | k + 1, h, hk => by
    obtain ⟨h1, h2⟩ := OkToS.rise (k := k) (fun i hi => h i (by omega)) (by omega)
    obtain ⟨x, hx⟩ : ∃ x, l[k]? = some x := ⟨l[k], List.getElem?_eq_getElem (by omega)⟩
    obtain ⟨h3, h4⟩ := h k (by omega) x hx
    rw [List.take_add_one, hx]
    refine ⟨List.pairwise_append.2 ⟨h1, List.pairwise_singleton _ _, fun y hy z hz => ?_⟩, fun y hy => ?_⟩
    · have : z = x := by simpa using hz
      subst this
      have hk0 : 0 < k := by
        rcases Nat.eq_zero_or_pos k with e | e
        · subst e; simp at hy
        · exact e
      obtain ⟨u, hu⟩ : ∃ u, l[k - 1]? = some u := ⟨l[k - 1], List.getElem?_eq_getElem (by omega)⟩
      have hux := h4 hk0 u hu
      have e : l.take k = l.take (k - 1) ++ [u] := by
        have := List.take_add_one (l := l) (i := k - 1)
        rw [hu, show k - 1 + 1 = k by omega] at this
        simpa using this
      rw [e] at hy
      rcases List.mem_append.1 hy with hy | hy
      · have hp := h1
        rw [e] at hp
        exact less_trans ((List.pairwise_append.1 hp).2.2 y hy u (by simp)) hux
      · have : y = u := by simpa using hy
        subst this
        exact hux
    · rcases List.mem_append.1 hy with hy | hy
      · exact h2 y hy
      · have : y = x := by simpa using hy
        subst this
        exact h3
theorem OkToS.good {G : Int} {l : List Se} (h : OkToS l l.length) (hl : l.length ≤ 8) (hG : wB G = true) : GoodG G l := by
  obtain ⟨h1, h2⟩ := h.rise (Nat.le_refl _)
  rw [List.take_length] at h1 h2
  exact ⟨h1, h2, hl, wB_in hG⟩
theorem GoodG.okTo {G : Int} {Q : List Se} (g : GoodG G Q) : OkToS Q Q.length := fun i _ x hx => ⟨g.may x (List.mem_of_getElem? hx), fun h0 y hy => by
  have hi := (List.getElem?_eq_some_iff.1 hx)
  have hj := (List.getElem?_eq_some_iff.1 hy)
  obtain ⟨a, rfl⟩ := hi
  obtain ⟨b, rfl⟩ := hj
  exact List.pairwise_iff_getElem.1 g.rise (i - 1) i b a (by omega)⟩
theorem GoodG.load {G : Int} {Q : List Se} (g : GoodG G Q) : loadG G Q 0 := by
  unfold loadG
  rw [if_neg (by have := g.len; omega), if_neg (by unfold wB topN; simp only [Bool.and_eq_false_iff, decide_eq_false_iff_not]; have := g.gen; omega)]
  exact .inl ⟨rfl, g.okTo⟩
theorem loadG_is (G : Int) (l : List Se) : ∃ x, loadG G l x := by
  unfold loadG
  split
  · exact ⟨2, rfl⟩
  · split
    · exact ⟨1, rfl⟩
    · by_cases h : OkToS l l.length
      · exact ⟨0, .inl ⟨rfl, h⟩⟩
      · exact ⟨1, .inr ⟨rfl, h⟩⟩
/-- one further -/
theorem put_last {Q : List Se} {x : Se} (h : ∀ y ∈ Q, lessB y.m.name x.m.name = true) : putS Q x = Q ++ [x] := by
  have hn : hasS Q x.m.name = false := hasS_not.2 fun y hy => less_ne (h y hy)
  unfold putS
  rw [out_none hn]
  clear hn
  induction Q with
  | nil => rfl
  | cons a t ih =>
    unfold insS
    rw [if_pos (h a List.mem_cons_self), ih (fun y hy => h y (List.mem_cons_of_mem _ hy))]
    rfl
theorem load_less {l : List Se} {k : Nat} (h : OkToS l k) (hk : k < l.length) {x : Se} (hr : 0 < k → ∀ y, l[k - 1]? = some y → lessB y.m.name x.m.name = true) : ∀ y ∈ l.take k, lessB y.m.name x.m.name = true := by
  intro y hy
  obtain ⟨h1, _⟩ := h.rise (Nat.le_of_lt hk)
  have k0 : 0 < k := by
    rcases Nat.eq_zero_or_pos k with e | e
    · subst e; simp at hy
    · exact e
  obtain ⟨u, hu⟩ : ∃ u, l[k - 1]? = some u := ⟨l[k - 1], List.getElem?_eq_getElem (by omega)⟩
  have hux := hr k0 u hu
  have e : l.take k = l.take (k - 1) ++ [u] := by
    have := List.take_add_one (l := l) (i := k - 1)
    rw [hu, show k - 1 + 1 = k by omega] at this
    simpa using this
  rw [e] at hy h1
  rcases List.mem_append.1 hy with hy | hy
  · exact less_trans ((List.pairwise_append.1 h1).2.2 y hy u (by simp)) hux
  · have : y = u := by simpa using hy
    subst this
    exact hux
theorem load_next {l : List Se} {k : Nat} (h : OkToS l k) (hk : k < l.length) {x : Se} (hx : l[k]? = some x) (hr : 0 < k → ∀ y, l[k - 1]? = some y → lessB y.m.name x.m.name = true) : putS (l.take k) x = l.take (k + 1) := by
  rw [put_last (load_less h hk hr), List.take_add_one, hx]
  rfl
theorem load_badS {l : List Se} {k : Nat} (hk : k < l.length) (h : ¬ okS l k) : ¬ OkToS l l.length := fun q => h (q k hk)
theorem loadG_big {G : Int} {l : List Se} {x : Int} (h : loadG G l x) (hl : 8 < l.length) : x = 2 := by
  unfold loadG at h
  rwa [if_pos hl] at h
theorem loadG_gen {G : Int} {l : List Se} {x : Int} (h : loadG G l x) (hl : l.length ≤ 8) (hG : wB G = false) : x = 1 := by
  unfold loadG at h
  rwa [if_neg (by omega), if_pos hG] at h
theorem loadG_bad {G : Int} {l : List Se} {x : Int} (h : loadG G l x) (hl : l.length ≤ 8) (hn : ¬ OkToS l l.length) : x = 1 := by
  unfold loadG at h
  rw [if_neg (by omega)] at h
  split at h
  · exact h
  · rcases h with ⟨_, h⟩ | ⟨h, _⟩
    · exact absurd h hn
    · exact h
theorem loadG_ok {G : Int} {l : List Se} {x : Int} (h : loadG G l x) (hl : l.length ≤ 8) (hG : wB G = true) (hn : OkToS l l.length) : x = 0 := by
  unfold loadG at h
  rw [if_neg (by omega), if_neg (by simp [hG])] at h
  rcases h with ⟨h, _⟩ | ⟨_, h⟩
  · exact h
  · exact absurd hn h
end Go.Proofs.Ytidgifnnkaheeaa.L11
