/-
  Contracts over the document's own functions: Make.
-/
import Derived.Test.YthongbobopampaaTpRef
import Derived.Test.YthongbobopampaaMReqTops
import Derived.Laws.AppendOwnNone
import Derived.OwnWalk
namespace Go.Proofs.Ythongbobopampaa.L9
open Go.RowKit
open Go.Maps
open L3 L4

/-- append of any row, perhaps nil -/
theorem wpList_append_src {P : Program} {w : World} {ops : Array Oper} {rest : List Oper} {o : Oper} {a : Act} {Q : Exit → Act → World → Prop} (hgd : o.guard = none) (s x : Operand) (t : TypeId)
    (ho : o.op = .call { callee := .builtin .append, args := #[s, x], argTypes := #[t, t] })
    (base : Nat) (e : TypeId) (i : TypeInfo) (z : Value) (size bytes : Nat) (ht : P.underlying t = some (.slice e)) (hi : P.info? e = some i) (hz : i.zero = some z)
    (hsize : i.size = size) (hby : i.bytes = bytes) (hzs : z.cells.size = size) (hsz : 0 < size)
    (v : Value) (n : Nat) (xs : List Value) (hs : a.eval s = v) (hown : w.ownsRow base e size v n xs)
    (A : Option Addr) (m c : Nat) (news : List Value) (hx : a.eval x = .slice A m c) (hl : news.length = m * size) (hsrc : Src w A news) (hnil : A = none → m = 0 ∧ c = 0) (h1 : ∀ u ∈ news, u.oneCell' = true)
    (h63 : n + m ≤ maxLen) (hbytes : (n + m) * bytes ≤ 140737488355328) (hbase : base ≤ w.heap.size)
    (h : ∀ v' w', w'.ownsRow base e size v' (n + m) (xs ++ news) → w.grownBy w' v.ownBlock → wpList P ops Q rest (a.put o.dst v') w') : wpList P ops Q (o :: rest) a w := by
  cases A with
  | none =>
    obtain ⟨rfl, rfl⟩ := hnil rfl
    have hnews := hsrc.1 rfl
    subst hnews
    exact wpList_append_own_none hgd s x t ho base e i size ht hi v n xs hs hown hx (h v w (by simpa using hown) (World.grownBy.refl w _))
  | some ad => exact wpList_append_own w hgd s x t ho base e i z size bytes ht hi hz hsize hby hzs hsz v n xs hs hown ad m c news hx hl (fun j u hu => hsrc.2 ad rfl j u hu) h1 h63 hbytes hbase (fun v' w' q1 q2 _ => h v' w' q1 q2)
theorem topInfo' : (Try.prog.info? 44).map (fun i => (i.zero, i.size, i.bytes)) = some (some (.agg #[.string ⟨#[]⟩, .int .i64 0]), 2, 24) := by kernel_rfl
theorem plIns_at {Q : List Pt} {s : ByteArray} {j : Nat} (hj : j ≤ Q.length) (h : ∀ i < j, ∀ y, Q[i]? = some y → lessB y.t s = true) (h' : ∀ y, Q[j]? = some y → lessB y.t s = false) : plIns Q s = j := by
  unfold plIns
  induction Q generalizing j with
  | nil => simp at hj; subst hj; rfl
  | cons a t ih =>
    cases j with
    | zero =>
      have := h' a rfl
      simp [this]
    | succ j =>
      have h0 := h 0 (by omega) a rfl
      have := ih (j := j) (by simpa using hj) (fun i hi y hy => h (i + 1) (by omega) y (by simpa using hy)) (fun y hy => h' y (by simpa using hy))
      simp [h0, this]
theorem src_take {w : World} {A : Option Addr} {Q : List Pt} (h : Src w A (rowP Q)) (j : Nat) : Src w A (rowP (Q.take j)) := by
  have e : rowP Q = rowP (Q.take j) ++ rowP (Q.drop j) := by rw [← rowP_app, List.take_append_drop]
  refine ⟨fun q => ?_, fun ad q t u hu => h.2 ad q t u ?_⟩
  · have := h.1 q
    rw [e] at this
    exact (List.append_eq_nil_iff.1 this).1
  · rw [e, List.getElem?_append_left (List.getElem?_eq_some_iff.1 hu).1]; exact hu
theorem src_drop {w : World} {g : Nat} {Q : List Pt} (h : Src w (some ⟨g, 0, none⟩) (rowP Q)) (j : Nat) (hj : j ≤ Q.length) : Src w (some ⟨g, j * 2, none⟩) (rowP (Q.drop j)) := by
  have e : rowP Q = rowP (Q.take j) ++ rowP (Q.drop j) := by rw [← rowP_app, List.take_append_drop]
  refine ⟨fun q => (by cases q), fun ad q t u hu => ?_⟩
  injection q with q; subst q
  have hl : (rowP (Q.take j)).length = j * 2 := by rw [rowP_len, List.length_take]; omega
  have := h.2 _ rfl (j * 2 + t) u (by rw [e, List.getElem?_append_right (by omega), hl]; rw [show j * 2 + t - j * 2 = t by omega]; exact hu)
  rw [Addr.add_lit] at this ⊢
  rwa [Nat.zero_add] at this

/-- behind a call that turns the document's catalog -/
def Turned (w : World) (B k : Nat) (A : Option Addr) (Q : List Pt) (w' : World) : Prop :=
  ∃ A' cap', Doc w' B k A' cap' Q ∧ Only (k :: bk A) w w' ∧ (∀ j ∈ bk A', j ∈ bk A ∨ w.heap.size ≤ j) ∧ (A' = none → cap' = 0)
theorem Turned.same {w w' : World} {B k cap : Nat} {A : Option Addr} {Q : List Pt} (h : Doc w B k A cap Q) (hA : A = none → cap = 0) (b : Below w.heap.size w w') : Turned w B k A Q w' := ⟨A, cap, h.below b, Only.ofBelow b, fun _ q => .inl q, hA⟩
theorem doc_src {w : World} {B k cap : Nat} {A : Option Addr} {Q : List Pt} (h : Doc w B k A cap Q) : Src w A (rowP Q) := readsP_src h.reads (fun e => by
  rcases h.own.2 with ⟨_, q⟩ | ⟨g, c, cur, q, _⟩
  · exact List.eq_nil_of_length_eq_zero q
  · injection q with q; rw [e] at q; cases q)
theorem doc_nil {w : World} {B k cap : Nat} {A : Option Addr} {Q : List Pt} (h : Doc w B k A cap Q) : A = none → Q = [] ∧ cap = 0 := fun e => by
  rcases h.own.2 with ⟨q, q'⟩ | ⟨g, c, cur, q, _⟩
  · injection q with _ _ q3
    exact ⟨List.eq_nil_of_length_eq_zero q', q3⟩
  · injection q with q; rw [e] at q; cases q
theorem doc_cap {w : World} {B k cap : Nat} {A : Option Addr} {Q : List Pt} (h : Doc w B k A cap Q) : Q.length ≤ cap := by
  rcases h.own.2 with ⟨q, q'⟩ | ⟨g, c, cur, q, _, _, hc, _⟩
  · omega
  · injection q with _ _ q3; omega
/-- a new row is stored -/
theorem doc_store {w w4 : World} {B k cap n c : Nat} {A A' : Option Addr} {Q Q' : List Pt} (h : Doc w B k A cap Q) (hB : B ≤ w.heap.size) (hb : Below w.heap.size w w4) (ho : w4.ownsRow w.heap.size 44 2 (.slice A' n c) n (rowP Q')) (hn : Q'.length = n) :
    Turned w B k A Q' (w4.setCell ⟨k, 0, none⟩ (.slice A' n c)) := by
  subst hn
  have hr4 := (hb.block k h.lt).trans h.row
  refine ⟨A', c, ⟨heap_setCell_same _ _ 0 _ _ _ hr4, ?_⟩, (Only.ofBelow hb).setCell (.inl (by simp)) _, fun j hj => ?_, fun e => ?_⟩
  · refine own_at (own_base ho hB) (fun j e => Below.heap_setCell _ _ _ _ (fun q => ?_))
    have q' : j = k := q
    subst q'
    obtain ⟨cs, hge, _⟩ := own_bk ho j (by rw [blk_own] at e; exact mem_bk.2 e)
    have := h.lt
    omega
  · obtain ⟨cs, hge, _⟩ := own_bk ho j hj
    exact .inr hge
  · rcases ho.2 with ⟨q, _⟩ | ⟨g, c', cur, q, _⟩
    · injection q
    · injection q with q; rw [e] at q; cases q
end Go.Proofs.Ythongbobopampaa.L9
