/-
  Contracts: Makers.
-/
import Derived.Test.YtcmlopflandlgaaDdSort
namespace Go.Proofs.Ytcmlopflandlgaa.L8
open Go.RowKit
open Go.Maps
open L3 L4

theorem makerInfo : (Try.prog.info? 48).map (fun i => (i.zero, i.size, i.bytes)) = some (some (.agg #[.int .i64 0, .int .i64 0, .string ⟨#[]⟩, .int .i64 0, .slice none 0 0]), 5, 64) := by kernel_rfl
theorem drewB (w : World) : Below w.heap.size w w.drew := (Below.refl _ _).drew
section
variable {W w1 w2 : World} {S : List Nat} {a1 a2 a3 a4 a5 : Addr} {v1 v2 v3 v4 v5 : Value}
theorem keep5s (hb : Below W.heap.size W w1) (h1 : W.cell? a1 = some v1) (h2 : W.cell? a2 = some v2) (h3 : W.cell? a3 = some v3) (h4 : W.cell? a4 = some v4) (h5 : W.cell? a5 = some v5) :
    (w1.cell? a1 = some v1 ∧ w1.cell? a2 = some v2 ∧ w1.cell? a3 = some v3 ∧ w1.cell? a4 = some v4 ∧ w1.cell? a5 = some v5) ∧ Only S W w1 := ⟨⟨cell_at hb h1, cell_at hb h2, cell_at hb h3, cell_at hb h4, cell_at hb h5⟩, Only.ofBelow hb⟩
theorem keep5 (h : (w1.cell? a1 = some v1 ∧ w1.cell? a2 = some v2 ∧ w1.cell? a3 = some v3 ∧ w1.cell? a4 = some v4 ∧ w1.cell? a5 = some v5) ∧ Only S W w1) (hb : Below w1.heap.size w1 w2) :
    (w2.cell? a1 = some v1 ∧ w2.cell? a2 = some v2 ∧ w2.cell? a3 = some v3 ∧ w2.cell? a4 = some v4 ∧ w2.cell? a5 = some v5) ∧ Only S W w2 := by
  obtain ⟨⟨h1, h2, h3, h4, h5⟩, ho⟩ := h
  exact ⟨⟨cell_at hb h1, cell_at hb h2, cell_at hb h3, cell_at hb h4, cell_at hb h5⟩, ho.trans (S' := []) (Only.ofBelow hb) (fun q hq => by cases hq)⟩
end
theorem keep5o {W w1 w2 : World} {A : Option Addr} {n c sb g k o1 o2 o3 o4 o5 : Nat} {v1 v2 v3 v4 v5 : Value} (h : (w1.cell? ⟨sb, o1, none⟩ = some v1 ∧ w1.cell? ⟨sb, o2, none⟩ = some v2 ∧ w1.cell? ⟨sb, o3, none⟩ = some v3 ∧ w1.cell? ⟨g, o4, none⟩ = some v4 ∧ w1.cell? ⟨k, o5, none⟩ = some v5) ∧ Only (bk A) W w1)
    (hg : w1.grownBy w2 (Value.slice A n c).ownBlock) (hs : sb ∉ bk A) (h1 : g ∉ bk A) (h2 : k ∉ bk A) :
    (w2.cell? ⟨sb, o1, none⟩ = some v1 ∧ w2.cell? ⟨sb, o2, none⟩ = some v2 ∧ w2.cell? ⟨sb, o3, none⟩ = some v3 ∧ w2.cell? ⟨g, o4, none⟩ = some v4 ∧ w2.cell? ⟨k, o5, none⟩ = some v5) ∧ Only (bk A) W w2 := by
  obtain ⟨⟨c1, c2, c3, c4, c5⟩, ho⟩ := h
  have o : Only (bk A) w1 w2 := (Only.refl _ _).grown hg (fun j e => .inl (mem_bk.2 (by rw [blk_own] at e; exact e)))
  exact ⟨⟨o.cell c1 hs, o.cell c2 hs, o.cell c3 hs, o.cell c4 h1, o.cell c5 h2⟩, ho.trans o (fun q hq => .inl hq)⟩
/-- while the map is gone over -/
structure MGo (w : World) (ms : List Mk) (b r N : Nat) (left : Lit → Bool) (cnt : Nat) (D : DataW Value) (A : Option Addr) (c n : Nat) (out : List MV) (wr : World) : Prop where
  rg : wr.ranges Try.prog 72 rd b r N D left cnt
  rds : Rds wr D ms
  bel : Below w.heap.size w wr
  own : wr.ownsRow w.heap.size 48 5 (.slice A n c) n (rowM out)
  len : out.length = n
  perm : (out.map (·.m)).Perm (ms.filter (fun m => !left m.k))
  rows : ∀ v ∈ out, wr.ownsRow w.heap.size 50 3 (.slice v.A v.m.l.length v.c) v.m.l.length (rowD v.m.l)
theorem own_below {w w' : World} {base : Nat} {T : TypeId} {v : Value} {n m : Nat} {xs : List Value} (h : w.ownsRow base T m v n xs) (hb : Below w.heap.size w w') : w'.ownsRow base T m v n xs :=
  own_at h (fun k e => hb.block k (h.lt k e).2)
theorem filter_step {ms : List Mk} {m : Mk} {left : Lit → Bool} (hs : Sorted ms) (hm : m ∈ ms) (hl : left m.k = true) (hK : ∀ x ∈ ms, x.k = m.k → x = m) :
    (m :: ms.filter (fun x => !left x.k)).Perm (ms.filter (fun x => !(left x.k && !x.k.sameKey m.k))) := by
  have hnd : ms.Nodup := hs.imp (fun {a b} h e => by rw [e, bef_irrefl] at h; cases h)
  have hself : m.k.sameKey m.k = true := WideAt.sameKey_self (isKey_lit _ _ _)
  refine (List.perm_ext_iff_of_nodup (List.nodup_cons.2 ⟨fun e => ?_, hnd.filter _⟩) (hnd.filter _)).2 (fun x => ?_)
  · have := (List.mem_filter.1 e).2
    rw [hl] at this; cases this
  · rw [List.mem_cons, List.mem_filter, List.mem_filter]
    constructor
    · rintro (rfl | ⟨h1, h2⟩)
      · exact ⟨hm, by rw [hl, hself]; rfl⟩
      · refine ⟨h1, ?_⟩
        have : left x.k = false := by simpa using h2
        rw [this]; rfl
    · rintro ⟨h1, h2⟩
      by_cases e : x.k = m.k
      · exact .inl (hK x h1 e)
      · rw [Maps.sameKey_ne e] at h2
        exact .inr ⟨h1, by simpa using h2⟩
theorem own_only {w w' : World} {S : List Nat} {base n size : Nat} {E : TypeId} {v : Value} {xs : List Value} (h : w.ownsRow base E size v n xs) (o : Only S w w') (hd : ∀ k, v.ownBlock = some k → k ∉ S) : w'.ownsRow base E size v n xs :=
  own_at h (fun k e => o.block k (h.lt k e).2 (hd k e))
theorem mgo_step {w W2 w5 w6 : World} {b N cnt nl n0 c0 c5 cc gg : Nat} {ms : List Mk} {m : Mk} {left : Lit → Bool} {D : DataW Value} {A0 A5 : Option Addr} {out : List MV} {i p : Int} {t : ByteArray} (hb : b < w.heap.size) (hbW : Below w.heap.size w W2)
    (hrg : W2.ranges Try.prog 72 rd b w.heap.size N D (fun z => left z && !z.sameKey (kLit i t p)) cnt) (hrd : Rds W2 D ms) (hro : W2.ownsRow w.heap.size 48 5 (.slice A0 n0 c0) n0 (rowM out))
    (hrr : ∀ v ∈ out, W2.ownsRow w.heap.size 50 3 (.slice v.A v.m.l.length v.c) v.m.l.length (rowD v.m.l)) (hlen : out.length = n0) (hp : (out.map (·.m)).Perm (ms.filter (fun m => !left m.k))) (hs : Sorted ms) (hmm : m ∈ ms) (hmk : m.k = kLit i t p) (hlk : left m.k = true)
    (hnl : m.l.length = nl) (hK : ∀ x ∈ ms, x.k = m.k → x = m) (hb5 : Below W2.heap.size W2 w5) (ho5 : w5.ownsRow w.heap.size 50 3 (.slice A5 nl c5) nl (rowD m.l))
    (hown6 : w6.ownsRow w.heap.size 48 5 (.slice (some ⟨gg, 0, none⟩) (n0 + 1) cc) (n0 + 1) (rowM out ++ [.int .i64 m.id, .int .i64 m.ep, .string m.t, .int .i64 m.p, .slice A5 nl c5]))
    (hgrow6 : (w5.alloc (.cells #[.int .i64 m.id, .int .i64 m.ep, .string m.t, .int .i64 m.p, .slice A5 nl c5] 48)).grownBy w6 (Value.slice A0 n0 c0).ownBlock) (ho : Only (bk A0) W2 w6) :
    MGo w ms b w.heap.size N (fun z => left z && !z.sameKey (kLit i t p)) cnt D (some ⟨gg, 0, none⟩) cc (n0 + 1) (out ++ [⟨m, A5, c5⟩]) w6 := by
  have hbk := own_bk hro
  have hnd : ∀ (k : Nat) (cs : Array Value) (fr : Nat × Nat), W2.heap[k]? = some (.cells cs 50 fr) → k ∉ bk A0 := fun k cs fr hk e => by
    obtain ⟨cs', _, h'⟩ := hbk k e
    rw [hk] at h'; injection h' with h'; injection h' with _ h'; exact absurd h' (by decide)
  obtain ⟨⟨_, _, hmap⟩, xa, xb, xc, xd, hit⟩ := ranges_map hrg
  refine ⟨hrg.kept (row := A0.map (·.block)) ⟨ho.os, ho.tape, ho.output, ho.size, fun k hk hne => ho.block k hk (fun e => hne (mem_bk.1 e).symm)⟩ (fun e => ?_) (fun e => ?_), hrd.kept (fun k cs fr hk => ho.block k (Array.getElem?_eq_some_iff.1 hk).1 (hnd k cs fr hk)),
    hbW.trans (ho.below hbW.size (fun k hk => by obtain ⟨_, q, _⟩ := hbk k hk; exact q)), ?_, by rw [List.length_append, hlen]; rfl, ?_, fun v hv => ?_⟩
  · obtain ⟨cs', q, _⟩ := hbk b (mem_bk.2 e.symm); omega
  · obtain ⟨cs', _, q⟩ := hbk w.heap.size (mem_bk.2 e.symm); rw [hit] at q; cases q
  · rw [rowM_app]
    have : rowM [⟨m, A5, c5⟩] = [.int .i64 m.id, .int .i64 m.ep, .string m.t, .int .i64 m.p, .slice A5 nl c5] := by simp [rowM, mkC, hnl]
    rw [this]; exact hown6
  · rw [List.map_append]
    have h1 := filter_step (left := left) hs hmm hlk hK
    rw [← hmk]
    refine (List.perm_append_comm.trans ?_).trans h1
    exact List.Perm.cons _ hp
  · rcases List.mem_append.1 hv with hv | hv
    · have q := hrr v hv
      refine own_only q ho (fun k e => ?_)
      rw [blk_own] at e
      obtain ⟨cs, _, h'⟩ := own_bk q k (mem_bk.2 e)
      exact hnd k cs (0, 0) h'
    · rw [List.mem_singleton.1 hv]
      dsimp only
      rw [hnl]
      have q := ho5.alloc (.cells #[.int .i64 m.id, .int .i64 m.ep, .string m.t, .int .i64 m.p, .slice A5 nl c5] 48)
      refine own_at q (fun k e => hgrow6.block k (q.lt k e).2 (fun z => ?_))
      rw [blk_own] at e z
      obtain ⟨cs, _, h'⟩ := own_bk q k (mem_bk.2 e)
      obtain ⟨cs', _, h2⟩ := own_bk ((own_below hro hb5).alloc (.cells #[.int .i64 m.id, .int .i64 m.ep, .string m.t, .int .i64 m.p, .slice A5 nl c5] 48)) k (mem_bk.2 z.symm)
      rw [h'] at h2; injection h2 with h2; injection h2 with _ h2; exact absurd h2 (by decide)
/-- what Makers tells -/
def MakersP (w : World) (ms : List Mk) (e : Ending) (w' : World) : Prop :=
  ∃ A c vs, e = .returned (.slice A ms.length c) ∧ vs.map (·.m) = ms ∧ ReadsM w' A vs ∧ (∀ v ∈ vs, w'.ownsRow w.heap.size 50 3 (.slice v.A v.m.l.length v.c) v.m.l.length (rowD v.m.l)) ∧ (∀ k ∈ bk A, w.heap.size ≤ k ∧ ∃ cs fr, w'.heap[k]? = some (.cells cs 48 fr)) ∧ Below w.heap.size w w'

set_option maxRecDepth 100000 in
set_option maxHeartbeats 8000000 in
theorem makers_is {w : World} {g cap b N : Nat} {A : Option Addr} {es : List Int} {ms : List Mk} (h : Hid (Tab w g A cap b N es ms)) (G : Hid (Good es ms)) (hm : ms.length ≤ 100000) :
    Calls Try.prog 17 #[.pointer (some ⟨g, 0, none⟩)] w (MakersP w ms) := by
  obtain ⟨i0, hi0, hz0, hz1, hz2⟩ := info_parts makerInfo
  obtain ⟨ne, hne⟩ : ∃ n, es.length = n := ⟨_, rfl⟩
  have HNE := Lib.hid hne
  have HL : Hid (ne ≤ 32) := Lib.hid (by rw [← hne]; exact G.out.len)
  have c1 := h.out.c1
  obtain ⟨D, hown, hrd⟩ := h.out.map.rds
  have HRD := Lib.hid hrd
  have HW0 := Lib.hid h.out.map.lt
  clear hrd hne
  go_enter Try.func17, Try.ntmps17
  go_wp2_with (at_range; refine wpList_range_own _ rfl _ 63 rfl 72 46 lawSpot Try.underlying63 _ b N D rfl hown ?_; intro w0 hrg0 hg0 hs0)
  go_frame
  have HRG0 := Lib.hid hrg0
  have HG0 := Lib.hid hg0
  clear c1 hown hrg0 hg0 hs0
  go_loopw [3] (fun sv wr => ∃ (left : Lit → Bool) (cnt : Nat) (D' : DataW Value) (A0 : Option Addr) (c0 n0 : Nat) (out : List MV), sv = .slice A0 n0 c0 ∧ Hid (MGo w ms b w.heap.size N left cnt D' A0 c0 n0 out wr)) (fun _ wr => wr.rangeLeft b w.heap.size)
  case atStart => exact ⟨_, _, D, none, 0, 0, [], rfl, Lib.hid ⟨HRG0.out, HRD.out.kept (fun q cs fr hq => HG0.out.block q (Array.getElem?_eq_some_iff.1 hq).1 (by simp)), (Below.refl _ _).grown HG0.out (Nat.le_refl _) (fun q e => by cases e), World.ownsRow_nil _ _ _ _, rfl, by
    rw [List.filter_eq_nil_iff.2 (fun m hm => by simp [(HRD.out.1 m.k).2 ⟨m, hm, rfl⟩])]; exact List.Perm.refl _, fun v hv => by simp at hv⟩⟩
  case round =>
    obtain ⟨left, cnt, D', A0, c0, n0, out, rfl, HG⟩ := hrel
    have hrg := HG.out.rg
    go_wp2_with (at_next; refine wpList_next_ranges _ rfl _ rfl 72 lawSpot rd kV (fun x : Option Addr × Nat × Nat => .slice x.1 x.2.1 x.2.2) (fun key kl h => by obtain ⟨x, e, _⟩ := key_inv h; exact ⟨x, e⟩) (fun v y h => by obtain ⟨x, e, _⟩ := rd_inv h; exact ⟨x, e⟩) b w.heap.size N _ _ _ rfl hrg ?_ ?_)
    · intro _ hl0
      have hperm := HG.out.perm
      rw [List.filter_eq_self.2 (fun m _ => by rw [hl0]; rfl)] at hperm
      have hnms : n0 = ms.length := by rw [← HG.out.len, ← hperm.length_eq, List.length_map]
      have HP := Lib.hid hperm
      clear hl0 hrg hperm
      subst hnms
      by_cases hz : ms.length = 0
      · have hms : ms = [] := List.eq_nil_of_length_eq_zero hz
        subst hms
        have ho : out = [] := List.eq_nil_of_length_eq_zero HG.out.len
        have hcon := AnyF.slices_SortFunc_none { Try.sortMk with } A0 c0 (.func (.func 40) #[] #[]) wr
        change Calls Try.prog 39 _ _ _ at hcon
        go_wp2_with (go_at_call 39; refine hcon.mono ?_; rintro e w5 ⟨rfl, rfl⟩)
        go_ret
        refine ⟨A0, c0, [], rfl, rfl, fun q => absurd q (by simp), fun v hv => (by simp at hv), fun k hk => ?_, HG.out.bel⟩
        obtain ⟨cs, q1, q2⟩ := own_bk HG.out.own k hk
        exact ⟨q1, cs, (0, 0), q2⟩
      · obtain ⟨gb, cb, hv, _, hgb⟩ := HG.out.own.form (by omega)
        obtain ⟨rfl, rfl⟩ : A0 = some ⟨gb, 0, none⟩ ∧ c0 = cb := by injection hv with e1 _ e3; exact ⟨e1, e3⟩
        clear hv
        go_wp2_with (go_at_call 39; refine (sort_is out ms ms.length c0 gb wr w.heap.size HG.out.own HG.out.len (by omega) HP.out G.out.sorted).mono ?_; rintro e w5 ⟨rfl, vs', hvp, hvm, hvr, hvt, hvo⟩)
        go_ret
        refine ⟨some ⟨gb, 0, none⟩, c0, vs', rfl, hvm, hvr, fun v hv => ?_, fun k hk => ?_, HG.out.bel.trans (hvo.below HG.out.bel.size (fun k hk => ?_))⟩
        · have q := HG.out.rows v (hvp.mem_iff.1 hv)
          refine own_only q hvo (fun k e z => ?_)
          rw [blk_own] at e
          obtain ⟨cs, _, h'⟩ := own_bk q k (mem_bk.2 e)
          obtain ⟨cs', _, h2⟩ := own_bk HG.out.own gb (by simp [bk])
          have : k = gb := by simpa using z
          rw [this, h2] at h'; injection h' with h'; injection h' with _ h'; exact absurd h' (by decide)
        · have : k = gb := by simpa [bk] using hk
          subst this
          obtain ⟨cs', h2⟩ := hvt
          obtain ⟨_, q, _⟩ := own_bk HG.out.own k (by simp [bk])
          exact ⟨q, cs', (0, 0), h2⟩
        · have : k = gb := by simpa using hk
          subst this
          obtain ⟨_, q, _⟩ := own_bk HG.out.own k (by simp [bk])
          exact q
    · intro i t p Ad nl cd kl yd yp w1 cnt1 hkey hlk hv hat hrg1 hlt hg1 hs1 hen
      obtain ⟨⟨hi, ht, hp⟩, rfl⟩ := key_is hkey
      dsimp only [kV] at hen hi ht hp ⊢
      dsimp only at hrg1 hlk hat
      obtain ⟨m, hmm, hmk⟩ : ∃ m ∈ ms, m.k = kLit i t p := (HG.out.rds.1 _).1 (Maps.has_true_of_atKey hat)
      have hK := G.out.keys m hmm
      obtain ⟨e1, e2, e3⟩ := kLit_inj hK.1 hK.2.1 hK.2.2 hi ht hp hmk
      obtain rfl := e1
      obtain rfl := e2
      obtain rfl := e3
      obtain ⟨A', c', ha, hR⟩ := HG.out.rds.2 m hmm
      obtain ⟨rfl, hnl, rfl⟩ : Ad = A' ∧ m.l.length = nl ∧ cd = c' := by
        have q1 := ha (.held (.bool true))
        rw [hmk, hat] at q1
        have q2 : rd (.slice Ad nl cd) = some (.held (.slice Ad nl cd), []) := rfl
        rw [q2] at hv
        have q3 : DataW.held (Value.slice Ad nl cd) = yd := congrArg Prod.fst (Option.some.inj hv)
        rw [← q3] at q1
        injection q1 with q1
        injection q1 with a1 a2 a3
        exact ⟨a1, a2.symm, a3⟩
      obtain ⟨W2, hW2⟩ : ∃ W2, w1.alloc (.cells #[.int .i64 m.id, .string m.t, .int .i64 m.p] 72) = W2 := ⟨_, rfl⟩
      obtain ⟨sb, hsb⟩ : ∃ sb, w1.heap.size = sb := ⟨_, rfl⟩
      obtain ⟨d0, d1, d2⟩ : W2.cell? ⟨sb, 0, none⟩ = some (.int .i64 m.id) ∧ W2.cell? ⟨sb, 1, none⟩ = some (.string m.t) ∧ W2.cell? ⟨sb, 2, none⟩ = some (.int .i64 m.p) := by
        rw [← hW2, ← hsb]; exact spot_box (Below.refl _ _)
      have hb2 : Below w1.heap.size w1 W2 := by rw [← hW2]; exact one_box' _
      have hb1 : Below w.heap.size w w1 := HG.out.bel.grown hg1 HG.out.bel.size (fun q e => by injection e with e; omega)
      have hbW : Below w.heap.size w W2 := hb1.trans (hb2.mono hb1.size)
      obtain ⟨_, xa, xb, xc, xd, hit⟩ := ranges_map hrg
      have hrw : RowC W2 Ad cd m.l := ((hR.kept (iter_did hit hg1))).below hb2
      have hro : W2.ownsRow w.heap.size 48 5 (.slice A0 n0 c0) n0 (rowM out) := by
        refine own_below (own_at HG.out.own (fun q e => hg1.block q (HG.out.own.lt q e).2 (fun z => ?_))) hb2
        injection z with z; subst z
        rw [blk_own] at e
        obtain ⟨cs, _, hc⟩ := own_bk HG.out.own _ (mem_bk.2 e)
        rw [hit] at hc; cases hc
      have hrr : ∀ v ∈ out, W2.ownsRow w.heap.size 50 3 (.slice v.A v.m.l.length v.c) v.m.l.length (rowD v.m.l) := fun v hv => by
        have q0 := HG.out.rows v hv
        refine own_below (own_at q0 (fun q e => hg1.block q (q0.lt q e).2 (fun z => ?_))) hb2
        injection z with z; subst z
        rw [blk_own] at e
        obtain ⟨cs, _, hc⟩ := own_bk q0 _ (mem_bk.2 e)
        rw [hit] at hc; cases hc
      have hrd2 : Rds W2 D' ms := (HG.out.rds.kept (iter_did hit hg1)).kept (fun q cs fr hq => hb2.block q (Array.getElem?_eq_some_iff.1 hq).1)
      have hrg2 := ranges_below hrg1 hb2
      obtain ⟨⟨f1, f2, f3⟩, f4, f5⟩ := G.out.fit m hmm
      obtain ⟨j, hj⟩ : ∃ j : Nat, (m.id - 1).toNat = j := ⟨_, rfl⟩
      rw [hj] at f3
      obtain ⟨k, hAk, hklt, _, _, hkc, _⟩ := own_num h.out.own f3
      have d4 : W2.cell? ⟨k, j, none⟩ = some (.int .i64 m.ep) := cell_at hbW hkc
      have d3 : W2.cell? ⟨g, 0, none⟩ = some (.slice (some ⟨k, 0, none⟩) ne cap) := by
        have q := cell_at hbW h.out.c0
        rw [HNE.out, hAk] at q; exact q
      have hlo : ∀ q ∈ bk A0, w.heap.size ≤ q ∧ q < sb := fun q hq => by
        obtain ⟨cs, q1, q2⟩ := own_bk HG.out.own q hq
        have := (Array.getElem?_eq_some_iff.1 q2).1
        exact ⟨q1, by rw [← hsb, hs1]; exact this⟩
      have NSB : Hid (sb ∉ bk A0) := Lib.hid (fun e => by have := (hlo _ e).2; omega)
      have NG : Hid (g ∉ bk A0) := Lib.hid (fun e => by have := (hlo _ e).1; have := h.out.lt; omega)
      have NK : Hid (k ∉ bk A0) := Lib.hid (fun e => by have := (hlo _ e).1; omega)
      have hn0 : n0 ≤ 100000 := by
        rw [← HG.out.len]
        have := HG.out.perm.length_eq
        rw [List.length_map] at this
        rw [this]
        exact Nat.le_trans (List.length_filter_le _ _) hm
      have i1 : wrap64 (m.id - 1) = (j : Int) := by rw [HNE.out] at f2; have := HL.out; simp only [wrap64]; omega
      have i2 : m.id - 1 = (j : Int) := by omega
      have j0 : (0 : Int) ≤ (j : Int) := by omega
      have j1 : (j : Int) < (ne : Int) := by rw [HNE.out] at f2; omega
      have hne32 := HL.out
      have i3 : IntKind.i64.wrap (j : Int) = (j : Int) := IntWalk.i64_in _ (by omega)
      clear hne32
      have HNL : Hid (m.l.length = nl) := Lib.hid hnl
      have HN5 : Hid (nl ≤ 1000000) := Lib.hid (by omega)
      have HAD : Hid (Ad = none → nl = 0 ∧ cd = 0) := Lib.hid (fun e => by
        obtain ⟨_, _, _, _, e', _⟩ := hrw.1 (by omega)
        rw [e'] at e; cases e)
      have HRW : Hid (RowD W2 Ad m.l) := Lib.hid hrw.1
      have HOW := Lib.hid hro
      have HRR := Lib.hid hrr
      have HRD2 := Lib.hid hrd2
      have HRG2 := Lib.hid hrg2
      have HBW := Lib.hid hbW
      have HWS : Hid (w.heap.size ≤ W2.heap.size) := Lib.hid hbW.size
      have HMM := Lib.hid hmm
      have HKU : Hid (∀ x ∈ ms, x.k = m.k → x = m) := Lib.hid (fun x hx e => by
        have hX := G.out.keys x hx
        obtain ⟨a1, a2, a3⟩ := kLit_inj hX.1 hX.2.1 hX.2.2 hK.1 hK.2.1 hK.2.2 e
        exact G.out.sorted.unique hx hmm ⟨a1, a2, a3⟩)
      have HMK := Lib.hid hmk
      have HLK : Hid (left m.k = true) := Lib.hid (by rw [hmk]; exact hlk)
      have HLE : Hid (cnt1 < wr.rangeLeft b w.heap.size) := Lib.hid (by rw [hrg.left_eq]; exact hlt)
      have HLEN := Lib.hid HG.out.len
      have HPERM := Lib.hid HG.out.perm
      have HW2 := Lib.hid hW2
      have HSB := Lib.hid hsb
      clear hkey hlk hv hat hrg1 hlt hg1 hs1 hb1 hb2 hbW hrw hro hrr hrd2 hrg2 hlo hR ha hK hi ht hp hmm hmk hnl f1 f2 f3 f4 f5 hj hAk hklt hkc hit hrg hsb hW2
      go_upto_region 5 with (fail)
      rw [HSB.out, HW2.out]

      refine wp_region_held_drew (S := fun w' => (w'.cell? ⟨sb, 0, none⟩ = some (.int .i64 m.id) ∧ w'.cell? ⟨sb, 1, none⟩ = some (.string m.t) ∧ w'.cell? ⟨sb, 2, none⟩ = some (.int .i64 m.p) ∧ w'.cell? ⟨g, 0, none⟩ = some (.slice (some ⟨k, 0, none⟩) ne cap) ∧ w'.cell? ⟨k, j, none⟩ = some (.int .i64 m.ep)) ∧ Only (bk A0) W2 w') (by kernel_rfl) (keep5s (drewB _) d0 d1 d2 d3 d4) (fun hHeld => ?_)
      refine wpAnyH_take (i := 0) (oi := ?o1) (v := ?v1) ?a1 (by kernel_rfl) (by kernel_rfl) (by kernel_rfl) ?q1 (Or.inl ⟨?g1, ?y1⟩) (by assumption) ?r1; (case' a1 => (simp only [List.getElem?_toArray, List.getElem?_cons_zero]; rfl)); (case' q1 => (exact fun _ _ _ h => h)); (case' g1 => rfl); (case' y1 => (intro w hSw; (try dsimp only at hSw); go_simp; try with_reducible rfl)); (case' r1 => (try simp only [Act.put, List.setIfInBounds_toArray, List.set_cons_zero, List.set_cons_succ]))
      refine wpAnyH_take (i := 1) (oi := ?o2) (v := ?v2) ?a2 (by kernel_rfl) (by kernel_rfl) (by kernel_rfl) ?q2 (Or.inl ⟨?g2, ?y2⟩) (by assumption) ?r2; (case' a2 => (simp only [List.getElem?_toArray, List.getElem?_cons_zero, List.getElem?_cons_succ]; rfl)); (case' q2 => (exact fun _ _ _ h => h)); (case' g2 => rfl); (case' y2 => (intro w hSw; (try dsimp only at hSw); go_simp; try with_reducible rfl)); (case' r2 => (try simp only [Act.put, List.setIfInBounds_toArray, List.set_cons_zero, List.set_cons_succ]))
      refine wpAnyH_take (i := 2) (oi := ?o3) (v := ?v3) ?a3 (by kernel_rfl) (by kernel_rfl) (by kernel_rfl) ?q3 (Or.inl ⟨?g3, ?y3⟩) (by assumption) ?r3; (case' a3 => (simp only [List.getElem?_toArray, List.getElem?_cons_zero, List.getElem?_cons_succ]; rfl)); (case' q3 => (exact fun _ _ _ h => h)); (case' g3 => rfl); (case' y3 => (intro w hSw; (try dsimp only at hSw); go_simp; try with_reducible rfl)); (case' r3 => (try simp only [Act.put, List.setIfInBounds_toArray, List.set_cons_zero, List.set_cons_succ]))
      refine wpAnyH_take (i := 3) (oi := ?o4) (v := ?v4) ?a4 (by kernel_rfl) (by kernel_rfl) (by kernel_rfl) ?q4 (Or.inl ⟨?g4, ?y4⟩) (by assumption) ?r4; (case' a4 => (simp only [List.getElem?_toArray, List.getElem?_cons_zero, List.getElem?_cons_succ]; rfl)); (case' q4 => (exact fun _ _ _ h => h)); (case' g4 => rfl); (case' y4 => (intro w hSw; (try dsimp only at hSw); go_simp; try with_reducible rfl)); (case' r4 => (try simp only [Act.put, List.setIfInBounds_toArray, List.set_cons_zero, List.set_cons_succ]))
      refine wpAnyH_take (i := 4) (oi := ?o5) (v := ?v5) ?a5 (by kernel_rfl) (by kernel_rfl) (by kernel_rfl) ?q5 (Or.inl ⟨?g5, ?y5⟩) (by assumption) ?r5; (case' a5 => (simp only [List.getElem?_toArray, List.getElem?_cons_zero, List.getElem?_cons_succ]; rfl)); (case' q5 => (exact fun _ _ _ h => h)); (case' g5 => rfl); (case' y5 => (intro w hSw; (try dsimp only at hSw); go_simp; try with_reducible rfl)); (case' r5 => (try simp only [Act.put, List.setIfInBounds_toArray, List.set_cons_zero, List.set_cons_succ]))
      refine wpAnyH_take (i := 5) (oi := ?o6) (v := ?v6) ?a6 (by kernel_rfl) (by kernel_rfl) (by kernel_rfl) ?q6 (Or.inl ⟨?g6, ?y6⟩) (by assumption) ?r6; (case' a6 => (simp only [List.getElem?_toArray, List.getElem?_cons_zero, List.getElem?_cons_succ]; rfl)); (case' q6 => (exact fun _ _ _ h => h)); (case' g6 => rfl); (case' y6 => (intro w hSw; (try dsimp only at hSw); go_simp; try with_reducible rfl)); (case' r6 => (try simp only [Act.put, List.setIfInBounds_toArray, List.set_cons_zero, List.set_cons_succ]))
      refine wpAnyH_take (i := 6) (oi := ?o7) (v := ?v7) ?a7 (by kernel_rfl) (by kernel_rfl) (by kernel_rfl) ?q7 (Or.inl ⟨?g7, ?y7⟩) (by assumption) ?r7; (case' a7 => (simp only [List.getElem?_toArray, List.getElem?_cons_zero, List.getElem?_cons_succ]; rfl)); (case' q7 => (exact fun _ _ _ h => h)); (case' g7 => rfl); (case' y7 => (intro w hSw; (try dsimp only at hSw); go_simp; try with_reducible rfl)); (case' r7 => (try simp only [Act.put, List.setIfInBounds_toArray, List.set_cons_zero, List.set_cons_succ]))
      refine wpAnyH_take (i := 7) (oi := ?o8) (v := ?v8) ?a8 (by kernel_rfl) (by kernel_rfl) (by kernel_rfl) ?q8 (Or.inl ⟨?g8, ?y8⟩) (by assumption) ?r8; (case' a8 => (simp only [List.getElem?_toArray, List.getElem?_cons_zero, List.getElem?_cons_succ]; rfl)); (case' q8 => (exact fun _ _ _ h => h)); (case' g8 => rfl); (case' y8 => (intro w hSw; (try dsimp only at hSw); go_simp; try with_reducible rfl)); (case' r8 => (try simp only [Act.put, List.setIfInBounds_toArray, List.set_cons_zero, List.set_cons_succ]))
      refine wpAnyH_take (i := 8) (oi := ?o9) (v := ?v9) ?a9 (by kernel_rfl) (by kernel_rfl) (by kernel_rfl) ?q9 (Or.inl ⟨?g9, ?y9⟩) (by assumption) ?r9; (case' a9 => (simp only [List.getElem?_toArray, List.getElem?_cons_zero, List.getElem?_cons_succ]; rfl)); (case' q9 => (exact fun _ _ _ h => h)); (case' g9 => rfl); (case' y9 => (intro w hSw; (try dsimp only at hSw); go_simp; try with_reducible rfl)); (case' r9 => (try simp only [Act.put, List.setIfInBounds_toArray, List.set_cons_zero, List.set_cons_succ]))
      refine wpAnyH_take (i := 9) (oi := ?o10) (v := ?v10) ?a10 (by kernel_rfl) (by kernel_rfl) (by kernel_rfl) ?q10 (Or.inl ⟨?g10, ?y10⟩) (by assumption) ?r10; (case' a10 => (simp only [List.getElem?_toArray, List.getElem?_cons_zero, List.getElem?_cons_succ]; rfl)); (case' q10 => (exact fun _ _ _ h => h)); (case' g10 => rfl); (case' y10 => (intro w hSw; (try dsimp only at hSw); go_simp; try with_reducible rfl)); (case' r10 => (try simp only [Act.put, List.setIfInBounds_toArray, List.set_cons_zero, List.set_cons_succ]))
      refine wpAnyH_take (i := 10) (oi := ?o11) (v := ?v11) ?a11 (by kernel_rfl) (by kernel_rfl) (by kernel_rfl) ?q11 (Or.inl ⟨?g11, ?y11⟩) (by assumption) ?r11; (case' a11 => (simp only [List.getElem?_toArray, List.getElem?_cons_zero, List.getElem?_cons_succ]; rfl)); (case' q11 => (exact fun _ _ _ h => h)); (case' g11 => rfl); (case' y11 => (intro w hSw; (try dsimp only at hSw); go_simp; try with_reducible rfl)); (case' r11 => (try simp only [Act.put, List.setIfInBounds_toArray, List.set_cons_zero, List.set_cons_succ]))
      refine wpAnyH_take (i := 11) (oi := ?o12) (v := ?v12) ?a12 (by kernel_rfl) (by kernel_rfl) (by kernel_rfl) ?q12 (Or.inl ⟨?g12, ?y12⟩) (by assumption) ?r12; (case' a12 => (simp only [List.getElem?_toArray, List.getElem?_cons_zero, List.getElem?_cons_succ]; rfl)); (case' q12 => (exact fun _ _ _ h => h)); (case' g12 => rfl); (case' y12 => (intro w hSw; (try dsimp only at hSw); go_simp; try with_reducible rfl)); (case' r12 => (try simp only [Act.put, List.setIfInBounds_toArray, List.set_cons_zero, List.set_cons_succ]))
      refine wpAnyH_take (i := 12) (oi := ?o13) (v := ?v13) ?a13 (by kernel_rfl) (by kernel_rfl) (by kernel_rfl) ?q13 (Or.inl ⟨?g13, ?y13⟩) (by assumption) ?r13; (case' a13 => (simp only [List.getElem?_toArray, List.getElem?_cons_zero, List.getElem?_cons_succ]; rfl)); (case' q13 => (exact fun _ _ _ h => h)); (case' g13 => rfl); (case' y13 => (intro w hSw; (try dsimp only at hSw); go_simp; try with_reducible rfl)); (case' r13 => (try simp only [Act.put, List.setIfInBounds_toArray, List.set_cons_zero, List.set_cons_succ]))
      refine wpAnyH_take (i := 13) (oi := ?o14) (v := ?v14) ?a14 (by kernel_rfl) (by kernel_rfl) (by kernel_rfl) ?q14 (Or.inl ⟨?g14, ?y14⟩) (by assumption) ?r14; (case' a14 => (simp only [List.getElem?_toArray, List.getElem?_cons_zero, List.getElem?_cons_succ]; rfl)); (case' q14 => (exact fun _ _ _ h => h)); (case' g14 => rfl); (case' y14 => (intro w hSw; (try dsimp only at hSw); go_simp; try with_reducible rfl)); (case' r14 => (try simp only [Act.put, List.setIfInBounds_toArray, List.set_cons_zero, List.set_cons_succ]))
      refine wpAnyH_take (i := 14) (oi := ?o15) (v := ?v15) ?a15 (by kernel_rfl) (by kernel_rfl) (by kernel_rfl) ?q15 (Or.inl ⟨?g15, ?y15⟩) (by assumption) ?r15; (case' a15 => (simp only [List.getElem?_toArray, List.getElem?_cons_zero, List.getElem?_cons_succ]; rfl)); (case' q15 => (exact fun _ _ _ h => h)); (case' g15 => rfl); (case' y15 => (intro w hSw; (try dsimp only at hSw); go_simp; try with_reducible rfl)); (case' r15 => (try simp only [Act.put, List.setIfInBounds_toArray, List.set_cons_zero, List.set_cons_succ]))
      refine wpAnyH_ready (rs := [15]) (by kernel_rfl) (by simp) ?_
      refine AllReadyH.cons (o := ?o16) ?a16 (fun K hK => ?s16) ?m16; (case' a16 => (simp only [List.getElem?_toArray, List.getElem?_cons_zero, List.getElem?_cons_succ]; rfl))
      case s16 =>
        go_simp
        go_at_call 38
        refine (cloneD_is Ad nl cd (rowD m.l) _ HAD.out (Lib.hid (by rw [rowD_len, HNL.out])) HN5.out (Lib.hid (rowD_one _)) (Lib.hid ((HRW.out.below (drewB _)).src))).mono ?_
        rintro e w5 ⟨A5, c5, rfl, ho5, hb5⟩
        have HB5 : Hid (Below W2.heap.size W2 w5) := Lib.hid ((drewB W2).trans (hb5.mono (drewB W2).size))
        have HO5 := Lib.hid (own_base ho5 (base' := w.heap.size) HWS.out)
        clear ho5
        go_wp2_with fail
        refine hK.out _ _ (keep5 hHeld hb5) (fun hHeld => ?_)
        clear hK K
        (try simp only [Act.put, List.setIfInBounds_toArray, List.set_cons_zero, List.set_cons_succ])
        refine wpAnyH_take (i := 16) (oi := ?o17) (v := ?v17) ?a17 (by kernel_rfl) (by kernel_rfl) (by kernel_rfl) ?q17 (Or.inl ⟨?g17, ?y17⟩) (by assumption) ?r17; (case' a17 => (simp only [List.getElem?_toArray, List.getElem?_cons_zero, List.getElem?_cons_succ]; rfl)); (case' q17 => (exact fun _ _ _ h => h)); (case' g17 => rfl); (case' y17 => (intro w hSw; (try dsimp only at hSw); go_simp; try with_reducible rfl)); (case' r17 => (try simp only [Act.put, List.setIfInBounds_toArray, List.set_cons_zero, List.set_cons_succ]))
        refine wpAnyH_ready (rs := [17]) (by kernel_rfl) (by simp) ?_
        refine AllReadyH.cons (o := ?o18) ?a18 (fun K hK => ?s18) ?m18; (case' a18 => (simp only [List.getElem?_toArray, List.getElem?_cons_zero, List.getElem?_cons_succ]; rfl))
        case s18 =>
          go_simp
          refine hK.out _ _ (keep5 hHeld (one_box' _)) (fun hHeld => ?_)
          clear hK K
          (try simp only [Act.put, List.setIfInBounds_toArray, List.set_cons_zero, List.set_cons_succ])
          refine wpAnyH_ready (rs := [18]) (by kernel_rfl) (by simp) ?_
          refine AllReadyH.cons (o := ?o19) ?a19 (fun K hK => ?s19) ?m19; (case' a19 => (simp only [List.getElem?_toArray, List.getElem?_cons_zero, List.getElem?_cons_succ]; rfl))
          case s19 =>
            refine step_append_lies _ (by rfl) _ _ _ (by rfl) w.heap.size 48 i0 _ 5 64 Try.underlying27 hi0 hz0 hz1 hz2 rfl (by omega) (.slice A0 n0 c0) n0 (rowM out) (by rfl) ((own_below HOW.out HB5.out).alloc _) ⟨w5.heap.size, 0, none⟩ 1 1 [.int .i64 m.id, .int .i64 m.ep, .string m.t, .int .i64 m.p, .slice A5 nl c5] (by rfl) (by rfl) (World.news_of_block (cs := #[.int .i64 m.id, .int .i64 m.ep, .string m.t, .int .i64 m.p, .slice A5 nl c5]) (t := 48) (fr := (0, 0)) (heap_alloc_new w5 _)) (by simp [Value.oneCell']) (by omega) (by unfold maxLen; omega) (by omega) (by have := HWS.out; have := HB5.out.size; simp; omega) (w5.heap.size + 1) (by simp) ?_
            intro gg cc w6 hown6 hgrow6 hat6 hlt6
            refine hK.out _ _ (keep5o hHeld hgrow6 NSB.out NG.out NK.out) (fun hHeld => ?_)
            clear hK K
            (try simp only [Act.put, List.setIfInBounds_toArray, List.set_cons_zero, List.set_cons_succ])
            refine wpAnyH_take (i := 19) (oi := ?o20) (v := ?v20) ?a20 (by kernel_rfl) (by kernel_rfl) (by kernel_rfl) ?q20 (Or.inl ⟨?g20, ?y20⟩) (by assumption) ?r20; (case' a20 => (simp only [List.getElem?_toArray, List.getElem?_cons_zero, List.getElem?_cons_succ]; rfl)); (case' q20 => (exact fun _ _ _ h => h)); (case' g20 => rfl); (case' y20 => (intro w hSw; (try dsimp only at hSw); go_simp; try with_reducible rfl)); (case' r20 => (try simp only [Act.put, List.setIfInBounds_toArray, List.set_cons_zero, List.set_cons_succ]))
            refine wpAnyH_done (by kernel_rfl) ?_ _
            have FIN := Lib.hid (mgo_step HW0.out HBW.out HRG2.out HRD2.out HOW.out HRR.out HLEN.out HPERM.out G.out.sorted HMM.out HMK.out HLK.out HNL.out HKU.out HB5.out HO5.out hown6 hgrow6 hHeld.2)
            clear hown6 hgrow6 hat6 hlt6 hHeld
            go_roundw
            case rel => exact ⟨_, _, _, _, _, _, _, _, _, _, _, _, _, _, _, _, _, _, _, _, _, _, _, _, _, _, _, ⟨_, cnt1, D', some ⟨gg, 0, none⟩, cc, n0 + 1, _, rfl, FIN⟩, rfl⟩
            case measure => rw [FIN.out.rg.left_eq]; exact HLE.out
          exact AllReadyH.nil
        exact AllReadyH.nil
      exact AllReadyH.nil
end Go.Proofs.Ytcmlopflandlgaa.L8
