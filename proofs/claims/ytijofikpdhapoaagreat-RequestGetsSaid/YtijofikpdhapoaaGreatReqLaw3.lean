/-
  What the laws of layer 4 share: a command of any kind.
-/
import Derived.Test.YtijofikpdhapoaaGreatMReqLaw
import Derived.Test.YtijofikpdhapoaaGreatReqPut
import Derived.Test.YtijofikpdhapoaaGreatReqGet
import Derived.Test.YtijofikpdhapoaaGreatReqSame2
import Derived.Test.YtijofikpdhapoaaGreatReqSameP
namespace Go.Proofs.YtijofikpdhapoaaGreat.L4
open Go.RowKit
open L3

/-- what Check tells of a command whose kind may be none -/
def ChkU (kind : Int) (o : O) (x : Int) : Prop := (kind = (o.kind : Int) ∧ o.kind ≤ 12 ∧ o.chk = x) ∨ ((kind < 0 ∨ 12 < kind) ∧ x = 41)
theorem ChkU.ex (kind : Int) (o : O) (h : o.kind = kind.toNat) : ∃ x, ChkU kind o x := by
  by_cases hk : 0 ≤ kind ∧ kind ≤ 12
  · exact ⟨_, .inl ⟨by omega, by omega, rfl⟩⟩
  · exact ⟨41, .inr ⟨by omega, rfl⟩⟩
theorem ChkU.ok {kind : Int} {o : O} (h : ChkU kind o 0) : kind = (o.kind : Int) ∧ o.kind ≤ 12 ∧ o.chk = 0 := by
  rcases h with h | ⟨_, h⟩
  · exact h
  · exact absurd h (by decide)
/-- what Put tells of it -/
def PutU (kind : Int) (o : O) (s : ByteArray) (x : Int) : Prop := ChkU kind o x ∧ s = if x = 0 then o.bytes else ⟨#[]⟩
theorem PutU.ex (kind : Int) (o : O) (h : o.kind = kind.toNat) : ∃ s x, PutU kind o s x := by
  obtain ⟨x, hx⟩ := ChkU.ex kind o h
  exact ⟨_, x, hx, rfl⟩
theorem PutU.ok {kind : Int} {o : O} {s : ByteArray} (h : PutU kind o s 0) : kind = (o.kind : Int) ∧ o.kind ≤ 12 ∧ o.chk = 0 ∧ s = o.bytes := by
  obtain ⟨h1, h2⟩ := h
  obtain ⟨h3, h4, h5⟩ := h1.ok
  exact ⟨h3, h4, h5, h2⟩

theorem catB_size {o : O} {ks : List Nat} (g : Good o ks) : ∀ (js : List Nat) (S : ByteArray), (∀ j ∈ js, j ∈ ks) → (catB o S js).size ≤ S.size + 20000 * js.length
  | [], S, _ => by show S.size ≤ _; omega
  | j :: js, S, h => by
    have h1 := catB_size g js (S ++ itemB o j) (fun i hi => h i (by simp [hi]))
    have h2 := good_size g j (h j (by simp))
    have e : catB o S (j :: js) = catB o (S ++ itemB o j) js := rfl
    rw [e]
    rw [ByteArray.size_append] at h1
    simp only [List.length_cons]
    omega
theorem hasK_len : ∀ k ≤ 12, (hasK k).length ≤ 6 := by
  intro k hk
  have : k = 0 ∨ k = 1 ∨ k = 2 ∨ k = 3 ∨ k = 4 ∨ k = 5 ∨ k = 6 ∨ k = 7 ∨ k = 8 ∨ k = 9 ∨ k = 10 ∨ k = 11 ∨ k = 12 := by omega
  rcases this with rfl | rfl | rfl | rfl | rfl | rfl | rfl | rfl | rfl | rfl | rfl | rfl | rfl <;> decide
theorem bytes_size {o : O} (hk : o.kind ≤ 12) (hc : o.chk = 0) : o.bytes.size ≤ 200000 := by
  have h := catB_size (chk_ok hk hc).2 (hasK o.kind) (V.put o.kind) (fun j hj => hj)
  have h1 := hasK_len o.kind hk
  have h2 : (V.put o.kind).size ≤ 10 := by
    have := put_le (o.kind : Int) (by omega)
    rwa [Int.toNat_natCast] at this
  have h3 : o.bytes = catB o (V.put o.kind) (hasK o.kind) := rfl
  rw [h3]
  omega
theorem PutU.size {kind : Int} {o : O} {s : ByteArray} {x : Int} (h : PutU kind o s x) : s.size ≤ 200000 := by
  obtain ⟨h1, h2⟩ := h
  by_cases hx : x = 0
  · subst hx
    rw [if_pos rfl] at h2
    rw [h2]
    exact bytes_size h1.ok.2.1 h1.ok.2.2
  · rw [if_neg hx] at h2
    rw [h2]
    exact Nat.zero_le 200000

set_option maxRecDepth 100000 in
set_option maxHeartbeats 8000000 in
theorem put_kind (kind : Int) (a1 a2 a3 a4 a5 a6 a7 a8 a9 a10 a11 a12 a13 : Value) (w : World) (hk : Hid (kind < 0 ∨ 12 < kind)) :
    Calls Tryz.prog 18 #[.agg #[.int .i64 kind, a1, a2, a3, a4, a5, a6, a7, a8, a9, a10, a11, a12, a13]] w fun e w' => e = .returned (.tuple #[.string ⟨#[]⟩, .int .i64 41]) ∧ Below w.heap.size w w' := by
  go_enter Tryz.func18, Tryz.ntmps18
  go_wp2_with (go_at_call 15; refine (check_bad _ _ _ _ _ _ _ _ _ _ _ _ _ _ _ hk.out).mono ?_; rintro e w1 ⟨rfl, hb1⟩; have HB1 := Lib.hid ((one_box (.cells #[.int .i64 kind, a1, a2, a3, a4, a5, a6, a7, a8, a9, a10, a11, a12, a13] 29 (0, 0))).trans (hb1.mono (by simp))); have r1 := (hb1.block w.heap.size (by simp)).trans (heap_alloc_new w (.cells #[.int .i64 kind, a1, a2, a3, a4, a5, a6, a7, a8, a9, a10, a11, a12, a13] 29 (0, 0))); have x0 := row14 (j := 0) r1 rfl; have x1 := row14 (j := 1) r1 rfl; have x2 := row14 (j := 2) r1 rfl; have x3 := row14 (j := 3) r1 rfl; have x4 := row14 (j := 4) r1 rfl; have x5 := row14 (j := 5) r1 rfl; have x6 := row14 (j := 6) r1 rfl; have x7 := row14 (j := 7) r1 rfl; have x8 := row14 (j := 8) r1 rfl; have x9 := row14 (j := 9) r1 rfl; have x10 := row14 (j := 10) r1 rfl; have x11 := row14 (j := 11) r1 rfl; have x12 := row14 (j := 12) r1 rfl; have x13 := row14 (j := 13) r1 rfl; clear r1 hb1)
  go_ret2
  exact ⟨rfl, HB1.out⟩

theorem put_u (kind : Int) {o : O} {RA TA : Option Addr} (rc tc : Nat) {w : World} (HC : Hid (Cutd o)) (ha : Hid (At o RA TA w)) (s : ByteArray) (x : Int) (HP : Hid (PutU kind o s x)) :
    Calls Tryz.prog 18 #[.agg #[.int .i64 kind, .string o.topic, .int .i64 o.pn, .int .i64 o.n, .int .i64 o.off, .int .i64 o.bp, .int .i64 o.be, .int .i64 o.bq, .slice RA o.recs.length rc, .string o.group, .string o.member, .int .i64 o.gen, .bool o.robin, .slice TA o.tops.length tc]] w fun e w' => e = .returned (.tuple #[.string s, .int .i64 x]) ∧ Below w.heap.size w w' := by
  obtain ⟨hc, hs⟩ := HP.out
  rcases hc with ⟨rfl, hk, hx⟩ | ⟨hk, rfl⟩
  · by_cases h0 : x = 0
    · subst h0
      rw [if_pos rfl] at hs
      subst hs
      exact put_ok o RA TA rc tc hk (Lib.hid hx) w.heap.size w (Nat.le_refl _) (Lib.hid HC.out.mt) (Lib.hid HC.out.mg) (Lib.hid HC.out.mm) (Lib.hid ha.out.r) HC.out.r (Lib.hid HC.out.mrs) (Lib.hid ha.out.t) (Lib.hid HC.out.ml) (Lib.hid HC.out.mls)
    · rw [if_neg h0] at hs
      subst hs
      exact put_bad o RA TA rc tc hk x (Lib.hid hx) h0 w.heap.size w (Nat.le_refl _) (Lib.hid HC.out.mt) (Lib.hid HC.out.mg) (Lib.hid HC.out.mm) (Lib.hid ha.out.r) HC.out.r (Lib.hid HC.out.mrs) (Lib.hid ha.out.t) (Lib.hid HC.out.ml) (Lib.hid HC.out.mls)
  · rw [if_neg (by decide)] at hs
    subst hs
    exact put_kind kind _ _ _ _ _ _ _ _ _ _ _ _ _ w (Lib.hid hk)
theorem check_u (kind : Int) {o : O} {RA TA : Option Addr} (rc tc : Nat) {w : World} (HC : Hid (Cutd o)) (ha : Hid (At o RA TA w)) (x : Int) (HX : Hid (ChkU kind o x)) :
    Calls Tryz.prog 15 #[.agg #[.int .i64 kind, .string o.topic, .int .i64 o.pn, .int .i64 o.n, .int .i64 o.off, .int .i64 o.bp, .int .i64 o.be, .int .i64 o.bq, .slice RA o.recs.length rc, .string o.group, .string o.member, .int .i64 o.gen, .bool o.robin, .slice TA o.tops.length tc]] w fun e w' => e = .returned (.int .i64 x) ∧ Below w.heap.size w w' := by
  rcases HX.out with ⟨rfl, hk, hx⟩ | ⟨hk, rfl⟩
  · exact check_at rc tc x hk HC ha (Lib.hid hx)
  · exact check_bad kind _ _ _ _ _ _ _ _ _ _ _ _ _ w hk
theorem rcheck_u (kind : Int) {o : O} {RA TA : Option Addr} (rc tc : Nat) {w : World} (HC : Hid (Cutd o)) (ha : Hid (At o RA TA w)) (x : Int) (HX : Hid (ChkU kind o x)) :
    Calls Tryz.prog 28 #[.agg #[.int .i64 kind, .string o.topic, .int .i64 o.pn, .int .i64 o.n, .int .i64 o.off, .int .i64 o.bp, .int .i64 o.be, .int .i64 o.bq, .slice RA o.recs.length rc, .string o.group, .string o.member, .int .i64 o.gen, .bool o.robin, .slice TA o.tops.length tc]] w fun e w' => e = .returned (.int .i64 x) ∧ Below w.heap.size w w' := by
  rcases HX.out with ⟨rfl, hk, hx⟩ | ⟨hk, rfl⟩
  · exact rcheck_at rc tc x hk HC ha (Lib.hid hx)
  · exact rcheck_bad kind _ _ _ _ _ _ _ _ _ _ _ _ _ w hk
theorem Small.cutd {o : O} (h : Small o) : Cutd o := ⟨by have := h.t; omega, by have := h.g; omega, by have := h.m; omega, by have := h.r; omega, fun r hr => by have := h.rs r hr; omega, by have := h.l; omega, fun s hs => by have := h.ls s hs; omega⟩
theorem Owns.grow {o : O} {RA TA : Option Addr} {rc tc base base' : Nat} {w : World} (h : Owns o RA TA rc tc base w) (hb : base' ≤ base) : Owns o RA TA rc tc base' w := ⟨own_mono h.r hb, own_mono h.t hb⟩

/-- a command of the call's own: the row it lies in, and its lists -/
structure Sits (kind : Int) (o : O) (H : Nat) (RA TA : Option Addr) (rc tc base : Nat) (w : World) : Prop where
  row : w.heap[H]? = some (.cells #[.int .i64 kind, .string o.topic, .int .i64 o.pn, .int .i64 o.n, .int .i64 o.off, .int .i64 o.bp, .int .i64 o.be, .int .i64 o.bq, .slice RA o.recs.length rc, .string o.group, .string o.member, .int .i64 o.gen, .bool o.robin, .slice TA o.tops.length tc] 29 (0, 0))
  own : Owns o RA TA rc tc base w
theorem Sits.below {kind : Int} {o : O} {H : Nat} {RA TA : Option Addr} {rc tc base : Nat} {w w' : World} (h : Sits kind o H RA TA rc tc base w) (hb : Below w.heap.size w w') : Sits kind o H RA TA rc tc base w' := ⟨(hb.block H (Array.getElem?_eq_some_iff.1 h.row).1).trans h.row, h.own.below hb⟩
theorem Sits.at {kind : Int} {o : O} {H : Nat} {RA TA : Option Addr} {rc tc base : Nat} {w : World} (h : Sits kind o H RA TA rc tc base w) : At o RA TA w := h.own.at
theorem Sits.drew {kind : Int} {o : O} {H : Nat} {RA TA : Option Addr} {rc tc base : Nat} {w : World} (h : Sits kind o H RA TA rc tc base w) : Sits kind o H RA TA rc tc base w.drew := h.below (Below.refl _ _).drew
theorem Sits.alloc {kind : Int} {o : O} {H : Nat} {RA TA : Option Addr} {rc tc base : Nat} {w : World} (h : Sits kind o H RA TA rc tc base w) (x : Obj) : Sits kind o H RA TA rc tc base (w.alloc x) := h.below (one_box x)
theorem set14_other {w : World} {H k : Nat} {v0 v1 v2 v3 v4 v5 v6 v7 v8 v9 v10 v11 v12 v13 : Value} (hk : k ≠ H) : ((((((((((((((w.setCell ⟨H, 0, none⟩ v0).setCell ⟨H, 1, none⟩ v1).setCell ⟨H, 2, none⟩ v2).setCell ⟨H, 3, none⟩ v3).setCell ⟨H, 4, none⟩ v4).setCell ⟨H, 5, none⟩ v5).setCell ⟨H, 6, none⟩ v6).setCell ⟨H, 7, none⟩ v7).setCell ⟨H, 8, none⟩ v8).setCell ⟨H, 9, none⟩ v9).setCell ⟨H, 10, none⟩ v10).setCell ⟨H, 11, none⟩ v11).setCell ⟨H, 12, none⟩ v12).setCell ⟨H, 13, none⟩ v13).heap[k]? = w.heap[k]? := by
  rw [heap_setCell_other _ _ _ _ hk, heap_setCell_other _ _ _ _ hk, heap_setCell_other _ _ _ _ hk, heap_setCell_other _ _ _ _ hk, heap_setCell_other _ _ _ _ hk, heap_setCell_other _ _ _ _ hk, heap_setCell_other _ _ _ _ hk, heap_setCell_other _ _ _ _ hk, heap_setCell_other _ _ _ _ hk, heap_setCell_other _ _ _ _ hk, heap_setCell_other _ _ _ _ hk, heap_setCell_other _ _ _ _ hk, heap_setCell_other _ _ _ _ hk, heap_setCell_other _ _ _ _ hk]
theorem Sits.other {kind : Int} {o : O} {H G : Nat} {RA TA : Option Addr} {rc tc base : Nat} {w : World} (h : Sits kind o H RA TA rc tc base w) (hn : H ≠ G) (hG : G < base) (v0 v1 v2 v3 v4 v5 v6 v7 v8 v9 v10 v11 v12 v13 : Value) : Sits kind o H RA TA rc tc base ((((((((((((((w.setCell ⟨G, 0, none⟩ v0).setCell ⟨G, 1, none⟩ v1).setCell ⟨G, 2, none⟩ v2).setCell ⟨G, 3, none⟩ v3).setCell ⟨G, 4, none⟩ v4).setCell ⟨G, 5, none⟩ v5).setCell ⟨G, 6, none⟩ v6).setCell ⟨G, 7, none⟩ v7).setCell ⟨G, 8, none⟩ v8).setCell ⟨G, 9, none⟩ v9).setCell ⟨G, 10, none⟩ v10).setCell ⟨G, 11, none⟩ v11).setCell ⟨G, 12, none⟩ v12).setCell ⟨G, 13, none⟩ v13) :=
  ⟨(set14_other hn).trans h.row, h.own.set hG _ _ _ _ _ _ _ _ _ _ _ _ _ _⟩
theorem Sits.lt {kind : Int} {o : O} {H : Nat} {RA TA : Option Addr} {rc tc base : Nat} {w : World} (h : Sits kind o H RA TA rc tc base w) : H < w.heap.size := (Array.getElem?_eq_some_iff.1 h.row).1
/-- two commands of the call's own, and what stood before -/
structure St (w : World) (kind0 kind1 : Int) (o p : O) (RA TA : Option Addr) (rc tc : Nat) (RAp TAp : Option Addr) (rcp tcp base0 base1 : Nat) (wr : World) : Prop where
  a : Sits kind0 o w.heap.size RA TA rc tc base0 wr
  b : Sits kind1 p (w.heap.size + 1) RAp TAp rcp tcp base1 wr
  c : Below w.heap.size w wr
section
variable {w : World} {kind0 kind1 : Int} {o p : O} {RA TA : Option Addr} {rc tc : Nat} {RAp TAp : Option Addr} {rcp tcp base0 base1 : Nat} {wr w' : World}
theorem St.below (h : St w kind0 kind1 o p RA TA rc tc RAp TAp rcp tcp base0 base1 wr) (hb : Below wr.heap.size wr w') : St w kind0 kind1 o p RA TA rc tc RAp TAp rcp tcp base0 base1 w' := ⟨h.a.below hb, h.b.below hb, acc h.c hb⟩
theorem St.box (h : St w kind0 kind1 o p RA TA rc tc RAp TAp rcp tcp base0 base1 wr) (x : Obj) : St w kind0 kind1 o p RA TA rc tc RAp TAp rcp tcp base0 base1 (wr.alloc x) := h.below (one_box x)
end

/-- Get of a command's bytes, and of what is none's -/
theorem get_ok (s : ByteArray) (o : O) (w : World) (hs : s.size ≤ 140737488355328) (HQ : Hid (readO s false = (o, some (s.size : Int)))) (HX : Hid (o.chk = 0)) : Calls Tryz.prog 5 #[.string s] w (GotO o 0 w) := by
  have h := get_in s o _ w hs HQ
  rw [if_pos ⟨rfl, HX.out⟩, if_pos ⟨rfl, HX.out⟩] at h
  exact h
def GotNo (w : World) (x : Ending) (w' : World) : Prop :=
  ∃ RA TA rc tc, x = .returned (.tuple #[.agg #[.int .i64 0, .string ⟨#[]⟩, .int .i64 0, .int .i64 0, .int .i64 0, .int .i64 0, .int .i64 0, .int .i64 0, .slice RA 0 rc, .string ⟨#[]⟩, .string ⟨#[]⟩, .int .i64 0, .bool false, .slice TA 0 tc], .int .i64 40]) ∧ Below w.heap.size w w'
theorem get_none (s : ByteArray) (w : World) (hs : s.size ≤ 140737488355328) (HQ : Hid (∀ o q, readO s false = (o, q) → ¬ (q = some (s.size : Int) ∧ o.chk = 0))) : Calls Tryz.prog 5 #[.string s] w (GotNo w) := by
  obtain ⟨o, q, hq⟩ : ∃ o q, readO s false = (o, q) := ⟨_, _, rfl⟩
  have h := get_in s o q w hs (Lib.hid hq)
  rw [if_neg (HQ.out o q hq), if_neg (HQ.out o q hq)] at h
  refine h.mono ?_
  rintro e w' ⟨RA, TA, rc, tc, rfl, _, _, hb⟩
  exact ⟨RA, TA, rc, tc, rfl, hb⟩
theorem rsame_zero (RA TA : Option Addr) (rc tc : Nat) (w : World) :
    Calls Tryz.prog 6 #[.agg #[.int .i64 0, .string ⟨#[]⟩, .int .i64 0, .int .i64 0, .int .i64 0, .int .i64 0, .int .i64 0, .int .i64 0, .slice RA 0 rc, .string ⟨#[]⟩, .string ⟨#[]⟩, .int .i64 0, .bool false, .slice TA 0 tc], .agg #[.int .i64 0, .string ⟨#[]⟩, .int .i64 0, .int .i64 0, .int .i64 0, .int .i64 0, .int .i64 0, .int .i64 0, .slice none 0 0, .string ⟨#[]⟩, .string ⟨#[]⟩, .int .i64 0, .bool false, .slice none 0 0]] w fun e w' => e = .returned (.bool true) ∧ Below w.heap.size w w' :=
  rsame_is 0 ⟨#[]⟩ 0 0 0 0 0 0 [] ⟨#[]⟩ ⟨#[]⟩ 0 false [] RA TA rc tc 0 ⟨#[]⟩ 0 0 0 0 0 0 [] ⟨#[]⟩ ⟨#[]⟩ 0 false [] none none 0 0 w.heap.size true w (Lib.hid fun h => absurd h (by simp)) (Lib.hid fun h => absurd h (by simp)) (Lib.hid fun h => absurd h (by simp)) (Lib.hid fun h => absurd h (by simp)) (Nat.le_refl _) (by simp) (by simp) (Lib.hid ⟨fun _ => ⟨rfl, rfl, rfl, rfl, rfl, rfl, rfl, rfl, rfl, rfl, rfl, rfl, rfl, rfl⟩, fun _ => rfl⟩)
/-- the bytes of a command that may be are got -/
theorem PutU.got {kind : Int} {o : O} {s : ByteArray} (h : PutU kind o s 0) : readO s false = (o, some (s.size : Int)) := by
  obtain ⟨h1, h2, h3, h4⟩ := h.ok
  rw [h4]
  exact readO_put h2 h3 false
theorem PutU.back {s : ByteArray} {o : O} (h : readO s false = (o, some (s.size : Int))) (hc : o.chk = 0) : PutU (o.kind : Int) o s 0 := by
  obtain ⟨h1, h2, h3⟩ := get_yes h rfl hc
  exact ⟨.inl ⟨rfl, h1, h2⟩, by rw [if_pos rfl]; exact h3.symm⟩
theorem O.ext_iff' (o p : O) : o = p ↔ (o.kind = p.kind ∧ o.topic = p.topic ∧ o.pn = p.pn ∧ o.n = p.n ∧ o.off = p.off ∧ o.bp = p.bp ∧ o.be = p.be ∧ o.bq = p.bq ∧ o.recs = p.recs ∧ o.group = p.group ∧ o.member = p.member ∧ o.gen = p.gen ∧ o.robin = p.robin ∧ o.tops = p.tops) := by
  cases o; cases p; simp
/-- two that may be have the same bytes just if they are the same -/
theorem PutU.same {k k' : Int} {o p : O} {s t : ByteArray} (h : PutU k o s 0) (h' : PutU k' p t 0) {v : Bool} (hv : (s.toList == t.toList) = v) :
    v = true ↔ (k = k' ∧ o.topic = p.topic ∧ o.pn = p.pn ∧ o.n = p.n ∧ o.off = p.off ∧ o.bp = p.bp ∧ o.be = p.be ∧ o.bq = p.bq ∧ o.recs = p.recs ∧ o.group = p.group ∧ o.member = p.member ∧ o.gen = p.gen ∧ o.robin = p.robin ∧ o.tops = p.tops) := by
  obtain ⟨h1, h2, h3, h4⟩ := h.ok
  obtain ⟨g1, g2, g3, g4⟩ := h'.ok
  have e : v = true ↔ s = t := by
    rw [← hv, beq_iff_eq, ByteArray.toList_eq, ByteArray.toList_eq]
    constructor
    · intro e; cases s; cases t; simpa using e
    · rintro rfl; rfl
  rw [e, h4, g4, h1, g1]
  have e2 : o.bytes = p.bytes ↔ o = p := ⟨fun e => bytes_inj h2 g2 h3 g3 e, fun e => by rw [e]⟩
  rw [e2, O.ext_iff' o p]
  constructor
  · rintro ⟨a, b⟩; exact ⟨by omega, b⟩
  · rintro ⟨a, b⟩; exact ⟨by omega, b⟩
theorem bool_iff (P : Prop) : ∃ v : Bool, v = true ↔ P := by
  by_cases h : P
  · exact ⟨true, by simp [h]⟩
  · exact ⟨false, by simp [h]⟩
/-- the answer whether two commands are the same -/
def SameO (v : Bool) (k : Int) (o : O) (k' : Int) (p : O) : Prop := v = true ↔ (k = k' ∧ o.topic = p.topic ∧ o.pn = p.pn ∧ o.n = p.n ∧ o.off = p.off ∧ o.bp = p.bp ∧ o.be = p.be ∧ o.bq = p.bq ∧ o.recs = p.recs ∧ o.group = p.group ∧ o.member = p.member ∧ o.gen = p.gen ∧ o.robin = p.robin ∧ o.tops = p.tops)
theorem SameO.refl (k : Int) (o : O) : SameO true k o k o := ⟨fun _ => ⟨rfl, rfl, rfl, rfl, rfl, rfl, rfl, rfl, rfl, rfl, rfl, rfl, rfl, rfl⟩, fun _ => rfl⟩
theorem SameO.ex (k : Int) (o : O) (k' : Int) (p : O) : ∃ v, SameO v k o k' p := bool_iff _
theorem SameO.symm {v : Bool} {k k' : Int} {o p : O} (h : SameO v k o k' p) : SameO v k' p k o :=
  Iff.trans h ⟨fun ⟨a, b, c, d, e, f, g, h, i, j, k, l, m, n⟩ => ⟨a.symm, b.symm, c.symm, d.symm, e.symm, f.symm, g.symm, h.symm, i.symm, j.symm, k.symm, l.symm, m.symm, n.symm⟩, fun ⟨a, b, c, d, e, f, g, h, i, j, k, l, m, n⟩ => ⟨a.symm, b.symm, c.symm, d.symm, e.symm, f.symm, g.symm, h.symm, i.symm, j.symm, k.symm, l.symm, m.symm, n.symm⟩⟩
theorem PutU.sameo {k k' : Int} {o p : O} {s t : ByteArray} (h : PutU k o s 0) (h' : PutU k' p t 0) {v : Bool} (hv : (s.toList == t.toList) = v) : SameO v k o k' p := h.same h' hv
theorem rsame_o (k : Int) (o : O) (RA TA : Option Addr) (rc tc : Nat) (k' : Int) (p : O) (RA' TA' : Option Addr) (rc' tc' : Nat) (v : Bool) {w : World} (ha : Hid (At o RA TA w)) (hb : Hid (At p RA' TA' w)) (HC : Hid (Cutd o)) (HV : Hid (SameO v k o k' p)) :
    Calls Tryz.prog 6 #[.agg #[.int .i64 k, .string o.topic, .int .i64 o.pn, .int .i64 o.n, .int .i64 o.off, .int .i64 o.bp, .int .i64 o.be, .int .i64 o.bq, .slice RA o.recs.length rc, .string o.group, .string o.member, .int .i64 o.gen, .bool o.robin, .slice TA o.tops.length tc], .agg #[.int .i64 k', .string p.topic, .int .i64 p.pn, .int .i64 p.n, .int .i64 p.off, .int .i64 p.bp, .int .i64 p.be, .int .i64 p.bq, .slice RA' p.recs.length rc', .string p.group, .string p.member, .int .i64 p.gen, .bool p.robin, .slice TA' p.tops.length tc']] w fun e w' => e = .returned (.bool v) ∧ Below w.heap.size w w' :=
  rsame_is k o.topic o.pn o.n o.off o.bp o.be o.bq o.recs o.group o.member o.gen o.robin o.tops RA TA rc tc k' p.topic p.pn p.n p.off p.bp p.be p.bq p.recs p.group p.member p.gen p.robin p.tops RA' TA' rc' tc' w.heap.size v w (Lib.hid ha.out.r) (Lib.hid hb.out.r) (Lib.hid ha.out.t) (Lib.hid hb.out.t) (Nat.le_refl _) HC.out.mr HC.out.ml (Lib.hid HV.out)
theorem same_o (k : Int) (o : O) (RA TA : Option Addr) (rc tc : Nat) (k' : Int) (p : O) (RA' TA' : Option Addr) (rc' tc' : Nat) (v : Bool) {w : World} (ha : Hid (At o RA TA w)) (hb : Hid (At p RA' TA' w)) (HC : Hid (Cutd o)) (HV : Hid (SameO v k o k' p)) :
    Calls Tryz.prog 23 #[.agg #[.int .i64 k, .string o.topic, .int .i64 o.pn, .int .i64 o.n, .int .i64 o.off, .int .i64 o.bp, .int .i64 o.be, .int .i64 o.bq, .slice RA o.recs.length rc, .string o.group, .string o.member, .int .i64 o.gen, .bool o.robin, .slice TA o.tops.length tc], .agg #[.int .i64 k', .string p.topic, .int .i64 p.pn, .int .i64 p.n, .int .i64 p.off, .int .i64 p.bp, .int .i64 p.be, .int .i64 p.bq, .slice RA' p.recs.length rc', .string p.group, .string p.member, .int .i64 p.gen, .bool p.robin, .slice TA' p.tops.length tc']] w fun e w' => e = .returned (.bool v) ∧ Below w.heap.size w w' :=
  same_is k o.topic o.pn o.n o.off o.bp o.be o.bq o.recs o.group o.member o.gen o.robin o.tops RA TA rc tc k' p.topic p.pn p.n p.off p.bp p.be p.bq p.recs p.group p.member p.gen p.robin p.tops RA' TA' rc' tc' w.heap.size v w (Lib.hid ha.out.r) (Lib.hid hb.out.r) (Lib.hid ha.out.t) (Lib.hid hb.out.t) (Nat.le_refl _) HC.out.mr HC.out.ml (Lib.hid HV.out)
end Go.Proofs.YtijofikpdhapoaaGreat.L4
