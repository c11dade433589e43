/-
  Contract: is a segment in the state that the document says?
-/
import Derived.Test.YtflcggpeflagiaaMSegMine
namespace Go.Proofs.Ytflcggpeflagiaa.L5
open Go.RowKit
open L3 L4

theorem len_is' {T : TypeId} {w : World} {g : Nat} {A : Option Addr} {cap : Nat} {base next : Int} {L : List L4.Fd} (h : Hid (Seg T w g A cap base next L)) :
    Calls Try.prog 27 #[.pointer (some ⟨g, 0, none⟩)] w fun e w' => e = .returned (.int .i64 L.length) ∧ Below w.heap.size w w' :=
  (len_is h).mono (fun _ _ ⟨h, q⟩ => ⟨h, q ▸ Below.refl _ _⟩)

end Go.Proofs.Ytflcggpeflagiaa.L5
/-
  Contracts: the law's records: at most 70, each cut short.
-/
namespace Go.Proofs.Ytflcggpeflagiaa.L5
open Go.RowKit
open L3 L4

/-- at most 70 records, each cut short -/
def recsL (l : List R) : List R := (l.take 70).map R.cut
theorem recs_len (l : List R) : (recsL l).length = min 70 l.length := by simp [recsL]
theorem recs_small {l : List R} : ∀ r ∈ recsL l, r.key.size ≤ 80 ∧ r.val.size ≤ 600 := fun r hr => by
  obtain ⟨q, _, rfl⟩ := List.mem_map.1 hr
  exact ⟨cutS_size q.key 80, cutS_size q.val 600⟩
theorem rowOf_cut (l : List R) (n : Nat) : rowOf (l.take n) = (rowOf l).take (n * 4) := by
  by_cases h : n ≤ l.length
  · have e := rowOf_app (l.take n) (l.drop n)
    rw [List.take_append_drop] at e
    rw [e]
    have hl : (rowOf (l.take n)).length = n * 4 := by rw [rowOf_len, List.length_take]; omega
    rw [← hl, List.take_left]
  · rw [List.take_of_length_le (by omega), List.take_of_length_le (by rw [rowOf_len]; omega)]
/-- the first ones of a row of one's own -/
theorem own_first {w : World} {base n m cap : Nat} {A : Option Addr} {T : TypeId} {l : List R} (h : w.ownsRow base T 4 (.slice A n cap) n (rowOf l)) (hm : m ≤ n) : w.ownsRow base T 4 (.slice A m cap) m (rowOf (l.take m)) := by
  have hl := h.1
  rw [rowOf_len] at hl
  refine ⟨by rw [rowOf_len, List.length_take]; have : l.length = n := by omega
             omega, ?_⟩
  rcases h.2 with ⟨e, e0⟩ | ⟨g, c, cur, e, h1, h2, h3, h4, h5, h6⟩
  · injection e with e1 e2 e3
    obtain rfl : m = 0 := by omega
    exact .inl ⟨by rw [e1, e3], rfl⟩
  · injection e with e1 e2 e3
    refine .inr ⟨g, c, cur, by rw [e1, e3], h1, h2, by omega, h4, h5, ?_⟩
    rw [rowOf_cut, ← h6, List.take_take]
    congr 1
    omega
theorem at_recs {w : World} {base b n c : Nat} {T : TypeId} {l : List R} (h : w.ownsRow base T 4 (.slice (some ⟨b, 0, none⟩) n c) n (rowOf l)) : At w b 0 (rowOf l) := fun j u hu => h.cells (g := b) rfl j u hu
theorem reads_part {w : World} {B g o : Nat} {l : List R} (hg : g < B) (h : ∀ i r, l[i]? = some r → w.cell? ⟨g, o + i * 4, none⟩ = some (.bool r.hk) ∧ w.cell? ⟨g, o + i * 4 + 1, none⟩ = some (.string r.key) ∧ w.cell? ⟨g, o + i * 4 + 2, none⟩ = some (.bool r.tb) ∧ w.cell? ⟨g, o + i * 4 + 3, none⟩ = some (.string r.val)) (i : Nat) (L : List R) (hL : ∀ k r, L[k]? = some r → l[i + k]? = some r) : ReadsO w B (some ⟨g, o + i * 4, none⟩) L := fun _ =>
  ⟨g, o + i * 4, rfl, hg, fun k r hr => by
    have := h (i + k) r (hL k r hr)
    rwa [show o + (i + k) * 4 = o + i * 4 + k * 4 by omega] at this⟩
theorem drop_take_at {l : List R} {i q : Nat} : ∀ k r, ((l.drop i).take q)[k]? = some r → l[i + k]? = some r := fun k r h => by
  have hk := (List.getElem?_eq_some_iff.1 h).1
  rw [List.length_take] at hk
  rwa [List.getElem?_take_of_lt (by omega), List.getElem?_drop] at h

/-- a turn's plain facts -/
structure Turn (w : World) (B g o : Nat) (l : List R) (k n cap q : Nat) : Prop where
  e1 : wrap64 ((k : Int) + 20) = (k : Int) + 20
  e2 : min ((k : Int) + 20) (n : Int) = ((k + q : Nat) : Int)
  q20 : q ≤ 20
  q0 : 0 < q
  kq : k + q ≤ n
  QL : ((l.drop k).take q).length = q
  RO : ∀ W, Below w.heap.size w W → ReadsO W w.heap.size (some ⟨g, o + k * 4, none⟩) ((l.drop k).take q)
  T20 : (((l.drop k).take q).take 20).map R.cut = ((l.drop k).take q).map R.cut
  NX : rowOf ((l.take k).map R.cut) ++ rowOf (((l.drop k).take q).map R.cut) = rowOf ((l.take (k + 20)).map R.cut)
  ML : (((l.drop k).take q).map R.cut).length = q

theorem next_twenty {l : List R} {k q n : Nat} (hn : l.length = n) (hq : q = min (k + 20) n - k) : (l.drop k).take q = (l.drop k).take 20 := by
  by_cases h : k + 20 ≤ n
  · rw [show q = 20 by omega]
  · rw [List.take_of_length_le (by rw [List.length_drop, hn]; omega), List.take_of_length_le (by rw [List.length_drop, hn]; omega)]
theorem next_rows {l : List R} {k q n : Nat} (hn : l.length = n) (hq : q = min (k + 20) n - k) : rowOf ((l.take k).map R.cut) ++ rowOf (((l.drop k).take q).map R.cut) = rowOf ((l.take (k + 20)).map R.cut) := by
  rw [next_twenty hn hq, ← rowOf_app, ← List.map_append, List.take_add]
theorem wrap_twenty {k : Nat} (hk : k ≤ 80) : wrap64 ((k : Int) + 20) = (k : Int) + 20 := by
  simp only [wrap64]; omega
theorem recs_turn {A : Option Addr} {l : List R} {n cap B k : Nat} {w : World} (hR : Hid (ReadsO w B A l)) (hB : B ≤ w.heap.size) (HN : Hid (l.length = n)) (h1 : k < n) (h2 : k < 70) : ∃ g o q, A = some ⟨g, o, none⟩ ∧ g < B ∧ Turn w B g o l k n cap q := by
  have hn := HN.out
  obtain ⟨g, o, rfl, hg, hcells⟩ := hR.out (by omega)
  obtain ⟨q, hq⟩ : ∃ q, q = min (k + 20) n - k := ⟨_, rfl⟩
  have q20 : q ≤ 20 := by omega
  have kq : k + q ≤ n := by omega
  have QL : ((l.drop k).take q).length = q := by rw [List.length_take, List.length_drop, hn]; omega
  refine ⟨g, o, q, rfl, hg, wrap_twenty (by omega), by omega, q20, by omega, kq, QL, ?_, by rw [List.take_of_length_le (by rw [QL]; exact q20)], next_rows hn hq, by rw [List.length_map, QL]⟩
  intro W hW
  have hgw : g < w.heap.size := Nat.lt_of_lt_of_le hg hB
  exact reads_part (l := l) hgw (fun i r hr => by
          obtain ⟨a, b, c, d⟩ := hcells i r hr
          exact ⟨(hW.cell (p := ⟨g, o + i * 4, none⟩) hgw).trans a, (hW.cell (p := ⟨g, o + i * 4 + 1, none⟩) hgw).trans b, (hW.cell (p := ⟨g, o + i * 4 + 2, none⟩) hgw).trans c, (hW.cell (p := ⟨g, o + i * 4 + 3, none⟩) hgw).trans d⟩) k _ drop_take_at

/-- a turn's Bound -/
theorem bound_turn {w wr : World} {B g o : Nat} {l : List R} {k n cap q cp : Nat} (ft : Turn w B g o l k n cap q) (hb : Below w.heap.size w wr) (hk : q ≤ maxLen) (hs : Hid (∀ r ∈ l, r.key.size ≤ maxLen ∧ r.val.size ≤ maxLen)) :
    Calls Try.prog 23 #[.agg #[.int .i64 0, .int .i64 0, .int .i64 0, .slice (some ⟨g, o + k * 4, none⟩) q cp]] wr (fun x W => ∃ g2 c2, x = .returned (.agg #[.int .i64 0, .int .i64 0, .int .i64 0, .slice (some ⟨g2, 0, none⟩) q c2]) ∧ g2 < W.heap.size ∧ W.ownsRow wr.heap.size 41 4 (.slice (some ⟨g2, 0, none⟩) q c2) q (rowOf (((l.drop k).take q).map R.cut)) ∧ Below wr.heap.size wr W) := by
  have e := bound_any 0 0 0 (some ⟨g, o + k * 4, none⟩) ((l.drop k).take q) cp w.heap.size wr (Lib.hid (ft.RO wr hb)) hb.size (by rw [ft.QL]; exact hk) (Lib.hid (fun r hr => hs.out r (List.mem_of_mem_drop (List.mem_of_mem_take hr))))
  rw [ft.QL, ft.T20] at e
  refine e.mono ?_
  rintro x W ⟨A, c, rfl, ho, hb2⟩
  rw [ft.ML] at ho ⊢
  have hq0 := ft.q0
  rcases ho.2 with ⟨_, e0⟩ | ⟨g2, c2, cur, e, hb, hh, _⟩
  · omega
  · injection e with e1 e2 e3
    subst e1
    exact ⟨g2, c, rfl, (Array.getElem?_eq_some_iff.1 hh).1, ho, hb2⟩

theorem own_cap {w : World} {base n size cap : Nat} {A : Option Addr} {T : TypeId} {xs : List Value} (h : w.ownsRow base T size (.slice A n cap) n xs) : n ≤ cap := by
  rcases h.2 with ⟨e, e0⟩ | ⟨g, c, cur, e, h1, h2, h3, h4, h5, h6⟩
  · omega
  · injection e with e1 e2 e3
    omega
theorem recs_end {l : List R} {k n m p : Nat} (hn : l.length = n) (hm : m = min k n) (hd : n ≤ k ∨ 70 ≤ k) (hp : p = min m 70) : ((l.take k).map R.cut).take p = recsL l ∧ (recsL l).length = p := by
  refine ⟨?_, by rw [recs_len]; omega⟩
  rw [← List.map_take, List.take_take]
  unfold recsL
  congr 1
  by_cases h : n ≤ 70
  · rw [List.take_of_length_le (by omega), List.take_of_length_le (by omega)]
  · congr 1
    omega

/-- what Records tells -/
def RecsP (w : World) (l : List R) (e : Ending) (w' : World) : Prop :=
  ∃ A cap, e = .returned (.slice A l.length cap) ∧ w'.ownsRow w.heap.size 41 4 (.slice A l.length cap) l.length (rowOf l) ∧ Below w.heap.size w w'

set_option maxRecDepth 100000 in
set_option maxHeartbeats 8000000 in
theorem records_any (A : Option Addr) (l : List R) (n cap B : Nat) (w : World) (hR : Hid (ReadsO w B A l)) (hB : B ≤ w.heap.size) (hn : l.length = n) (hl : n ≤ maxLen) (hc : n ≤ cap) (hs : Hid (∀ r ∈ l, r.key.size ≤ maxLen ∧ r.val.size ≤ maxLen)) :
    Calls Try.prog 7 #[.slice A n cap] w (RecsP w (recsL l)) := by
  obtain ⟨i0, hi0, hz0, hz1, hz2⟩ := info_parts recInfo
  unfold maxLen at hl
  have HN := Lib.hid hn
  clear hn
  go_enter Try.func7, Try.ntmps7
  go_wp2_with fail
  go_loopw [3, 4] (fun v i wr => ∃ (k m : Nat) (A1 : Option Addr) (c1 : Nat), k ≤ 80 ∧ m ≤ k ∧ Hid (k % 20 = 0) ∧ i = .int .i64 k ∧ v = .slice A1 m c1 ∧ Hid (m = min k n) ∧ Hid (wr.ownsRow w.heap.size 41 4 (.slice A1 m c1) m (rowOf ((l.take k).map R.cut))) ∧ Below w.heap.size w wr) (fun _ i _ => 90 - (intOf i).toNat)
  case atStart => exact ⟨0, 0, some ⟨w.heap.size, 0, none⟩, 0, by omega, by omega, Lib.hid rfl, rfl, rfl, Lib.hid (by omega), Lib.hid (by simpa [rowOf] using World.ownsRow_made (size := 4) w #[] 0 (Nat.le_refl _) (by unfold maxLen; omega) rfl), one_box _⟩
  case round =>
    obtain ⟨k, m, A1, c1, hk, hmk, hmod, rfl, rfl, hm, hown, hbel⟩ := hrel
    by_cases hlt : k < n ∧ k < 70
    · obtain ⟨h1, h2⟩ := hlt
      obtain ⟨g, o, q, rfl, hg, ft⟩ := recs_turn (cap := cap) hR hB HN h1 h2
      have FT := Lib.hid ft
      have e1 := ft.e1
      have e2 := ft.e2
      have kt : (k : Int) ≤ ((k + q : Nat) : Int) := by omega
      have kn : k + q ≤ cap := Nat.le_trans ft.kq hc
      have kc : k < cap := by omega
      have q20 := ft.q20
      have q0 := ft.q0
      have tc : ((k + q : Nat) : Int) ≤ (cap : Int) := by omega
      clear ft
      have QM : q ≤ maxLen := by unfold maxLen; omega
      have HML : Hid ((rowOf (((l.drop k).take q).map R.cut)).length = q * 4) := Lib.hid (by rw [rowOf_len, FT.out.ML])
      have H1 := Lib.hid (rowOf_one (((l.drop k).take q).map R.cut))
      have hsz := hbel.size
      obtain rfl : k = m := by have := hm.out; omega
      have hk60 : k ≤ 60 := by have := hmod.out; omega
      have HMQ : Hid (k + q = min (k + 20) n) := Lib.hid (by omega)
      have hmq63 : k + q ≤ maxLen := by unfold maxLen; omega
      have hmqb : (k + q) * 48 ≤ 140737488355328 := by omega
      have HMQ63 := Lib.hid hmq63
      have HMQB := Lib.hid hmqb
      clear hmq63 hmqb hk60 hl
      go_wp2_with first
        | (go_at_call 23; refine (bound_turn FT.out hbel QM hs).mono ?_; rintro e W ⟨g2, c2, rfl, hg2, own2, hb2⟩; have O2 := Lib.hid own2; have O1 := Lib.hid (own_below hown.out hb2); have HB2 := Lib.hid hb2; clear own2 hb2)
        | (at_builtin; refine wpList_append_own _ rfl _ _ 30 (by rfl) w.heap.size 41 i0 _ 4 48 Try.underlying30 hi0 hz0 hz1 hz2 rfl (by omega) _ k _ (by rfl) (O1.out.alloc _) ⟨g2, 0, none⟩ q c2 (rowOf (((l.drop k).take q).map R.cut)) (by rfl) HML.out ((at_recs O2.out).below (one_box _) hg2) H1.out HMQ63.out HMQB.out (by simp; have := HB2.out.size; omega) ?_; intro v1 w1 hown1 hgrow1 hnil1)
      obtain ⟨A2, c2', rfl⟩ := own_form hown1
      go_roundw
      case rel =>
        have hk60 : k ≤ 60 := by have := hmod.out; omega
        refine ⟨k + 20, k + q, A2, c2', by omega, by omega, Lib.hid (by have := hmod.out; omega), by go_num, rfl, HMQ, Lib.hid ?_, ((hbel.trans (HB2.out.mono hsz)).alloc (by have := HB2.out.size; omega) _).grown hgrow1 (by simp; have := HB2.out.size; omega) (fun j e => (hown.out.lt j e).1)⟩
        rw [← FT.out.NX]; exact hown1
      case measure => simp [intOf]; omega
    · have hd : n ≤ k ∨ 70 ≤ k := by omega
      obtain ⟨he, hel⟩ := recs_end HN.out hm.out hd rfl
      have pm : min m 70 ≤ m := by omega
      have mc := own_cap hown.out
      have hof := own_first hown.out pm
      rw [he, ← hel] at hof
      have HO := Lib.hid hof
      have HE := Lib.hid hel
      have HMIN : Hid ((min (m : Int) 70).toNat = min m 70) := Lib.hid (by omega)
      clear hel hof he hl pm hown
      have hd : n ≤ k ∨ (k < n ∧ 70 ≤ k) := by omega
      rcases hd with hd | ⟨hd1, hd2⟩
      · go_wp2_with fail
        go_ret
        exact ⟨A1, c1, by show Ending.returned (Value.slice A1 (min (m : Int) 70).toNat c1) = _; rw [HE.out, HMIN.out], HO.out, hbel⟩
      · go_wp2_with fail
        go_ret
        exact ⟨A1, c1, by show Ending.returned (Value.slice A1 (min (m : Int) 70).toNat c1) = _; rw [HE.out, HMIN.out], HO.out, hbel⟩
end Go.Proofs.Ytflcggpeflagiaa.L5
/-
  Whether any records are a segment's: the calls, as the law makes them.
-/
namespace Go.Proofs.Ytflcggpeflagiaa.L5
open Go.RowKit
open L3 L4

/-- a record with its offset, cut short -/
def cutF (f : L4.Fd) : L4.Fd := ⟨f.o, f.r.cut⟩
theorem cut_row {l : List L4.Fd} {k : Nat} {o : Int} {hk tb : Bool} {key val : ByteArray} (h : l[k]? = some ⟨o, ⟨hk, key, tb, val⟩⟩) : rowF ((l.take (k + 1)).map cutF) = rowF ((l.take k).map cutF) ++ [.int .i64 o, .bool hk, .string (cutS key 80), .bool tb, .string (cutS val 600)] := by
  rw [List.take_add_one, h, List.map_append, rowF_app]
  rfl
theorem cut_small (l : List L4.Fd) : ∀ f ∈ l.map cutF, f.r.key.size ≤ maxLen ∧ f.r.val.size ≤ maxLen := fun f hf => by
  obtain ⟨q, _, rfl⟩ := List.mem_map.1 hf
  have h1 := cutS_size q.r.key 80
  have h2 := cutS_size q.r.val 600
  exact ⟨Nat.le_trans h1 (by unfold maxLen; omega), Nat.le_trans h2 (by unfold maxLen; omega)⟩
/-- Records, of one -/
theorem rec_one (hk tb : Bool) (key val : ByteArray) (w : World) (h1 : key.size ≤ maxLen) (h2 : val.size ≤ maxLen) :
    Calls Try.prog 7 #[.slice (some ⟨w.heap.size, 0, none⟩) 1 1] (w.alloc (.cells #[.bool hk, .string key, .bool tb, .string val] 41)) (fun e W => ∃ g c, e = .returned (.slice (some ⟨g, 0, none⟩) 1 c) ∧ (W.cell? ⟨g, 0, none⟩ = some (.bool hk) ∧ W.cell? ⟨g, 1, none⟩ = some (.string (cutS key 80)) ∧ W.cell? ⟨g, 2, none⟩ = some (.bool tb) ∧ W.cell? ⟨g, 3, none⟩ = some (.string (cutS val 600))) ∧ g < W.heap.size ∧ w.heap.size ≤ g ∧ Below w.heap.size w W) := by
  refine (records_any (some ⟨w.heap.size, 0, none⟩) [⟨hk, key, tb, val⟩] 1 1 (w.heap.size + 1) _ (Lib.hid (reads_rows (l := [⟨hk, key, tb, val⟩]) (heap_alloc_new w _) rfl).o) (by simp) rfl (by unfold maxLen; omega) (Nat.le_refl _) (Lib.hid (fun r hr => by rw [List.mem_singleton.1 hr]; exact ⟨h1, h2⟩))).mono ?_
  rintro e W ⟨A, c, rfl, ho, hb⟩
  have ho' : W.ownsRow (w.alloc (.cells #[.bool hk, .string key, .bool tb, .string val] 41)).heap.size 41 4 (.slice A 1 c) 1 [.bool hk, .string (cutS key 80), .bool tb, .string (cutS val 600)] := ho
  obtain ⟨g, c', hv, _, _⟩ := ho'.form (by decide)
  injection hv with e1 e2 e3
  subst e1
  have k0 := ho'.cells (g := g) rfl 0 _ rfl
  have k1 := ho'.cells (g := g) rfl 1 _ rfl
  have k2 := ho'.cells (g := g) rfl 2 _ rfl
  have k3 := ho'.cells (g := g) rfl 3 _ rfl
  rw [addr_add] at k0 k1 k2 k3
  exact ⟨g, c, rfl, ⟨k0, k1, k2, k3⟩, (ho'.lt g rfl).2, by have := (ho'.lt g rfl).1; simp at this; omega, (one_box _).trans (hb.mono (by simp))⟩
theorem new_yes (base : Int) (W : World) (HX : Hid (newE base = 0)) :
    Calls Try.prog 28 #[.int .i64 base] W fun e W' => ∃ g, e = .returned (.tuple #[.pointer (some ⟨g, 0, none⟩), .int .i64 0]) ∧ Below W.heap.size W W' := by
  refine (new_is base 0 W HX).mono ?_
  rintro e W' ⟨h, ⟨hx, _⟩ | ⟨_, g, A, cap, rfl, hf⟩⟩
  · exact absurd rfl hx
  · exact ⟨g, rfl, h⟩
theorem row_at {w : World} {base b n c : Nat} {l : List L4.Fd} (h : w.ownsRow base 43 5 (.slice (some ⟨b, 0, none⟩) n c) n (rowF l)) : Hid (∃ ga, (some ⟨b, 0, none⟩ : Option Addr) = some ⟨ga, 0, none⟩ ∧ ga < w.heap.size ∧ At w ga 0 (rowF l)) :=
  Lib.hid ⟨b, rfl, (h.lt b rfl).2, fun j u hu => h.cells (g := b) rfl j u hu⟩
theorem rload_yes (base next : Int) (b n cap base0 : Nat) (l : List L4.Fd) (w W : World) (hb : Hid (Below w.heap.size w W)) (ho : Hid (W.ownsRow base0 43 5 (.slice (some ⟨b, 0, none⟩) n cap) n (rowF l))) (hn : l.length = n) (hl : n ≤ maxLen) (hs : Hid (∀ f ∈ l, f.r.key.size ≤ maxLen ∧ f.r.val.size ≤ maxLen)) (HX : Hid (loadE base next l = 0)) :
    Calls Try.prog 50 #[.int .i64 base, .int .i64 next, .slice (some ⟨b, 0, none⟩) n cap] W fun e W' => ∃ g, e = .returned (.tuple #[.pointer (some ⟨g, 0, none⟩), .int .i64 0]) ∧ Mine 109 w W'.heap.size W' g base next l ∧ Below W.heap.size W W' := by
  subst hn
  refine (rload_is base next _ l cap W.heap.size 0 W (Lib.hid (ReadsF.own ho.out)) (Nat.le_refl _) hl hs HX (row_at ho.out)).mono ?_
  rintro e W' ⟨h, ⟨hx, _⟩ | ⟨_, g, A, cap, rfl, hf⟩⟩
  · exact absurd rfl hx
  · exact ⟨g, rfl, Mine.made hb.out hf h, h⟩
theorem rload_not (base next : Int) (b n cap base0 : Nat) (l : List L4.Fd) (x : Int) (W : World) (ho : Hid (W.ownsRow base0 43 5 (.slice (some ⟨b, 0, none⟩) n cap) n (rowF l))) (hn : l.length = n) (hl : n ≤ maxLen) (hs : Hid (∀ f ∈ l, f.r.key.size ≤ maxLen ∧ f.r.val.size ≤ maxLen)) (HX : Hid (loadE base next l = x)) (hx : x ≠ 0) :
    Calls Try.prog 50 #[.int .i64 base, .int .i64 next, .slice (some ⟨b, 0, none⟩) n cap] W fun e W' => e = .returned (.tuple #[.pointer none, .int .i64 x]) ∧ Below W.heap.size W W' := by
  subst hn
  refine (rload_is base next _ l cap W.heap.size x W (Lib.hid (ReadsF.own ho.out)) (Nat.le_refl _) hl hs HX (row_at ho.out)).mono ?_
  rintro e W' ⟨h, ⟨_, rfl⟩ | ⟨h0, _⟩⟩
  · exact ⟨rfl, h⟩
  · exact absurd h0 hx
theorem own_reads {w : World} {base b n c : Nat} {l : List L4.Fd} (hn : l.length = n) (h : w.ownsRow base 43 5 (.slice (some ⟨b, 0, none⟩) n c) n (rowF l)) : ReadsF w w.heap.size (some ⟨b, 0, none⟩) l := by
  subst hn; exact ReadsF.own h
section
variable {T : TypeId} {w W : World} {H H2 g g2 : Nat} {base next : Int} {L : List L4.Fd}
theorem all_mine (m : Hid (Mine T w H W g base next L)) {n : Nat} (hn : L.length = n) (hl : n ≤ 64) :
    Calls Try.prog 41 #[.pointer (some ⟨g, 0, none⟩)] W fun e W' => ∃ A c, e = .returned (.slice A n c) ∧ ReadsF W' W'.heap.size A L ∧ Below W.heap.size W W' := by
  subst hn
  refine (mine_all m hl).mono ?_
  rintro e W' ⟨A, c, rfl, ho, hb⟩
  exact ⟨A, c, rfl, ReadsF.own ho, hb⟩
end
end Go.Proofs.Ytflcggpeflagiaa.L5
