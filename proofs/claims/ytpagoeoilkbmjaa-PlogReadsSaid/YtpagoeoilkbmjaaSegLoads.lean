/-
  Whether any records are a segment's: the calls, as the law makes them.
-/
import Derived.Test.YtpagoeoilkbmjaaSegSame
import Derived.Test.YtpagoeoilkbmjaaSegRecs
namespace Go.Proofs.Ytpagoeoilkbmjaa.L5
open Go.RowKit
open L3 L4

/-- a record with its offset, cut short -/
def cutF (f : L4.Fd) : L4.Fd := ⟨f.o, f.r.cut⟩
theorem cut_row {l : List L4.Fd} {k : Nat} {o : Int} {hk tb : Bool} {key val : ByteArray} (h : l[k]? = some ⟨o, ⟨hk, key, tb, val⟩⟩) : rowF ((l.take (k + 1)).map cutF) = rowF ((l.take k).map cutF) ++ [.int .i64 o, .bool hk, .string (cutS key 80), .bool tb, .string (cutS val 600)] := by
  rw [List.take_add_one, h, List.map_append, rowF_app]
  rfl
theorem cut_small (l : List L4.Fd) : ∀ f ∈ l.map cutF, f.r.key.size ≤ maxLen ∧ f.r.val.size ≤ maxLen := fun f hf => by
  obtain ⟨q, _, rfl⟩ := List.mem_map.1 hf
  have h1 := cutS_size q.r.key 80
  have h2 := cutS_size q.r.val 600
  exact ⟨Nat.le_trans h1 (by unfold maxLen; omega), Nat.le_trans h2 (by unfold maxLen; omega)⟩
/-- Records, of one -/
theorem rec_one (hk tb : Bool) (key val : ByteArray) (w : World) (h1 : key.size ≤ maxLen) (h2 : val.size ≤ maxLen) :
    Calls Try.prog 13 #[.slice (some ⟨w.heap.size, 0, none⟩) 1 1] (w.alloc (.cells #[.bool hk, .string key, .bool tb, .string val] 41)) (fun e W => ∃ g c, e = .returned (.slice (some ⟨g, 0, none⟩) 1 c) ∧ (W.cell? ⟨g, 0, none⟩ = some (.bool hk) ∧ W.cell? ⟨g, 1, none⟩ = some (.string (cutS key 80)) ∧ W.cell? ⟨g, 2, none⟩ = some (.bool tb) ∧ W.cell? ⟨g, 3, none⟩ = some (.string (cutS val 600))) ∧ g < W.heap.size ∧ w.heap.size ≤ g ∧ Below w.heap.size w W) := by
  refine (records_any (some ⟨w.heap.size, 0, none⟩) [⟨hk, key, tb, val⟩] 1 1 (w.heap.size + 1) _ (Lib.hid (reads_rows (l := [⟨hk, key, tb, val⟩]) (heap_alloc_new w _) rfl).o) (by simp) rfl (by unfold maxLen; omega) (Nat.le_refl _) (Lib.hid (fun r hr => by rw [List.mem_singleton.1 hr]; exact ⟨h1, h2⟩))).mono ?_
  rintro e W ⟨A, c, rfl, ho, hb⟩
  have ho' : W.ownsRow (w.alloc (.cells #[.bool hk, .string key, .bool tb, .string val] 41)).heap.size 41 4 (.slice A 1 c) 1 [.bool hk, .string (cutS key 80), .bool tb, .string (cutS val 600)] := ho
  obtain ⟨g, c', hv, _, _⟩ := ho'.form (by decide)
  injection hv with e1 e2 e3
  subst e1
  have k0 := ho'.cells (g := g) rfl 0 _ rfl
  have k1 := ho'.cells (g := g) rfl 1 _ rfl
  have k2 := ho'.cells (g := g) rfl 2 _ rfl
  have k3 := ho'.cells (g := g) rfl 3 _ rfl
  rw [addr_add] at k0 k1 k2 k3
  exact ⟨g, c, rfl, ⟨k0, k1, k2, k3⟩, (ho'.lt g rfl).2, by have := (ho'.lt g rfl).1; simp at this; omega, (one_box _).trans (hb.mono (by simp))⟩
theorem new_yes (base : Int) (W : World) (HX : Hid (newE base = 0)) :
    Calls Try.prog 11 #[.int .i64 base] W fun e W' => ∃ g, e = .returned (.tuple #[.pointer (some ⟨g, 0, none⟩), .int .i64 0]) ∧ Below W.heap.size W W' := by
  refine (new_is base 0 W HX).mono ?_
  rintro e W' ⟨h, ⟨hx, _⟩ | ⟨_, g, A, cap, rfl, hf⟩⟩
  · exact absurd rfl hx
  · exact ⟨g, rfl, h⟩
theorem rnew_yes (base : Int) (W : World) (HX : Hid (newE base = 0)) :
    Calls Try.prog 12 #[.int .i64 base] W fun e W' => ∃ g, e = .returned (.tuple #[.pointer (some ⟨g, 0, none⟩), .int .i64 0]) ∧ Below W.heap.size W W' := by
  refine (rnew_is base 0 W HX).mono ?_
  rintro e W' ⟨h, ⟨hx, _⟩ | ⟨_, g, A, cap, rfl, hf⟩⟩
  · exact absurd rfl hx
  · exact ⟨g, rfl, h⟩
theorem rnew_no (base : Int) (W : World) (HX : Hid (newE base = 1)) :
    Calls Try.prog 12 #[.int .i64 base] W fun e W' => e = .returned (.tuple #[.pointer none, .int .i64 1]) ∧ Below W.heap.size W W' := by
  refine (rnew_is base 1 W HX).mono ?_
  rintro e W' ⟨h, ⟨_, rfl⟩ | ⟨hx, _⟩⟩
  · exact ⟨rfl, h⟩
  · exact absurd hx (by decide)
theorem row_at {w : World} {base b n c : Nat} {l : List L4.Fd} (h : w.ownsRow base 43 5 (.slice (some ⟨b, 0, none⟩) n c) n (rowF l)) : Hid (∃ ga, (some ⟨b, 0, none⟩ : Option Addr) = some ⟨ga, 0, none⟩ ∧ ga < w.heap.size ∧ At w ga 0 (rowF l)) :=
  Lib.hid ⟨b, rfl, (h.lt b rfl).2, fun j u hu => h.cells (g := b) rfl j u hu⟩
theorem rload_yes (base next : Int) (b n cap base0 : Nat) (l : List L4.Fd) (w W : World) (hb : Hid (Below w.heap.size w W)) (ho : Hid (W.ownsRow base0 43 5 (.slice (some ⟨b, 0, none⟩) n cap) n (rowF l))) (hn : l.length = n) (hl : n ≤ maxLen) (hs : Hid (∀ f ∈ l, f.r.key.size ≤ maxLen ∧ f.r.val.size ≤ maxLen)) (HX : Hid (loadE base next l = 0)) :
    Calls Try.prog 75 #[.int .i64 base, .int .i64 next, .slice (some ⟨b, 0, none⟩) n cap] W fun e W' => ∃ g, e = .returned (.tuple #[.pointer (some ⟨g, 0, none⟩), .int .i64 0]) ∧ Mine 81 w W'.heap.size W' g base next l ∧ Below W.heap.size W W' := by
  subst hn
  refine (rload_is base next _ l cap W.heap.size 0 W (Lib.hid (ReadsF.own ho.out)) (Nat.le_refl _) hl hs HX (row_at ho.out)).mono ?_
  rintro e W' ⟨h, ⟨hx, _⟩ | ⟨_, g, A, cap, rfl, hf⟩⟩
  · exact absurd rfl hx
  · exact ⟨g, rfl, Mine.made hb.out hf h, h⟩
theorem rload_not (base next : Int) (b n cap base0 : Nat) (l : List L4.Fd) (x : Int) (W : World) (ho : Hid (W.ownsRow base0 43 5 (.slice (some ⟨b, 0, none⟩) n cap) n (rowF l))) (hn : l.length = n) (hl : n ≤ maxLen) (hs : Hid (∀ f ∈ l, f.r.key.size ≤ maxLen ∧ f.r.val.size ≤ maxLen)) (HX : Hid (loadE base next l = x)) (hx : x ≠ 0) :
    Calls Try.prog 75 #[.int .i64 base, .int .i64 next, .slice (some ⟨b, 0, none⟩) n cap] W fun e W' => e = .returned (.tuple #[.pointer none, .int .i64 x]) ∧ Below W.heap.size W W' := by
  subst hn
  refine (rload_is base next _ l cap W.heap.size x W (Lib.hid (ReadsF.own ho.out)) (Nat.le_refl _) hl hs HX (row_at ho.out)).mono ?_
  rintro e W' ⟨h, ⟨_, rfl⟩ | ⟨h0, _⟩⟩
  · exact ⟨rfl, h⟩
  · exact absurd h0 hx
theorem own_reads {w : World} {base b n c : Nat} {l : List L4.Fd} (hn : l.length = n) (h : w.ownsRow base 43 5 (.slice (some ⟨b, 0, none⟩) n c) n (rowF l)) : ReadsF w w.heap.size (some ⟨b, 0, none⟩) l := by
  subst hn; exact ReadsF.own h
section
variable {T : TypeId} {w W : World} {H H2 g g2 : Nat} {base next : Int} {L : List L4.Fd}
theorem same_mine (m : Hid (Mine T w H W g base next L)) (m2 : Hid (Mine 81 w H2 W g2 base next L)) (G : Hid (Good base next L)) :
    Calls Try.prog 23 #[.pointer (some ⟨g, 0, none⟩), .pointer (some ⟨g2, 0, none⟩)] W fun e w' => e = .returned (.bool true) ∧ Below W.heap.size W w' := by
  obtain ⟨_, _, _, _, A, cap, hseg, _⟩ := m.out
  obtain ⟨_, _, _, _, A2, cap2, hseg2, _⟩ := m2.out
  exact same5_is (Lib.hid hseg) (Lib.hid hseg2) G.out.len (Lib.hid G.out.small) (Lib.hid G.out.chk)
theorem all_mine (m : Hid (Mine T w H W g base next L)) {n : Nat} (hn : L.length = n) (hl : n ≤ 64) :
    Calls Try.prog 61 #[.pointer (some ⟨g, 0, none⟩)] W fun e W' => ∃ A c, e = .returned (.slice A n c) ∧ ReadsF W' W'.heap.size A L ∧ Below W.heap.size W W' := by
  subst hn
  refine (mine_all m hl).mono ?_
  rintro e W' ⟨A, c, rfl, ho, hb⟩
  exact ⟨A, c, rfl, ReadsF.own ho, hb⟩
end
end Go.Proofs.Ytpagoeoilkbmjaa.L5
