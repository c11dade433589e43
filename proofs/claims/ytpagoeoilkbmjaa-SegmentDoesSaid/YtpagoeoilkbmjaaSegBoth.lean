/-
  Contracts: the calls on two segments side by side.
-/
import Derived.Test.YtpagoeoilkbmjaaSegPair
import Derived.Test.YtpagoeoilkbmjaaSegOps
namespace Go.Proofs.Ytpagoeoilkbmjaa.L5
open Go.RowKit
open L3 L4

/-- the program's and the document's, since w -/
abbrev Both (w W : World) (g k : Nat) (A X : Option Addr) (base n1 : Int) (L1 : List L4.Fd) (n2 : Int) (L2 : List L4.Fd) : Prop :=
  Pair 87 81 w W g k A X base n1 L1 n2 L2
section
variable {w W W' : World} {g k : Nat} {A X : Option Addr} {base n1 n2 : Int} {L1 L2 : List L4.Fd}
theorem both_append_no (p : Hid (Both w W g k A X base n1 L1 n2 L2)) (Y : Option Addr) (rs : List R) (n yc B : Nat) (x : Int) (hl : L1.length ≤ 64) (h0 : 0 ≤ n1) (h1 : n1 ≤ 1099511627776) (hR : Hid (Reads W B Y rs)) (hY : Hid (Apart g A Y)) (hB : B ≤ W.heap.size) (hn : rs.length = n) (hrl : n ≤ maxLen) (hs : Hid (∀ r ∈ rs, r.key.size ≤ maxLen ∧ r.val.size ≤ maxLen)) (HX : Hid (appE n1 L1.length rs = x)) (hx : x ≠ 0) :
    Calls Try.prog 14 #[.pointer (some ⟨g, 0, none⟩), .slice Y n yc] W fun e W' => e = .returned (.tuple #[.int .i64 0, .int .i64 x]) ∧ Below W.heap.size W W' := by
  subst hn
  obtain ⟨c, hseg⟩ := p.out.one
  refine (append_is Y rs yc B x (Lib.hid hseg) hl h0 h1 hR hY hB hrl hs HX).mono ?_
  rintro e W' (⟨_, he, hb⟩ | ⟨hz, _⟩)
  · exact ⟨he, hb⟩
  · exact absurd hz hx
theorem both_append (p : Hid (Both w W g k A X base n1 L1 n2 L2)) (Y : Option Addr) (rs : List R) (n yc B : Nat) (hl : L1.length ≤ 64) (h0 : 0 ≤ n1) (h1 : n1 ≤ 1099511627776) (hR : Hid (Reads W B Y rs)) (hY : Hid (Apart g A Y)) (hB : B ≤ W.heap.size) (hn : rs.length = n) (hrl : n ≤ maxLen) (hs : Hid (∀ r ∈ rs, r.key.size ≤ maxLen ∧ r.val.size ≤ maxLen)) (HX : Hid (appE n1 L1.length rs = 0)) :
    Calls Try.prog 14 #[.pointer (some ⟨g, 0, none⟩), .slice Y n yc] W fun e W' => e = .returned (.tuple #[.int .i64 n1, .int .i64 0]) ∧ But g (blk A) W W' ∧ ∃ A', Both w W' g k A' X base (n1 + n) (L1 ++ numbered n1 rs) n2 L2 := by
  subst hn
  obtain ⟨c, hseg⟩ := p.out.one
  refine (append_is Y rs yc B 0 (Lib.hid hseg) hl h0 h1 hR hY hB hrl hs HX).mono ?_
  rintro e W' (⟨hz, _⟩ | ⟨_, he, hs⟩)
  · exact absurd rfl hz
  · exact ⟨he, hs.choose_spec.choose_spec.2.1, p.out.step hs⟩
theorem both_rappend_no (p : Hid (Both w W g k A X base n1 L1 n2 L2)) (Y : Option Addr) (rs : List R) (n yc B : Nat) (x : Int) (hl : L2.length ≤ 64) (h0 : 0 ≤ n2) (h1 : n2 ≤ 1099511627776) (hR : Hid (Reads W B Y rs)) (hY : Hid (Apart k X Y)) (hB : B ≤ W.heap.size) (hn : rs.length = n) (hrl : n ≤ 1000000) (hs : Hid (∀ r ∈ rs, r.key.size ≤ maxLen ∧ r.val.size ≤ maxLen)) (HX : Hid (appE n2 L2.length rs = x)) (hx : x ≠ 0) :
    Calls Try.prog 15 #[.pointer (some ⟨k, 0, none⟩), .slice Y n yc] W fun e W' => e = .returned (.tuple #[.int .i64 0, .int .i64 x]) ∧ Below W.heap.size W W' := by
  subst hn
  obtain ⟨c, hseg⟩ := p.out.two
  refine (rappend_is Y rs yc B x (Lib.hid hseg) hl h0 h1 hR hY hB hrl hs HX).mono ?_
  rintro e W' (⟨_, he, hb⟩ | ⟨hz, _⟩)
  · exact ⟨he, hb⟩
  · exact absurd hz hx
theorem both_rappend (p : Hid (Both w W g k A X base n1 L1 n2 L2)) (Y : Option Addr) (rs : List R) (n yc B : Nat) (hl : L2.length ≤ 64) (h0 : 0 ≤ n2) (h1 : n2 ≤ 1099511627776) (hR : Hid (Reads W B Y rs)) (hY : Hid (Apart k X Y)) (hB : B ≤ W.heap.size) (hn : rs.length = n) (hrl : n ≤ 1000000) (hs : Hid (∀ r ∈ rs, r.key.size ≤ maxLen ∧ r.val.size ≤ maxLen)) (HX : Hid (appE n2 L2.length rs = 0)) :
    Calls Try.prog 15 #[.pointer (some ⟨k, 0, none⟩), .slice Y n yc] W fun e W' => e = .returned (.tuple #[.int .i64 n2, .int .i64 0]) ∧ ∃ X', Both w W' g k A X' base n1 L1 (n2 + n) (L2 ++ numbered n2 rs) := by
  subst hn
  obtain ⟨c, hseg⟩ := p.out.two
  refine (rappend_is Y rs yc B 0 (Lib.hid hseg) hl h0 h1 hR hY hB hrl hs HX).mono ?_
  rintro e W' (⟨hz, _⟩ | ⟨_, he, hs⟩)
  · exact absurd rfl hz
  · exact ⟨he, p.out.step2 hs⟩
theorem both_keep (p : Hid (Both w W g k A X base n1 L1 n2 L2)) (Y : Option Addr) (s : List Int) (n yc B : Nat) (hl : L1.length ≤ 64) (ho : Hid (∀ f ∈ L1, 0 ≤ f.o ∧ f.o ≤ 1099511627776)) (hR : Hid (ReadsI W B Y s)) (hB : B ≤ W.heap.size) (hn : s.length = n) (hs : n ≤ 1000000) (hwf : Hid (∀ x ∈ s, (Lit.int .i64 x).wf = true)) :
    Calls Try.prog 19 #[.pointer (some ⟨g, 0, none⟩), .slice Y n yc] W fun e W' => e = .returned (.int .i64 ((L1.length - (keepL L1 s).length : Nat) : Int)) ∧ But g (blk A) W W' ∧ ∃ A', Both w W' g k A' X base n1 (keepL L1 s) n2 L2 := by
  subst hn
  obtain ⟨c, hseg⟩ := p.out.one
  refine (keep_is Y s yc B L1.length (Lib.hid hseg) rfl hl ho hR hB hs hwf).mono ?_
  rintro e W' ⟨he, hs⟩
  exact ⟨he, hs.choose_spec.choose_spec.2.1, p.out.step hs⟩
theorem both_rkeep (p : Hid (Both w W g k A X base n1 L1 n2 L2)) (Y : Option Addr) (s : List Int) (n yc B : Nat) (hl : L2.length ≤ 64) (hR : Hid (ReadsI W B Y s)) (hB : B ≤ W.heap.size) (hn : s.length = n) (hs : n ≤ 1000000) :
    Calls Try.prog 20 #[.pointer (some ⟨k, 0, none⟩), .slice Y n yc] W fun e W' => e = .returned (.int .i64 ((L2.length - (keepL L2 s).length : Nat) : Int)) ∧ ∃ X', Both w W' g k A X' base n1 L1 n2 (keepL L2 s) := by
  subst hn
  obtain ⟨c, hseg⟩ := p.out.two
  refine (rkeep_is Y s yc B L2.length (Lib.hid hseg) rfl hl hR hB hs).mono ?_
  rintro e W' ⟨he, hs⟩
  exact ⟨he, p.out.step2 hs⟩
theorem both_read (p : Hid (Both w W g k A X base n1 L1 n2 L2)) (a c : Int) (hl : L1.length ≤ 64) (hr : Hid (riseB base n1 L1 = true)) :
    Calls Try.prog 16 #[.pointer (some ⟨g, 0, none⟩), .int .i64 a, .int .i64 c] W (CloneP W (readL L1 a c)) := by
  obtain ⟨c', hseg⟩ := p.out.one
  exact read_ok a c L1.length _ (Lib.hid hseg) hr rfl hl (Lib.hid rfl)
theorem both_rread (p : Hid (Both w W g k A X base n1 L1 n2 L2)) (a c : Int) (hl : L2.length ≤ 64) :
    Calls Try.prog 18 #[.pointer (some ⟨k, 0, none⟩), .int .i64 a, .int .i64 c] W (CloneP W (readL L2 a c)) := by
  obtain ⟨c', hseg⟩ := p.out.two
  exact rread_is a c L2.length (Lib.hid hseg) rfl hl
theorem both_same (p : Hid (Both w W g k A X base n1 L1 n1 L1)) (G : Hid (Good base n1 L1)) :
    Calls Try.prog 23 #[.pointer (some ⟨g, 0, none⟩), .pointer (some ⟨k, 0, none⟩)] W fun e w' => e = .returned (.bool true) ∧ Below W.heap.size W w' := by
  obtain ⟨_, hseg⟩ := p.out.one
  obtain ⟨_, hseg2⟩ := p.out.two
  exact same5_is (Lib.hid hseg) (Lib.hid hseg2) G.out.len (Lib.hid G.out.small) (Lib.hid G.out.chk)
theorem both_copy (p : Hid (Both w W g k A X base n1 L1 n2 L2)) (hl : L1.length ≤ 64) :
    Calls Try.prog 21 #[.pointer (some ⟨g, 0, none⟩)] W fun e W' => ∃ g3 A3, e = .returned (.pointer (some ⟨g3, 0, none⟩)) ∧ Both w W' g3 k A3 X base n1 L1 n2 L2 ∧ (∃ c, Seg 87 W' g A c base n1 L1) ∧ Far g A g3 A3 ∧ Far g A k X ∧ Below W.heap.size W W' := by
  obtain ⟨c, hseg⟩ := p.out.one
  refine (copy_is L1.length (Lib.hid hseg) rfl hl).mono ?_
  rintro e W' ⟨g3, A3, c3, he, hf, hb⟩
  obtain ⟨q1, q2, q3, q4⟩ := p.out.copied hf hb
  exact ⟨g3, A3, he, q1, q2, q3, q4, hb⟩
end
end Go.Proofs.Ytpagoeoilkbmjaa.L5
