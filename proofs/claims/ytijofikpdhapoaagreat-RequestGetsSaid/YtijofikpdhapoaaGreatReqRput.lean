/-
  Contracts: the document's own Put.
-/
import Derived.Test.YtijofikpdhapoaaGreatMReqLaw
import Derived.Test.YtijofikpdhapoaaGreatReqPut
import Derived.Test.YtijofikpdhapoaaGreatReqOne
import Derived.Deep.RegionHeld3
import Derived.Deep.DeepCutAuto
namespace Go.Proofs.YtijofikpdhapoaaGreat.L4
open Go.RowKit
open L3

/-- what a letter stands for, as bytes -/
def letB (o : O) : Nat → ByteArray
  | 116 => txt o.topic
  | 112 => txt o.topic ++ V.put o.pn.toNat
  | 110 => V.put o.n.toNat
  | 111 => V.put o.off.toNat
  | 98 => batT o.bp o.be o.bq o.recs
  | 103 => txt o.group
  | 109 => txt o.member
  | 101 => V.put o.gen.toNat
  | 114 => if o.robin then ⟨#[1]⟩ else ⟨#[0]⟩
  | _ => topsT o.tops
def keysOf : Nat → List Nat
  | 116 => [1]
  | 112 => [1, 2]
  | 110 => [3]
  | 111 => [4]
  | 98 => [5]
  | 103 => [9]
  | 109 => [10]
  | 101 => [11]
  | 114 => [12]
  | _ => [13]
def letters : List Nat := [116, 112, 110, 111, 98, 103, 109, 101, 114, 108]
theorem has_keys : ∀ k ≤ 12, hasK k = (V.nats (hasS k)).flatMap keysOf ∧ (∀ c ∈ V.nats (hasS k), c ∈ letters) ∧ (hasS k).size ≤ 5 := by
  intro k hk
  have : k = 0 ∨ k = 1 ∨ k = 2 ∨ k = 3 ∨ k = 4 ∨ k = 5 ∨ k = 6 ∨ k = 7 ∨ k = 8 ∨ k = 9 ∨ k = 10 ∨ k = 11 ∨ k = 12 := by omega
  rcases this with rfl | rfl | rfl | rfl | rfl | rfl | rfl | rfl | rfl | rfl | rfl | rfl | rfl <;> decide
def catL (o : O) (S : ByteArray) (l : List Nat) : ByteArray := l.foldl (fun S c => S ++ letB o c) S
theorem catL_next {o : O} {S : ByteArray} {l : List Nat} {k c : Nat} (h : l[k]? = some c) : catL o S (l.take (k + 1)) = catL o S (l.take k) ++ letB o c := by
  unfold catL
  rw [List.take_add_one, h, List.foldl_append]
  rfl
theorem let_keys (o : O) (S : ByteArray) {c : Nat} (hc : c ∈ letters) : catB o S (keysOf c) = S ++ letB o c := by
  unfold letters at hc
  simp only [List.mem_cons, List.not_mem_nil, or_false] at hc
  rcases hc with rfl | rfl | rfl | rfl | rfl | rfl | rfl | rfl | rfl | rfl
  · rfl
  · exact ba_assoc _ _ _ |>.symm
  all_goals rfl
theorem catL_all (o : O) : ∀ (l : List Nat) (S : ByteArray), (∀ c ∈ l, c ∈ letters) → catL o S l = catB o S (l.flatMap keysOf)
  | [], _, _ => rfl
  | c :: l, S, h => by
    have e : catL o S (c :: l) = catL o (S ++ letB o c) l := rfl
    have e2 : catB o S ((c :: l).flatMap keysOf) = catB o (catB o S (keysOf c)) (l.flatMap keysOf) := by
      unfold catB
      rw [List.flatMap_cons, List.foldl_append]
    rw [e, e2, let_keys o S (h c (by simp))]
    exact catL_all o l _ (fun d hd => h d (by simp [hd]))
theorem let_size {o : O} {ks : List Nat} (g : Good o ks) {c : Nat} (hc : c ∈ letters) (hk : ∀ j ∈ keysOf c, j ∈ ks) : (letB o c).size ≤ 40000 := by
  have h := good_size g
  unfold letters at hc
  simp only [List.mem_cons, List.not_mem_nil, or_false] at hc
  rcases hc with rfl | rfl | rfl | rfl | rfl | rfl | rfl | rfl | rfl | rfl
  · exact Nat.le_trans (h 1 (hk 1 (by decide))) (by omega)
  · have h1 : (txt o.topic).size ≤ 20000 := h 1 (hk 1 (by decide))
    have h2 : (V.put o.pn.toNat).size ≤ 20000 := h 2 (hk 2 (by decide))
    show (txt o.topic ++ V.put o.pn.toNat).size ≤ 40000
    rw [ByteArray.size_append]
    omega
  · exact Nat.le_trans (h 3 (hk 3 (by decide))) (by omega)
  · exact Nat.le_trans (h 4 (hk 4 (by decide))) (by omega)
  · exact Nat.le_trans (h 5 (hk 5 (by decide))) (by omega)
  · exact Nat.le_trans (h 9 (hk 9 (by decide))) (by omega)
  · exact Nat.le_trans (h 10 (hk 10 (by decide))) (by omega)
  · exact Nat.le_trans (h 11 (hk 11 (by decide))) (by omega)
  · exact Nat.le_trans (h 12 (hk 12 (by decide))) (by omega)
  · exact Nat.le_trans (h 13 (hk 13 (by decide))) (by omega)
theorem catL_size {o : O} {ks : List Nat} (g : Good o ks) : ∀ (l : List Nat) (S : ByteArray), (∀ c ∈ l, c ∈ letters) → (∀ c ∈ l, ∀ j ∈ keysOf c, j ∈ ks) → (catL o S l).size ≤ S.size + 40000 * l.length
  | [], S, _, _ => by simp [catL]
  | c :: l, S, h1, h2 => by
    have e : catL o S (c :: l) = catL o (S ++ letB o c) l := rfl
    have h3 := catL_size g l (S ++ letB o c) (fun d hd => h1 d (by simp [hd])) (fun d hd => h2 d (by simp [hd]))
    have h4 := let_size g (h1 c (by simp)) (h2 c (by simp))
    rw [e]
    rw [ByteArray.size_append] at h3
    simp only [List.length_cons]
    omega

set_option maxHeartbeats 1000000 in
theorem one_any {o : O} {RA TA : Option Addr} (rc tc : Nat) {ks : List Nat} (g : Good o ks) {c : Nat} (hc : c ∈ letters) (hk : ∀ j ∈ keysOf c, j ∈ ks) (HC : Hid (Cutd o)) {w : World} (ha : At o RA TA w) :
    Calls Tryz.prog 30 #[.agg #[.int .i64 o.kind, .string o.topic, .int .i64 o.pn, .int .i64 o.n, .int .i64 o.off, .int .i64 o.bp, .int .i64 o.be, .int .i64 o.bq, .slice RA o.recs.length rc, .string o.group, .string o.member, .int .i64 o.gen, .bool o.robin, .slice TA o.tops.length tc], .int .u8 c] w fun e w' => e = .returned (.string (letB o c)) ∧ Below w.heap.size w w' := by
  unfold letters at hc
  simp only [List.mem_cons, List.not_mem_nil, or_false] at hc
  rcases hc with rfl | rfl | rfl | rfl | rfl | rfl | rfl | rfl | rfl | rfl
  · exact one_t o.kind o.topic o.pn o.n o.off o.bp o.be o.bq o.recs o.group o.member o.gen o.robin o.tops RA TA rc tc _ w (by have := HC.out.t; omega) (Lib.hid rfl)
  · have g1 := g.n2 (hk 2 (by decide))
    have g2 := name_size (g.s1 (hk 1 (by decide)))
    exact one_p o.kind o.topic o.pn o.n o.off o.bp o.be o.bq o.recs o.group o.member o.gen o.robin o.tops RA TA rc tc _ _ w HC.out.t (by have := txt_size o.topic (by omega); omega) (by have := put_le o.pn g1.2; omega) g1.1 g1.2 (Lib.hid rfl) (Lib.hid rfl)
  · have g1 := g.n3 (hk 3 (by decide))
    exact one_n o.kind o.topic o.pn o.n o.off o.bp o.be o.bq o.recs o.group o.member o.gen o.robin o.tops RA TA rc tc _ w g1.1 g1.2 (Lib.hid rfl)
  · have g1 := g.n4 (hk 4 (by decide))
    exact one_o o.kind o.topic o.pn o.n o.off o.bp o.be o.bq o.recs o.group o.member o.gen o.robin o.tops RA TA rc tc _ w g1.1 g1.2 (Lib.hid rfl)
  · have g1 := g.b5 (hk 5 (by decide))
    exact one_b o.kind o.topic o.pn o.n o.off o.bp o.be o.bq o.recs o.group o.member o.gen o.robin o.tops RA TA rc tc _ 0 w.heap.size w (Lib.hid ha.r) (Nat.le_refl _) HC.out.r (Lib.hid HC.out.mrs) (Lib.hid g1) (Lib.hid (batP_ok g1))
  · exact one_g o.kind o.topic o.pn o.n o.off o.bp o.be o.bq o.recs o.group o.member o.gen o.robin o.tops RA TA rc tc _ w (by have := HC.out.g; omega) (Lib.hid rfl)
  · exact one_m o.kind o.topic o.pn o.n o.off o.bp o.be o.bq o.recs o.group o.member o.gen o.robin o.tops RA TA rc tc _ w (by have := HC.out.m; omega) (Lib.hid rfl)
  · have g1 := g.n11 (hk 11 (by decide))
    exact one_e o.kind o.topic o.pn o.n o.off o.bp o.be o.bq o.recs o.group o.member o.gen o.robin o.tops RA TA rc tc _ w g1.1 g1.2 (Lib.hid rfl)
  · exact one_r o.kind o.topic o.pn o.n o.off o.bp o.be o.bq o.recs o.group o.member o.gen o.robin o.tops RA TA rc tc w
  · exact one_l o.kind o.topic o.pn o.n o.off o.bp o.be o.bq o.recs o.group o.member o.gen o.robin o.tops RA TA rc tc w.heap.size w (Lib.hid ha.t) (Nat.le_refl _) HC.out.l (Lib.hid HC.out.ls)


set_option maxRecDepth 100000 in
set_option maxHeartbeats 8000000 in
theorem one_at {o : O} {RA TA : Option Addr} (rc tc : Nat) {ks : List Nat} (g : Good o ks) {c : Nat} (hc : c ∈ letters) (hk : ∀ j ∈ keysOf c, j ∈ ks) (HC : Hid (Cutd o)) (u : ByteArray) (HU : Hid (letB o c = u)) {w : World} (ha : At o RA TA w) :
    Calls Tryz.prog 30 #[.agg #[.int .i64 o.kind, .string o.topic, .int .i64 o.pn, .int .i64 o.n, .int .i64 o.off, .int .i64 o.bp, .int .i64 o.be, .int .i64 o.bq, .slice RA o.recs.length rc, .string o.group, .string o.member, .int .i64 o.gen, .bool o.robin, .slice TA o.tops.length tc], .int .u8 c] w fun e w' => e = .returned (.string u) ∧ Below w.heap.size w w' := by
  have h := one_any rc tc g hc hk HC ha
  rw [HU.out] at h
  exact h
theorem rput_bad {o : O} {RA TA : Option Addr} (rc tc : Nat) {w : World} (hk : o.kind ≤ 12) (HC : Hid (Cutd o)) (ha : Hid (At o RA TA w)) (x : Int) (hx : x ≠ 0) (HX : Hid (o.chk = x)) :
    Calls Tryz.prog 11 #[.agg #[.int .i64 o.kind, .string o.topic, .int .i64 o.pn, .int .i64 o.n, .int .i64 o.off, .int .i64 o.bp, .int .i64 o.be, .int .i64 o.bq, .slice RA o.recs.length rc, .string o.group, .string o.member, .int .i64 o.gen, .bool o.robin, .slice TA o.tops.length tc]] w fun e w' => e = .returned (.tuple #[.string ⟨#[]⟩, .int .i64 x]) ∧ Below w.heap.size w w' := by
  have hne : (x != 0) = true := by simpa using hx
  clear hx
  go_enter Tryz.func11, Tryz.ntmps11
  go_wp2_with (go_at_call 28; refine (rcheck_at rc tc x hk HC (Lib.hid (ha.out.below (one_box _))) HX).mono ?_; rintro e w1 ⟨rfl, hb1⟩; have HB1 := Lib.hid ((one_box (.cells #[.int .i64 o.kind, .string o.topic, .int .i64 o.pn, .int .i64 o.n, .int .i64 o.off, .int .i64 o.bp, .int .i64 o.be, .int .i64 o.bq, .slice RA o.recs.length rc, .string o.group, .string o.member, .int .i64 o.gen, .bool o.robin, .slice TA o.tops.length tc] 29 (0, 0))).trans (hb1.mono (by simp))); have HA1 := Lib.hid ((ha.out.below (one_box (.cells #[.int .i64 o.kind, .string o.topic, .int .i64 o.pn, .int .i64 o.n, .int .i64 o.off, .int .i64 o.bp, .int .i64 o.be, .int .i64 o.bq, .slice RA o.recs.length rc, .string o.group, .string o.member, .int .i64 o.gen, .bool o.robin, .slice TA o.tops.length tc] 29 (0, 0)))).below hb1); have r1 := (hb1.block w.heap.size (by simp)).trans (heap_alloc_new w (.cells #[.int .i64 o.kind, .string o.topic, .int .i64 o.pn, .int .i64 o.n, .int .i64 o.off, .int .i64 o.bp, .int .i64 o.be, .int .i64 o.bq, .slice RA o.recs.length rc, .string o.group, .string o.member, .int .i64 o.gen, .bool o.robin, .slice TA o.tops.length tc] 29 (0, 0))); have x0 := row14 (j := 0) r1 rfl; have x1 := row14 (j := 1) r1 rfl; have x2 := row14 (j := 2) r1 rfl; have x3 := row14 (j := 3) r1 rfl; have x4 := row14 (j := 4) r1 rfl; have x5 := row14 (j := 5) r1 rfl; have x6 := row14 (j := 6) r1 rfl; have x7 := row14 (j := 7) r1 rfl; have x8 := row14 (j := 8) r1 rfl; have x9 := row14 (j := 9) r1 rfl; have x10 := row14 (j := 10) r1 rfl; have x11 := row14 (j := 11) r1 rfl; have x12 := row14 (j := 12) r1 rfl; have x13 := row14 (j := 13) r1 rfl; have R1 := Lib.hid r1; clear r1 hb1)
  go_ret2
  exact ⟨rfl, HB1.out⟩

set_option maxRecDepth 100000 in
set_option maxHeartbeats 16000000 in
theorem rput_ok {o : O} {RA TA : Option Addr} (rc tc : Nat) {w : World} (hk : o.kind ≤ 12) (HC : Hid (Cutd o)) (ha : Hid (At o RA TA w)) (HX : Hid (o.chk = 0)) :
    Calls Tryz.prog 11 #[.agg #[.int .i64 o.kind, .string o.topic, .int .i64 o.pn, .int .i64 o.n, .int .i64 o.off, .int .i64 o.bp, .int .i64 o.be, .int .i64 o.bq, .slice RA o.recs.length rc, .string o.group, .string o.member, .int .i64 o.gen, .bool o.robin, .slice TA o.tops.length tc]] w fun e w' => e = .returned (.tuple #[.string o.bytes, .int .i64 0]) ∧ Below w.heap.size w w' := by
  have HG := Lib.hid (chk_ok hk HX.out).2
  obtain ⟨h, hh⟩ : ∃ h, hasS o.kind = h := ⟨_, rfl⟩
  obtain ⟨hk1, hk2, hk3⟩ := has_keys o.kind hk
  rw [hh] at hk1 hk2 hk3
  have HH := Lib.hid hh
  have K1 := Lib.hid hk1
  have K2 := Lib.hid hk2
  have KJ : Hid (∀ c ∈ V.nats h, ∀ j ∈ keysOf c, j ∈ hasK o.kind) := Lib.hid (fun c hc j hj => by rw [hk1]; exact List.mem_flatMap.2 ⟨c, hc, hj⟩)
  have HK := Lib.hid hk
  have k0 : (0 : Int) ≤ (o.kind : Int) := by omega
  have k1 : (o.kind : Int) ≤ 1099511627776 := by omega
  have KS : Hid (V.put (o.kind : Int).toNat = V.put o.kind) := Lib.hid (by rw [Int.toNat_natCast])
  have KZ : Hid ((V.put o.kind).size ≤ 10) := Lib.hid (by have := put_le (o.kind : Int) k1; rwa [Int.toNat_natCast] at this)
  clear hh hk1 hk2
  go_enter Tryz.func11, Tryz.ntmps11
  go_upto_region 4 with (go_at_call 28; refine (rcheck_at rc tc 0 hk HC (Lib.hid (ha.out.below (one_box _))) HX).mono ?_; rintro e w1 ⟨rfl, hb1⟩; have HB1 := Lib.hid ((one_box (.cells #[.int .i64 o.kind, .string o.topic, .int .i64 o.pn, .int .i64 o.n, .int .i64 o.off, .int .i64 o.bp, .int .i64 o.be, .int .i64 o.bq, .slice RA o.recs.length rc, .string o.group, .string o.member, .int .i64 o.gen, .bool o.robin, .slice TA o.tops.length tc] 29 (0, 0))).trans (hb1.mono (by simp))); have HA1 := Lib.hid ((ha.out.below (one_box (.cells #[.int .i64 o.kind, .string o.topic, .int .i64 o.pn, .int .i64 o.n, .int .i64 o.off, .int .i64 o.bp, .int .i64 o.be, .int .i64 o.bq, .slice RA o.recs.length rc, .string o.group, .string o.member, .int .i64 o.gen, .bool o.robin, .slice TA o.tops.length tc] 29 (0, 0)))).below hb1); have r1 := (hb1.block w.heap.size (by simp)).trans (heap_alloc_new w (.cells #[.int .i64 o.kind, .string o.topic, .int .i64 o.pn, .int .i64 o.n, .int .i64 o.off, .int .i64 o.bp, .int .i64 o.be, .int .i64 o.bq, .slice RA o.recs.length rc, .string o.group, .string o.member, .int .i64 o.gen, .bool o.robin, .slice TA o.tops.length tc] 29 (0, 0))); have x0 := row14 (j := 0) r1 rfl; have x1 := row14 (j := 1) r1 rfl; have x2 := row14 (j := 2) r1 rfl; have x3 := row14 (j := 3) r1 rfl; have x4 := row14 (j := 4) r1 rfl; have x5 := row14 (j := 5) r1 rfl; have x6 := row14 (j := 6) r1 rfl; have x7 := row14 (j := 7) r1 rfl; have x8 := row14 (j := 8) r1 rfl; have x9 := row14 (j := 9) r1 rfl; have x10 := row14 (j := 10) r1 rfl; have x11 := row14 (j := 11) r1 rfl; have x12 := row14 (j := 12) r1 rfl; have x13 := row14 (j := 13) r1 rfl; have R1 := Lib.hid r1; clear r1 hb1)
  clear x0 x1 x2 x3 x4 x5 x6 x7 x8 x9 x10 x11 x12 x13
  have HT1 : Hid (∀ w', Below w1.heap.size w1 w' → w'.cell? ⟨w.heap.size, 0, none⟩ = some (.int .i64 o.kind) ∧ Below w1.heap.size w1 w') := Lib.hid (fun w' hb => ⟨row14 ((hb.block _ (at_lt R1.out)).trans R1.out) rfl, hb⟩)
  go_cut [5, 6] (fun s5 s6 wx => s5 = .string (V.put o.kind) ∧ s6 = .string h ∧ Hid (Below w1.heap.size w1 wx))
  case first =>
    go_region_held3 (fun w' => w'.cell? ⟨w.heap.size, 0, none⟩ = some (.int .i64 o.kind) ∧ Below w1.heap.size w1 w')
      (first | with_reducible assumption | exact HT1.out _ (Below.refl _ _).drew | exact HT1.out _ (acc (by exact (‹_ ∧ Below w1.heap.size w1 _›).2) (by assumption)))
      (first
        | (go_at_call 29; refine (rnum_is _ _ _ k0 k1 KS).mono ?_; rintro e wn ⟨rfl, hbn⟩)
        | (go_at_call 9; refine (rhas_s _ _ _ HK.out HH).mono ?_; rintro e wh ⟨rfl, hbh⟩))
    all_goals
      rename_i hh
      go_wp2_with fail
      go_meet
      exact ⟨rfl, rfl, Lib.hid hh.2⟩
  case rest =>
    obtain ⟨rfl, rfl, HBX⟩ := hcut
    go_wp2_with fail
    go_loopw [5, 7] (fun t i wr => ∃ k : Nat, k ≤ h.size ∧ i = .int .i64 k ∧ t = .string (catL o (V.put o.kind) ((V.nats h).take k)) ∧ Below w1.heap.size w1 wr) (fun _ i _ => h.size - (intOf i).toNat)
    case atStart => exact ⟨0, Nat.zero_le _, rfl, rfl, HBX.out⟩
    case round =>
      obtain ⟨k, hk, rfl, rfl, hbel⟩ := hrel
      have zs := catL_size HG.out ((V.nats h).take k) (V.put o.kind) (fun c hc => K2.out c (List.mem_of_mem_take hc)) (fun c hc => KJ.out c (List.mem_of_mem_take hc))
      have zt := List.length_take_le k (V.nats h)
      have zk := KZ.out
      obtain ⟨T, hT⟩ : ∃ T, catL o (V.put o.kind) ((V.nats h).take k) = T := ⟨_, rfl⟩
      rw [hT] at zs ⊢
      have HB := Lib.hid hbel
      by_cases hlt : k < h.size
      · obtain ⟨c, hc⟩ : ∃ c, h[k].toNat = c := ⟨_, rfl⟩
        have hcn : (V.nats h)[k]? = some c := by
          unfold V.nats
          rw [List.getElem?_map, List.getElem?_eq_getElem (by simpa using hlt)]
          show some (h[k].toNat) = _
          rw [hc]
        have HC1 : Hid (c ∈ letters) := Lib.hid (K2.out c (List.mem_of_getElem? hcn))
        have HC2 : Hid (∀ j ∈ keysOf c, j ∈ hasK o.kind) := Lib.hid (KJ.out c (List.mem_of_getElem? hcn))
        obtain ⟨u, hu⟩ : ∃ u, letB o c = u := ⟨_, rfl⟩
        have zu : u.size ≤ 40000 := by rw [← hu]; exact let_size HG.out HC1.out HC2.out
        have HU := Lib.hid hu
        have HNX : Hid (T ++ u = catL o (V.put o.kind) ((V.nats h).take (k + 1))) := Lib.hid (by rw [catL_next hcn, hT, hu])
        have no1 : (9223372036854775807 < T.size + u.size) = False := by simp; omega
        have k0' : (0 : Int) ≤ (k : Int) := by omega
        have k1' : (k : Int) < (h.size : Int) := by omega
        have HTT : Hid (∀ w', Below w1.heap.size w1 w' → (w'.cell? ⟨w.heap.size, 0, none⟩ = some (.int .i64 o.kind) ∧ w'.cell? ⟨w.heap.size, 1, none⟩ = some (.string o.topic) ∧ w'.cell? ⟨w.heap.size, 2, none⟩ = some (.int .i64 o.pn) ∧ w'.cell? ⟨w.heap.size, 3, none⟩ = some (.int .i64 o.n) ∧ w'.cell? ⟨w.heap.size, 4, none⟩ = some (.int .i64 o.off) ∧ w'.cell? ⟨w.heap.size, 5, none⟩ = some (.int .i64 o.bp) ∧ w'.cell? ⟨w.heap.size, 6, none⟩ = some (.int .i64 o.be) ∧ w'.cell? ⟨w.heap.size, 7, none⟩ = some (.int .i64 o.bq) ∧ w'.cell? ⟨w.heap.size, 8, none⟩ = some (.slice RA o.recs.length rc) ∧ w'.cell? ⟨w.heap.size, 9, none⟩ = some (.string o.group) ∧ w'.cell? ⟨w.heap.size, 10, none⟩ = some (.string o.member) ∧ w'.cell? ⟨w.heap.size, 11, none⟩ = some (.int .i64 o.gen) ∧ w'.cell? ⟨w.heap.size, 12, none⟩ = some (.bool o.robin) ∧ w'.cell? ⟨w.heap.size, 13, none⟩ = some (.slice TA o.tops.length tc)) ∧ Below w1.heap.size w1 w') := Lib.hid (fun w' hb => by
          have q := (hb.block _ (at_lt R1.out)).trans R1.out
          exact ⟨⟨row14 (j := 0) q rfl, row14 (j := 1) q rfl, row14 (j := 2) q rfl, row14 (j := 3) q rfl, row14 (j := 4) q rfl, row14 (j := 5) q rfl, row14 (j := 6) q rfl, row14 (j := 7) q rfl, row14 (j := 8) q rfl, row14 (j := 9) q rfl, row14 (j := 10) q rfl, row14 (j := 11) q rfl, row14 (j := 12) q rfl, row14 (j := 13) q rfl⟩, hb⟩)
        have HAT : Hid (∀ w', (w'.cell? ⟨w.heap.size, 0, none⟩ = some (.int .i64 o.kind) ∧ w'.cell? ⟨w.heap.size, 1, none⟩ = some (.string o.topic) ∧ w'.cell? ⟨w.heap.size, 2, none⟩ = some (.int .i64 o.pn) ∧ w'.cell? ⟨w.heap.size, 3, none⟩ = some (.int .i64 o.n) ∧ w'.cell? ⟨w.heap.size, 4, none⟩ = some (.int .i64 o.off) ∧ w'.cell? ⟨w.heap.size, 5, none⟩ = some (.int .i64 o.bp) ∧ w'.cell? ⟨w.heap.size, 6, none⟩ = some (.int .i64 o.be) ∧ w'.cell? ⟨w.heap.size, 7, none⟩ = some (.int .i64 o.bq) ∧ w'.cell? ⟨w.heap.size, 8, none⟩ = some (.slice RA o.recs.length rc) ∧ w'.cell? ⟨w.heap.size, 9, none⟩ = some (.string o.group) ∧ w'.cell? ⟨w.heap.size, 10, none⟩ = some (.string o.member) ∧ w'.cell? ⟨w.heap.size, 11, none⟩ = some (.int .i64 o.gen) ∧ w'.cell? ⟨w.heap.size, 12, none⟩ = some (.bool o.robin) ∧ w'.cell? ⟨w.heap.size, 13, none⟩ = some (.slice TA o.tops.length tc)) ∧ Below w1.heap.size w1 w' → At o RA TA w') := Lib.hid (fun w' hb => HA1.out.below hb.2)
        clear hcn hu zs zt zk hT hbel zu
        go_wp2_with fail
        go_region_held3 (fun w' => (w'.cell? ⟨w.heap.size, 0, none⟩ = some (.int .i64 o.kind) ∧ w'.cell? ⟨w.heap.size, 1, none⟩ = some (.string o.topic) ∧ w'.cell? ⟨w.heap.size, 2, none⟩ = some (.int .i64 o.pn) ∧ w'.cell? ⟨w.heap.size, 3, none⟩ = some (.int .i64 o.n) ∧ w'.cell? ⟨w.heap.size, 4, none⟩ = some (.int .i64 o.off) ∧ w'.cell? ⟨w.heap.size, 5, none⟩ = some (.int .i64 o.bp) ∧ w'.cell? ⟨w.heap.size, 6, none⟩ = some (.int .i64 o.be) ∧ w'.cell? ⟨w.heap.size, 7, none⟩ = some (.int .i64 o.bq) ∧ w'.cell? ⟨w.heap.size, 8, none⟩ = some (.slice RA o.recs.length rc) ∧ w'.cell? ⟨w.heap.size, 9, none⟩ = some (.string o.group) ∧ w'.cell? ⟨w.heap.size, 10, none⟩ = some (.string o.member) ∧ w'.cell? ⟨w.heap.size, 11, none⟩ = some (.int .i64 o.gen) ∧ w'.cell? ⟨w.heap.size, 12, none⟩ = some (.bool o.robin) ∧ w'.cell? ⟨w.heap.size, 13, none⟩ = some (.slice TA o.tops.length tc)) ∧ Below w1.heap.size w1 w')
          (first | with_reducible assumption | exact HTT.out _ HB.out.drew | exact HTT.out _ (acc (by exact (‹_ ∧ Below w1.heap.size w1 _›).2) (by assumption)))
          ((go_at_call 30; refine (one_at rc tc HG.out HC1.out HC2.out HC u HU (HAT.out _ (by assumption))).mono ?_; rintro e wn ⟨rfl, hbn⟩))
        all_goals
          rename_i hh
          go_wp2_with fail
          go_roundw
          case rel => exact ⟨k + 1, by omega, by go_num, congrArg Value.string HNX.out, hh.2⟩
          case measure => simp [intOf]; omega
      · obtain rfl : k = h.size := by omega
        have HT2 : Hid (T = o.bytes) := Lib.hid (by
          rw [← hT, List.take_of_length_le (by rw [V.nats_len]; exact Nat.le_refl _), catL_all o _ _ K2.out, ← K1.out]
          rfl)
        clear hT zs zt zk hbel hlt hk
        go_wp2_with fail
        go_ret2
        exact ⟨congrArg (fun s => Ending.returned (.tuple #[.string s, .int .i64 0])) HT2.out, acc HB1.out HB.out⟩

end Go.Proofs.YtijofikpdhapoaaGreat.L4
