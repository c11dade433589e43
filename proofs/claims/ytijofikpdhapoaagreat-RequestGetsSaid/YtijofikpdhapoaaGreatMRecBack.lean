/-
  Plain facts: batches and bytes, there and back.
-/
import Derived.Test.YtijofikpdhapoaaGreatMRecRall
import Derived.Test.YtijofikpdhapoaaGreatRecBound
namespace Go.Proofs.YtijofikpdhapoaaGreat.L3

theorem run_ext {α : Type} {f : Int → α × Int × Int} {a to e : Int} {k : Nat} {l : List α} (h : run f a k = (l, to, e)) {a' : Int} (ha : a = a') : run f a' k = (l, to, e) := by subst ha; exact h

/-- a batch that is put is got -/
theorem parse_put {s : ByteArray} {p e q : Int} {l : List R} (h : allN p e q l = 0) {pre post : List Nat} (hs : V.nats s = pre ++ (V.nats (batT p e q l) ++ post)) :
    parse s pre.length = (⟨p.toNat, e.toNat, q.toNat, l⟩, (pre.length : Int) + (batT p e q l).size, 0) := by
  obtain ⟨⟨p0, p1⟩, ⟨e0, e1⟩, ⟨q0, q1⟩, l0, l1, hall⟩ := allN_ok h
  have hz : (batT p e q l).size = (batN p e q l).length := by rw [← V.nats_len, nats_bat]
  rw [nats_bat] at hs
  have hn4 : V.nats s = pre ++ (([p.toNat, e.toNat, q.toNat, l.length] : List Nat).flatMap V.puts ++ ((l.flatMap fun r => V.nats r.put) ++ post)) := by
    rw [hs]; simp [batN]
  have g1 := run_put s (V.get s) V.puts [p.toNat, e.toNat, q.toNat, l.length] (fun x hx l' r' hs' => by
    have hx' : x < 18446744073709551616 := by
      simp only [List.mem_cons, List.not_mem_nil, or_false] at hx
      omega
    exact V.get_at hx' hs') 4 pre _ (by simp) hn4
  have et : ([p.toNat, e.toNat, q.toNat, l.length] : List Nat).take 4 = [p.toNat, e.toNat, q.toNat, l.length] := rfl
  rw [et] at g1
  have hE : numE p.toNat e.toNat q.toNat l.length = 0 := by
    unfold numE cnt
    rw [if_neg (by omega), if_neg (by omega), if_neg (by omega)]
  have hN := numP_ok g1 hE
  have hr : V.nats s = (pre ++ ([p.toNat, e.toNat, q.toNat, l.length] : List Nat).flatMap V.puts) ++ ((l.flatMap fun r => V.nats r.put) ++ post) := by rw [hn4, List.append_assoc]
  have g2 := run_put s (getR s) (fun r => V.nats r.put) l (fun r hr' l' r' hs' => getR_put (hall r hr') hs') l.length _ _ (Nat.le_refl _) hr
  rw [List.take_length, List.length_append] at g2
  have g3 := run_ext g2 (by omega : (((pre.length + (([p.toNat, e.toNat, q.toNat, l.length] : List Nat).flatMap V.puts).length : Nat)) : Int) = (pre.length : Int) + (([p.toNat, e.toNat, q.toNat, l.length] : List Nat).flatMap V.puts).length)
  rw [parse_ok hN g3]
  refine Prod.ext rfl (Prod.ext ?_ rfl)
  show (((pre.length + (([p.toNat, e.toNat, q.toNat, l.length] : List Nat).flatMap V.puts).length : Nat)) : Int) + ((l.flatMap fun r => V.nats r.put).length : Nat) = (pre.length : Int) + ((batT p e q l).size : Nat)
  rw [hz]
  simp [batN]
  omega

/-- what is got is a batch's bytes -/
theorem parse_got {s : ByteArray} {a to : Int} {b : Bt} (h : parse s a = (b, to, 0)) :
    0 ≤ a ∧ a < to ∧ to ≤ s.size ∧ allN b.p b.e b.q b.l = 0 ∧ (V.nats s).drop a.toNat = V.nats (batT b.p b.e b.q b.l) ++ (V.nats s).drop to.toNat := by
  obtain ⟨⟨x0, x1, x2, n⟩, t0, e0, hn⟩ : ∃ n t0 e0, numP s a = (n, t0, e0) := ⟨_, _, _, rfl⟩
  by_cases he : e0 = 0
  · subst he
    obtain ⟨l, t1, e1, hr⟩ : ∃ l t1 e1, run (getR s) t0 n = (l, t1, e1) := ⟨_, _, _, rfl⟩
    by_cases he1 : e1 = 0
    · subst he1
      rw [parse_ok hn hr] at h
      simp only [Prod.mk.injEq, and_true] at h
      obtain ⟨rfl, rfl⟩ := h
      obtain ⟨h4, hE⟩ := numP_run hn
      obtain ⟨y0, y1, y2, y3, y4⟩ := numE_ok hE
      have hlen := run_len hr
      have hf : ∀ a x to, V.get s a = (x, to, 0) → 0 ≤ a ∧ a < to ∧ to ≤ s.size ∧ (V.nats s).drop a.toNat = V.puts x ++ (V.nats s).drop to.toNat := fun a x to hg => by
        obtain ⟨g1, g2, g3, _, g5⟩ := get_ok hg
        exact ⟨g1, g2, g3, g5⟩
      obtain ⟨_, u0, _, h40, h41, _⟩ := run_prev (k := 3) h4
      obtain ⟨_, u1, _, h30, h31, _⟩ := run_prev (k := 2) h40
      obtain ⟨_, u2, _, h20, h21, _⟩ := run_prev (k := 1) h30
      obtain ⟨_, u3, _, h10, h11, _⟩ := run_prev (k := 0) h20
      have ha : u3 = a := by simp [run] at h10; exact h10.2.symm
      subst ha
      obtain ⟨a0, a1, a2, _⟩ := hf _ _ _ h11
      obtain ⟨b0, b1, b2, _⟩ := hf _ _ _ h21
      obtain ⟨c0, c1, c2, _⟩ := hf _ _ _ h31
      obtain ⟨d0, d1, d2, _⟩ := hf _ _ _ h41
      obtain ⟨k1, k2, k3⟩ := run_got s (V.get s) V.puts hf u3 (by omega) 4 _ _ h4
      obtain ⟨m1, m2, m3⟩ := run_got s (getR s) (fun r => V.nats r.put) (fun a x to hg => by
        obtain ⟨_, g1, g2, g3, g4⟩ := getR_got hg
        exact ⟨g1, g2, g3, g4⟩) t0 k2 n l t1 hr
      have hall : ∀ (k : Nat) (l : List R) (t : Int), run (getR s) t0 k = (l, t, 0) → chkL l = 0 := by
        intro k
        induction k with
        | zero => intro l t h; simp [run] at h; rw [h.1]; rfl
        | succ k ih =>
          intro l t h
          obtain ⟨l0, tt, r, h0, h1, rfl⟩ := run_prev h
          have e0 := ih _ _ h0
          have er := (getR_got h1).1
          have app : ∀ (l : List R), chkL l = 0 → chkL (l ++ [r]) = 0 := by
            intro l
            induction l with
            | nil => intro _; show (if r.chk ≠ 0 then r.chk else chkL []) = 0; rw [er]; rfl
            | cons z t ihl =>
              intro hz
              have hz' : (if z.chk ≠ 0 then z.chk else chkL t) = 0 := hz
              by_cases hq : z.chk = 0
              · rw [if_neg (by simpa using hq)] at hz'
                show (if z.chk ≠ 0 then z.chk else chkL (t ++ [r])) = 0
                rw [if_neg (by simpa using hq)]
                exact ihl hz'
              · rw [if_pos hq] at hz'
                exact absurd hz' hq
          exact app l0 e0
      refine ⟨a0, by omega, m2, ?_, ?_⟩
      · have hb : (numB (x0 : Int) && numB (x1 : Int) && numB (x2 : Int)) = true := by
          simp only [numB, Bool.and_eq_true, decide_eq_true_eq]
          omega
        show allN x0 x1 x2 l = 0
        unfold allN
        rw [hb, if_neg (by decide), if_neg (by omega), if_neg (by omega)]
        exact hall n l t1 hr
      · show _ = V.nats (batT x0 x1 x2 l) ++ _
        rw [nats_bat, k3, m3]
        simp [batN, hlen]
    · rw [parse_rec hn hr he1] at h
      simp only [Prod.mk.injEq] at h
      exact absurd h.2.2 he1
  · rw [parse_num hn he] at h
    simp only [Prod.mk.injEq] at h
    exact absurd h.2.2 he

theorem parse_err {s : ByteArray} {a to x : Int} {b : Bt} (h : parse s a = (b, to, x)) (hx : x ≠ 0) : b = Bt.zero ∧ to = 0 := by
  unfold parse at h
  split at h
  · simp only [Prod.mk.injEq] at h; exact ⟨h.1.symm, h.2.1.symm⟩
  · split at h
    · simp only [Prod.mk.injEq] at h; exact ⟨h.1.symm, h.2.1.symm⟩
    · simp only [Prod.mk.injEq] at h; exact absurd h.2.2.symm hx
end Go.Proofs.YtijofikpdhapoaaGreat.L3
/-
  What the laws on batches want: batches cut short, the sizes of their parts.
-/
namespace Go.Proofs.YtijofikpdhapoaaGreat.L3
open Go Go.RowKit

theorem nats_take (T : ByteArray) (j : Nat) : V.nats (T.extract 0 j) = (V.nats T).take j := by
  rw [V.nats_extract, List.drop_zero, Nat.sub_zero]

/-- a batch's bytes, cut short, are none -/
theorem cut_none {p e q : Int} {l : List R} (h : allN p e q l = 0) {j : Nat} (hj : j < (batT p e q l).size) {b : Bt} {to x : Int} (hp : parse ((batT p e q l).extract 0 j) 0 = (b, to, x)) : x ≠ 0 := by
  rintro rfl
  obtain ⟨_, g1, g2, g3, g4⟩ := parse_got hp
  have e1 := nats_take (batT p e q l) j
  rw [Int.toNat_zero, List.drop_zero, e1] at g4
  have hz : (batT p e q l).size = (V.nats (batT p e q l)).length := (V.nats_len _).symm
  have hT : V.nats (batT p e q l) = V.nats (batT b.p b.e b.q b.l) ++ (((V.nats (batT p e q l)).take j).drop to.toNat ++ (V.nats (batT p e q l)).drop j) := by
    rw [← List.append_assoc, ← g4, List.take_append_drop]
  have k1 := parse_put g3 (s := batT p e q l) (pre := []) (by simpa using hT)
  have k2 := parse_put h (s := batT p e q l) (pre := []) (post := []) (by simp)
  rw [k1] at k2
  simp only [Prod.mk.injEq] at k2
  have h1 := congrArg List.length g4
  rw [List.length_take, List.length_append, V.nats_len] at h1
  rw [V.nats_len] at h1
  have h2 := k2.2.1
  simp at h2
  omega

theorem cutR_size (l : List R) : ∀ r ∈ (l.take 20).map R.cut, r.key.size ≤ 80 ∧ r.val.size ≤ 600 := by
  intro r hr
  simp only [List.mem_map] at hr
  obtain ⟨q, _, rfl⟩ := hr
  exact ⟨cutS_size q.key 80, cutS_size q.val 600⟩
theorem cutR_len (l : List R) : ((l.take 20).map R.cut).length ≤ 20 := by rw [List.length_map, List.length_take]; omega
theorem cutR_max (l : List R) : ∀ r ∈ (l.take 20).map R.cut, r.key.size ≤ maxLen ∧ r.val.size ≤ maxLen := fun r hr => by
  have := cutR_size l r hr
  unfold maxLen
  omega

/-- how many bytes the first records have -/
def sumL : List R → Nat
  | [] => 0
  | r :: t => r.put.size + sumL t
theorem sumL_flat : ∀ l : List R, (l.flatMap fun r => V.nats r.put).length = sumL l
  | [] => rfl
  | r :: t => by rw [List.flatMap_cons, List.length_append, V.nats_len, sumL_flat t]; rfl
theorem sumL_app : ∀ (a : List R) (r : R), sumL (a ++ [r]) = sumL a + r.put.size
  | [], r => by simp [sumL]
  | q :: t, r => by show q.put.size + sumL (t ++ [r]) = q.put.size + sumL t + r.put.size; rw [sumL_app t r]; omega
theorem sumL_next {l : List R} {k : Nat} {r : R} (h : l[k]? = some r) : sumL (l.take (k + 1)) = sumL (l.take k) + r.put.size := by
  rw [List.take_add_one, h]
  exact sumL_app _ _
theorem sumL_le (l : List R) (k : Nat) : sumL (l.take k) ≤ 600 * k := by rw [← sumL_flat]; exact flat_le l k
theorem put_bounds {r : R} (h : r.chk = 0) : 2 ≤ r.put.size ∧ r.put.size ≤ 580 := by
  obtain ⟨hk, k, tb, v⟩ := r
  have h' : chk hk k tb v = 0 := h
  obtain ⟨q1, q2, q3, q4⟩ := chk_parts h'
  have e : R.put ⟨hk, k, tb, v⟩ = recText hk k tb v := if_pos h'
  rw [e]
  have z : ∀ s : ByteArray, (txt s).size = (V.puts s.size).length + s.size := txt_len
  have p1 := V.puts_pos k.size
  have p2 := V.puts_pos v.size
  have u1 : (V.puts k.size).length ≤ 1 := V.puts_len_le 0 k.size (by omega)
  have u2 : (V.puts v.size).length ≤ 2 := V.puts_len_le 1 v.size (by omega)
  cases hk <;> cases tb <;> simp only [recText, ByteArray.size_append, one_size, z] <;> omega
theorem bat_bounds {p e q : Int} {l : List R} (h : allN p e q l = 0) : sumL l + 4 ≤ (batT p e q l).size ∧ (batT p e q l).size ≤ sumL l + 19 := by
  obtain ⟨⟨p0, p1⟩, ⟨e0, e1⟩, ⟨q0, q1⟩, l0, l1, _⟩ := allN_ok h
  rw [← V.nats_len, nats_bat]
  unfold batN
  simp only [List.length_append, sumL_flat]
  have a1 := V.puts_pos p.toNat
  have a2 := V.puts_pos e.toNat
  have a3 := V.puts_pos q.toNat
  have a4 := V.puts_pos l.length
  have b1 : (V.puts p.toNat).length ≤ 6 := V.puts_len_le 5 _ (by omega)
  have b2 : (V.puts e.toNat).length ≤ 6 := V.puts_len_le 5 _ (by omega)
  have b3 : (V.puts q.toNat).length ≤ 6 := V.puts_len_le 5 _ (by omega)
  have b4 : (V.puts l.length).length ≤ 1 := V.puts_len_le 0 _ (by omega)
  omega
end Go.Proofs.YtijofikpdhapoaaGreat.L3
