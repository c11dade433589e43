/-
  Plain facts: batches and bytes, there and back.
-/
import Derived.Test.YtinhinghakkfoaaRecRbat
namespace Go.Proofs.Ytinhinghakkfoaa.L3

theorem run_ext {α : Type} {f : Int → α × Int × Int} {a to e : Int} {k : Nat} {l : List α} (h : run f a k = (l, to, e)) {a' : Int} (ha : a = a') : run f a' k = (l, to, e) := by subst ha; exact h

/-- a batch that is put is got -/
theorem parse_put {s : ByteArray} {p e q : Int} {l : List R} (h : allN p e q l = 0) {pre post : List Nat} (hs : V.nats s = pre ++ (V.nats (batT p e q l) ++ post)) :
    parse s pre.length = (⟨p.toNat, e.toNat, q.toNat, l⟩, (pre.length : Int) + (batT p e q l).size, 0) := by
  obtain ⟨⟨p0, p1⟩, ⟨e0, e1⟩, ⟨q0, q1⟩, l0, l1, hall⟩ := allN_ok h
  have hz : (batT p e q l).size = (batN p e q l).length := by rw [← V.nats_len, nats_bat]
  rw [nats_bat] at hs
  have hn4 : V.nats s = pre ++ (([p.toNat, e.toNat, q.toNat, l.length] : List Nat).flatMap V.puts ++ ((l.flatMap fun r => V.nats r.put) ++ post)) := by
    rw [hs]; simp [batN]
  have g1 := run_put s (V.get s) V.puts [p.toNat, e.toNat, q.toNat, l.length] (fun x hx l' r' hs' => by
    have hx' : x < 18446744073709551616 := by
      simp only [List.mem_cons, List.not_mem_nil, or_false] at hx
      omega
    exact V.get_at hx' hs') 4 pre _ (by simp) hn4
  have et : ([p.toNat, e.toNat, q.toNat, l.length] : List Nat).take 4 = [p.toNat, e.toNat, q.toNat, l.length] := rfl
  rw [et] at g1
  have hE : numE p.toNat e.toNat q.toNat l.length = 0 := by
    unfold numE cnt
    rw [if_neg (by omega), if_neg (by omega), if_neg (by omega)]
  have hN := numP_ok g1 hE
  have hr : V.nats s = (pre ++ ([p.toNat, e.toNat, q.toNat, l.length] : List Nat).flatMap V.puts) ++ ((l.flatMap fun r => V.nats r.put) ++ post) := by rw [hn4, List.append_assoc]
  have g2 := run_put s (getR s) (fun r => V.nats r.put) l (fun r hr' l' r' hs' => getR_put (hall r hr') hs') l.length _ _ (Nat.le_refl _) hr
  rw [List.take_length, List.length_append] at g2
  have g3 := run_ext g2 (by omega : (((pre.length + (([p.toNat, e.toNat, q.toNat, l.length] : List Nat).flatMap V.puts).length : Nat)) : Int) = (pre.length : Int) + (([p.toNat, e.toNat, q.toNat, l.length] : List Nat).flatMap V.puts).length)
  rw [parse_ok hN g3]
  refine Prod.ext rfl (Prod.ext ?_ rfl)
  show (((pre.length + (([p.toNat, e.toNat, q.toNat, l.length] : List Nat).flatMap V.puts).length : Nat)) : Int) + ((l.flatMap fun r => V.nats r.put).length : Nat) = (pre.length : Int) + ((batT p e q l).size : Nat)
  rw [hz]
  simp [batN]
  omega

/-- what is got is a batch's bytes -/
theorem parse_got {s : ByteArray} {a to : Int} {b : Bt} (h : parse s a = (b, to, 0)) :
    0 ≤ a ∧ a < to ∧ to ≤ s.size ∧ allN b.p b.e b.q b.l = 0 ∧ (V.nats s).drop a.toNat = V.nats (batT b.p b.e b.q b.l) ++ (V.nats s).drop to.toNat := by
  obtain ⟨⟨x0, x1, x2, n⟩, t0, e0, hn⟩ : ∃ n t0 e0, numP s a = (n, t0, e0) := ⟨_, _, _, rfl⟩
  by_cases he : e0 = 0
  · subst he
    obtain ⟨l, t1, e1, hr⟩ : ∃ l t1 e1, run (getR s) t0 n = (l, t1, e1) := ⟨_, _, _, rfl⟩
    by_cases he1 : e1 = 0
    · subst he1
      rw [parse_ok hn hr] at h
      simp only [Prod.mk.injEq, and_true] at h
      obtain ⟨rfl, rfl⟩ := h
      obtain ⟨h4, hE⟩ := numP_run hn
      obtain ⟨y0, y1, y2, y3, y4⟩ := numE_ok hE
      have hlen := run_len hr
      have hf : ∀ a x to, V.get s a = (x, to, 0) → 0 ≤ a ∧ a < to ∧ to ≤ s.size ∧ (V.nats s).drop a.toNat = V.puts x ++ (V.nats s).drop to.toNat := fun a x to hg => by
        obtain ⟨g1, g2, g3, _, g5⟩ := get_ok hg
        exact ⟨g1, g2, g3, g5⟩
      obtain ⟨_, u0, _, h40, h41, _⟩ := run_prev (k := 3) h4
      obtain ⟨_, u1, _, h30, h31, _⟩ := run_prev (k := 2) h40
      obtain ⟨_, u2, _, h20, h21, _⟩ := run_prev (k := 1) h30
      obtain ⟨_, u3, _, h10, h11, _⟩ := run_prev (k := 0) h20
      have ha : u3 = a := by simp [run] at h10; exact h10.2.symm
      subst ha
      obtain ⟨a0, a1, a2, _⟩ := hf _ _ _ h11
      obtain ⟨b0, b1, b2, _⟩ := hf _ _ _ h21
      obtain ⟨c0, c1, c2, _⟩ := hf _ _ _ h31
      obtain ⟨d0, d1, d2, _⟩ := hf _ _ _ h41
      obtain ⟨k1, k2, k3⟩ := run_got s (V.get s) V.puts hf u3 (by omega) 4 _ _ h4
      obtain ⟨m1, m2, m3⟩ := run_got s (getR s) (fun r => V.nats r.put) (fun a x to hg => by
        obtain ⟨_, g1, g2, g3, g4⟩ := getR_got hg
        exact ⟨g1, g2, g3, g4⟩) t0 k2 n l t1 hr
      have hall : ∀ (k : Nat) (l : List R) (t : Int), run (getR s) t0 k = (l, t, 0) → chkL l = 0 := by
        intro k
        induction k with
        | zero => intro l t h; simp [run] at h; rw [h.1]; rfl
        | succ k ih =>
          intro l t h
          obtain ⟨l0, tt, r, h0, h1, rfl⟩ := run_prev h
          have e0 := ih _ _ h0
          have er := (getR_got h1).1
          have app : ∀ (l : List R), chkL l = 0 → chkL (l ++ [r]) = 0 := by
            intro l
            induction l with
            | nil => intro _; show (if r.chk ≠ 0 then r.chk else chkL []) = 0; rw [er]; rfl
            | cons z t ihl =>
              intro hz
              have hz' : (if z.chk ≠ 0 then z.chk else chkL t) = 0 := hz
              by_cases hq : z.chk = 0
              · rw [if_neg (by simpa using hq)] at hz'
                show (if z.chk ≠ 0 then z.chk else chkL (t ++ [r])) = 0
                rw [if_neg (by simpa using hq)]
                exact ihl hz'
              · rw [if_pos hq] at hz'
                exact absurd hz' hq
          exact app l0 e0
      refine ⟨a0, by omega, m2, ?_, ?_⟩
      · have hb : (numB (x0 : Int) && numB (x1 : Int) && numB (x2 : Int)) = true := by
          simp only [numB, Bool.and_eq_true, decide_eq_true_eq]
          omega
        show allN x0 x1 x2 l = 0
        unfold allN
        rw [hb, if_neg (by decide), if_neg (by omega), if_neg (by omega)]
        exact hall n l t1 hr
      · show _ = V.nats (batT x0 x1 x2 l) ++ _
        rw [nats_bat, k3, m3]
        simp [batN, hlen]
    · rw [parse_rec hn hr he1] at h
      simp only [Prod.mk.injEq] at h
      exact absurd h.2.2 he1
  · rw [parse_num hn he] at h
    simp only [Prod.mk.injEq] at h
    exact absurd h.2.2 he

theorem parse_err {s : ByteArray} {a to x : Int} {b : Bt} (h : parse s a = (b, to, x)) (hx : x ≠ 0) : b = Bt.zero ∧ to = 0 := by
  unfold parse at h
  split at h
  · simp only [Prod.mk.injEq] at h; exact ⟨h.1.symm, h.2.1.symm⟩
  · split at h
    · simp only [Prod.mk.injEq] at h; exact ⟨h.1.symm, h.2.1.symm⟩
    · simp only [Prod.mk.injEq] at h; exact absurd h.2.2.symm hx
end Go.Proofs.Ytinhinghakkfoaa.L3
