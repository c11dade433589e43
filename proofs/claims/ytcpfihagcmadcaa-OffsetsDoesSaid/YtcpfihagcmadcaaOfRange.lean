/-
  A store at a key that is there, into a map that is gone over: the loop stays where it is, the element is another one.
-/
import Derived.Maps.RangeWalk
import Derived.Maps.OwnSet
namespace Go
open Go.ChangeMaps Go.MapKept
open Go.WideElems (Fit rd rg pl rd_key rd_val rg_of rd_mk other_key)
open Go.Maps
section
variable {H : Type} {P : Program} {k : TypeId} {R : Value → Option (DataW H × List MemPlace)} {w : World} {b r n : Nat} {D : DataW H} {left : Lit → Bool} {cnt : Nat}

theorem setBlock_inj {w : World} {b : Nat} {es es' es0 : Array MapEntry} {c c' c0 : Nat} (hb : w.heap[b]? = some (.map es0 c0)) (h : setBlock w b (.map es c) = setBlock w b (.map es' c')) : es = es' ∧ c = c' := by
  have h1 := heap_setBlock_same hb (.map es c)
  have h2 := heap_setBlock_same hb (.map es' c')
  rw [h, h2] at h1
  injection h1 with h1
  injection h1 with h1 h3
  exact ⟨h1.symm, h3.symm⟩

theorem filter_born (l l' : List MapEntry) (f : Nat → Bool) (h : l'.map (·.born) = l.map (·.born)) : (l'.filter fun e => f e.born).length = (l.filter fun e => f e.born).length := by
  have e : ∀ m : List MapEntry, (m.filter fun e => f e.born).length = ((m.map (·.born)).filter f).length := fun m => by
    rw [List.filter_map, List.length_map]; rfl
  rw [e, e, h]

/-- 'm[k] = v' IN THE ROUND, k there. -/
theorem World.ranges.restore {t e : TypeId} (h : w.ranges P k R b r n D left cnt) (K : Keyed P k) (ht : P.underlying t = some (.map k e)) (hn : n < maxLen) {key val : Value} {kl : Lit} {d : DataW H} {ps : List MemPlace}
    (hkey : keyOf P k key = some kl) (hv : R val = some (d, ps)) (hin : Maps.has D kl = true) :
    ∃ w', (Instr.mapUpdate t (.map (some b)) key val).run P w = .ok () w' ∧ w'.ranges P k R b r n (D.put kl d) left cnt ∧ w.mapTurned w' b := by
  have hne := h.ne
  have hown := h.owns
  obtain ⟨es, clock, since, seen, c0, hb, F, hs, rfl, hr, hold, rfl, hl1, hl2, hsc, hsk⟩ := h
  rcases K.find w hkey es.toList F.keys with ⟨h1, h2⟩ | ⟨j, e0, h1, h2, h3⟩
  · exfalso
    have hm : ∃ p ∈ (es.toList.map (rg P k R)).foldr DataW.insert [], p.1.sameKey kl = true := by
      simpa [Maps.has, List.any_eq_true] using hin
    obtain ⟨p, hp, hk⟩ := hm
    obtain ⟨x, hx, rfl⟩ := List.mem_map.1 (mem_sorted.1 hp)
    obtain ⟨y, hy⟩ := F.reads x hx
    have m1 := rd_key hy
    rw [rg_of hy] at hk
    refine h2 x hx (K.inj m1 ?_)
    rw [hkey]
    exact congrArg some (WideAt.sameKey_eq hk).symm
  · have hj : es[j]? = some e0 := by simpa using h2
    have hjl : j < es.toList.length := (List.getElem?_eq_some_iff.1 h2).1
    have hlist : (es.modify j (fun e' => { e' with key := key, val := val })).toList = es.toList.set j { e0 with key := key, val := val } := by rw [Array.toList_modify, modify_eq_set _ _ _ _ h2]
    have hrun : (Instr.mapUpdate t (.map (some b)) key val).run P w = .ok () (setBlock w b (.map (es.modify j (fun e' => { e' with key := key, val := val })) clock)) := by
      simp [Instr.mapUpdate, run_underlying ht, MapKept.run_getObj_map hb, K.check w false hkey, h1, hj, h3, K.stays w hkey, MapKept.run_setObj_map _ hb, Result.andThen, setBlock]
    obtain ⟨es2, clock2, hrun2, F2, hput, _, _, _⟩ := Maps.fit_store (R' := R) K ht hb F (Nat.lt_of_le_of_lt hs hn) (fun _ _ _ _ hz => hz) hkey hv
    obtain ⟨e1, e2⟩ : es2 = es.modify j (fun e' => { e' with key := key, val := val }) ∧ clock2 = clock := by
      rw [hrun] at hrun2
      exact setBlock_inj hb (by injection hrun2 with _ q; exact q.symm)
    subst e2
    have hborn : es2.toList.map (·.born) = es.toList.map (·.born) := by
      rw [e1, hlist, List.map_set]
      refine List.ext_getElem? (fun i => ?_)
      rw [List.getElem?_set]
      split
      · rename_i hij
        subst hij
        rw [if_pos (by simpa using hjl), List.getElem?_map, h2]; rfl
      · rfl
    have who : ∀ x ∈ es2.toList, (x = { e0 with key := key, val := val }) ∨ x ∈ es.toList := by
      intro x hx
      rw [e1, hlist] at hx
      rcases List.mem_or_eq_of_mem_set hx with q | q
      · exact .inr q
      · exact .inl q
    have hm0 : e0 ∈ es.toList := List.mem_of_getElem? h2
    have k0 : (rg P k R e0).1 = kl := by
      obtain ⟨y, hy⟩ := F.reads e0 hm0
      have m1 := rd_key hy
      rw [h3, hkey] at m1
      rw [rg_of hy]
      exact (Option.some.inj m1).symm
    have k1 : (rg P k R { e0 with key := key, val := val }).1 = kl := by
      rw [rg_of (rd_mk hkey hv)]
    refine ⟨_, hrun2, ⟨es2, clock2, since, seen, c0, heap_setBlock_same hb _, F2, ?_, by rw [DataW.put_eq, hput], (heap_setBlock_other hb _ hne).trans hr, fun x hx => ?_, ?_, fun x hx => ?_, fun x0 hx0 => ?_, hsc, hsk⟩, ⟨es, clock2, es2, clock2, hb, rfl⟩⟩
    · rw [e1]; simpa using hs
    · rcases who x hx with q | q
      · rw [q]; exact hold e0 hm0
      · exact hold x q
    · have e3 : ∀ a : Array MapEntry, (leftOf a seen).size = (a.toList.filter fun e => !seen.contains e.born).length := fun a => by
        unfold leftOf
        rw [← Array.toList_filter, Array.length_toList]
      rw [e3, e3]
      exact filter_born _ _ (fun z => !seen.contains z) hborn
    · rcases who x hx with q | q
      · rw [q, k1, ← k0]; exact hl1 e0 hm0
      · exact hl1 x q
    · obtain ⟨x, hx, hk⟩ := hl2 x0 hx0
      obtain ⟨i, hi⟩ := List.getElem?_of_mem hx
      by_cases hij : i = j
      · subst hij
        rw [h2] at hi
        injection hi with hi
        subst hi
        refine ⟨{ e0 with key := key, val := val }, ?_, by rw [k1, ← k0]; exact hk⟩
        rw [e1, hlist]
        exact List.mem_of_getElem? (i := i) (by rw [List.getElem?_set_self hjl])
      · refine ⟨x, ?_, hk⟩
        rw [e1, hlist]
        exact List.mem_of_getElem? (i := i) (by rw [List.getElem?_set_ne (fun q => hij q.symm)]; exact hi)
end
end Go
