/- A region that draws its order and has guards, of which some hold and some don't, by what each operation leaves: no program in it. -/
import Derived.Test.YtllpmepmgnnoaaaGreatRi
namespace Go.Proofs.YtllpmepmgnnoaaaGreat
set_option linter.unusedVariables false
section
variable {P : Program} {ops : Array Oper} {Q : Exit → Act → World → Prop}
/-- **A region that draws its order, by what each operation leaves.** V i v us: what is known behind operation i, of what lies in its slot and in the slots of those that it waits for (D i); S: what holds throughout; R j: how operation j may turn the world. -/
theorem wp_region_each4 {id : Nat} {a0 : Act} {w0 : World} (V : Nat → Value → List Value → World → Prop) (S : World → Prop) (R : Nat → World → World → Prop) (D : Nat → List Nat) (run : Nat → Bool) (L : List Nat) (hL : dsts ops = L)
    (hm : P.follows .mixedOrders = true) (hok : okRegion3 ops a0.tmps.size D = true) (hS : S w0.drew)
    (hst : ∀ (i j : Nat) (oi oj : Oper) v us w w', ops[i]? = some oi → ops[j]? = some oj → i ≠ j → waits oi j = false → S w → R j w w' → V i v us w → V i v us w')
    (hgd : ∀ (i : Nat) (o : Oper) g b, ops[i]? = some o → o.guard = some (g, b) → ∀ v us w, V g v us w → if run i = true then v = .bool b else v ≠ .bool b)
    (hng : ∀ (i : Nat) (o : Oper), ops[i]? = some o → run i = false → ∃ g b, o.guard = some (g, b))
    (hsk : ∀ (i : Nat) us w, run i = false → S w → V i undef us w)
    (hop : EachOp (fun i o => run i = true → ∀ a w, S w → (∀ t, (dsts ops).contains t = false → a.eval (.tmp t) = a0.eval (.tmp t)) →
      (∀ j ∈ D i, V j (valAt ops (fun t => a.eval (.tmp t)) j) ((D j).map (valAt ops (fun t => a.eval (.tmp t)))) w) →
      Does2 P o a w fun v w' => V i (if o.dst.isSome then v else undef) ((D i).map (valAt ops (fun t => a.eval (.tmp t)))) w' ∧ S w' ∧ R i w w') 0 ops.toList)
    (hend : ∀ f w, S w → (∀ i, i < ops.size → V i (valAt ops f i) ((D i).map (valAt ops f)) w) → Q .normal (putAll f L a0) w) : (Code.region id ops true).wp P Q a0 w0 := by
  subst hL
  obtain ⟨hnd, hlt, hops⟩ := okRegion3.parts hok
  refine wp_region_any hm ?_
  have main : ∀ (fuel : Nat) (listed : Array Bool) (a : Act) (w : World), listed.size = ops.size → (List.range ops.size).countP (fun i => !listed.getD i true) ≤ fuel → Known2 ops V S D a0 listed a w → wpAny P .any ops Q fuel listed a w := by
    have fin : ∀ (listed : Array Bool) (a : Act) (w : World), listed.size = ops.size → Known2 ops V S D a0 listed a w → Region.ready .any ops listed = [] → Q .normal a w := by
      intro listed a w hls hk hr
      have all : ∀ (i : Nat) (o : Oper), ops[i]? = some o → listed.getD i false = true := by
        intro i
        induction i using Nat.strongRecOn with
        | _ i ih =>
          intro o ho
          have hi : i < ops.size := (Array.getElem?_eq_some_iff.1 ho).1
          cases hl : listed.getD i false with
          | true => rfl
          | false =>
            have hmem : i ∈ Region.ready .any ops listed := by
              rw [mem_ready]
              refine ⟨?_, o, ho, fun e he hb => ?_⟩
              · have hi' : i < listed.size := by omega
                simp [hi'] at hl ⊢; exact hl
              · have hlt' := (hops i o ho).2.1 e he hb
                exact ih e.on hlt' ops[e.on] (Array.getElem?_eq_getElem (by omega))
            rw [hr] at hmem; cases hmem
      have e : a = putAll (fun t => a.eval (.tmp t)) (dsts ops) a0 := by
        have h1 : a.tmps = (putAll (fun t => a.eval (.tmp t)) (dsts ops) a0).tmps := by
          apply Array.ext_getElem?
          intro t
          rw [putAll_get]
          by_cases ht : t ∈ dsts ops
          · have hts := hlt t ht
            rw [if_pos ⟨ht, hts⟩]
            have : t < a.tmps.size := by rw [hk.size]; exact hts
            simp [Act.eval, this]
          · rw [if_neg (fun h => ht h.1)]; exact hk.old t ht
        have h2 : a.defers = (putAll (fun t => a.eval (.tmp t)) (dsts ops) a0).defers := by rw [putAll_defers]; exact hk.defers
        generalize putAll (fun t => a.eval (.tmp t)) (dsts ops) a0 = b at *
        obtain ⟨x, y⟩ := a
        obtain ⟨x', y'⟩ := b
        simp only at h1 h2
        subst h1 h2; rfl
      rw [e]
      refine hend _ _ hk.s fun i hi => ?_
      exact hk.known i ops[i] (Array.getElem?_eq_getElem hi) (all i ops[i] (Array.getElem?_eq_getElem hi))
    intro fuel
    induction fuel with
    | zero =>
      intro listed a w hls hc hk
      have hr : Region.ready .any ops listed = [] := by
        cases hr : Region.ready .any ops listed with
        | nil => rfl
        | cons i r =>
          have hi : i ∈ Region.ready .any ops listed := by rw [hr]; exact List.mem_cons_self
          obtain ⟨hl, o, ho, _⟩ := mem_ready.1 hi
          have : 0 < (List.range ops.size).countP (fun i => !listed.getD i true) :=
            List.countP_pos_iff.2 ⟨i, List.mem_range.2 (Array.getElem?_eq_some_iff.1 ho).1, by rw [hl]; rfl⟩
          omega
      exact ⟨hr, fin listed a w hls hk hr⟩
    | succ fuel ih =>
      intro listed a w hls hc hk
      refine ⟨fin listed a w hls hk, fun i hi => ?_⟩
      obtain ⟨hl, o, ho, hall⟩ := mem_ready.1 hi
      have hi' : i < ops.size := (Array.getElem?_eq_some_iff.1 ho).1
      obtain ⟨hg, hlt', hD⟩ := hops i o ho
      have hdo := EachOp.get hop i o (by simpa using ho)
      rw [Nat.zero_add] at hdo
      have hd := fun hrun => hdo hrun a w hk.s (fun t ht => by
          have hn : t ∉ dsts ops := by
            intro hm; rw [List.contains_iff_mem.2 hm] at ht; cases ht
          have := hk.old t hn
          simp only [Act.eval, Array.getD_eq_getD_getElem?, this])
        (fun j hj => by
          obtain ⟨e, he, hb, rfl⟩ := hD j hj
          have hlt := hlt' e he hb
          exact hk.known e.on ops[e.on] (Array.getElem?_eq_getElem (by omega)) (hall e he hb))
      unfold wpOp
      simp only [ho]
      have hgv : ∀ g b, o.guard = some (g, b) → (yielded ops a.tmps g == some b) = run i := by
        intro g b hgo
        obtain ⟨e, he, hb, heg⟩ := hD g (hg g b hgo)
        have hlt := hlt' e he hb
        rw [heg] at hlt
        have hv := hgd i o g b ho hgo _ _ _ (hk.known g ops[g] (Array.getElem?_eq_getElem (by omega)) (by rw [← heg]; exact hall e he hb))
        unfold valAt at hv
        unfold yielded
        cases ht : (ops[g]?).bind (·.dst) with
        | none =>
          rw [ht] at hv
          cases hr : run i with
          | true => rw [if_pos hr] at hv; cases hv
          | false => simp
        | some t =>
          rw [ht] at hv
          have hv' : if run i = true then a.tmps.getD t undef = .bool b else a.tmps.getD t undef ≠ .bool b := hv
          cases hr : run i with
          | true =>
            rw [if_pos hr] at hv'
            cases hq : a.tmps[t]? with
            | none => rw [Array.getD_eq_getD_getElem?, hq] at hv'; cases hv'
            | some u => rw [Array.getD_eq_getD_getElem?, hq] at hv'; simp at hv'; subst hv'; simp [hq]
          | false =>
            rw [if_neg (by rw [hr]; exact Bool.false_ne_true)] at hv'
            cases hq : a.tmps[t]? with
            | none => simp [hq]
            | some u =>
              rw [Array.getD_eq_getD_getElem?, hq] at hv'
              simp at hv'
              cases u with
              | bool c =>
                simp [hq]
                intro e; subst e; exact hv' rfl
              | _ => simp [hq]
      have hstep : ∀ v w', V i (if o.dst.isSome then v else undef) ((D i).map (valAt ops (fun t => a.eval (.tmp t)))) w' → S w' →
          (∀ j (oj : Oper) v us, ops[j]? = some oj → j ≠ i → waits oj i = false → V j v us w → V j v us w') → wpAny P .any ops Q fuel (listed.setIfInBounds i true) (a.put o.dst v) w' := fun v w' hV hS' hR => ih _ _ _ (by simpa using hls)
        (by
            have hb : (List.range ops.size).countP (fun j => !(listed.setIfInBounds i true).getD j true) < (List.range ops.size).countP (fun j => !listed.getD j true) := by
              have hsub : ∀ (l : List Nat), l.countP (fun j => !(listed.setIfInBounds i true).getD j true) + (if i ∈ l then 1 else 0) ≤ l.countP (fun j => !listed.getD j true) := by
                intro l
                induction l with
                | nil => simp
                | cons x r ihl =>
                  rw [List.countP_cons, List.countP_cons]
                  by_cases hx : i = x
                  · subst hx
                    rw [if_pos List.mem_cons_self]
                    have e1 : (listed.setIfInBounds i true).getD i true = true := by
                      simp [show i < listed.size by omega]
                    rw [e1, hl]
                    have : r.countP (fun j => !(listed.setIfInBounds i true).getD j true) ≤ r.countP (fun j => !listed.getD j true) := by
                      split at ihl <;> omega
                    exact Nat.succ_le_succ this
                  · rw [getD_set_ne true hx]
                    have : (i ∈ x :: r) ↔ i ∈ r := by simp [hx]
                    simp only [this]
                    omega
              have := hsub (List.range ops.size)
              rw [if_pos (List.mem_range.2 hi')] at this
              omega
            omega) (by
            -- a slot that isn't written now is as it was
            have hval : ∀ j, j ≠ i → valAt ops (fun t => (a.put o.dst v).eval (.tmp t)) j = valAt ops (fun t => a.eval (.tmp t)) j := by
              intro j hji
              unfold valAt
              cases hj : (ops[j]?).bind (·.dst) with
              | none => rfl
              | some t =>
                refine Act.eval_put fun d hd' => ?_
                intro e
                injection e with e
                subst e
                cases hoj : ops[j]? with
                | none => rw [hoj] at hj; cases hj
                | some oj =>
                  rw [hoj] at hj
                  exact hji (nodup_filterMap_get hnd j i oj o _ (by simpa using hoj) (by simpa using ho) hj hd')
            have hDne : ∀ k j, ∀ ok : Oper, ops[k]? = some ok → j ∈ D k → j < k := by
              intro k j ok hok hj
              obtain ⟨e, he, hb, rfl⟩ := (hops k ok hok).2.2 j hj
              exact (hops k ok hok).2.1 e he hb
            refine ⟨?_, ?_, ?_, ?_, ?_, hS'⟩
            · rw [← hk.size]; cases o.dst <;> simp [Act.put]
            · rw [← hk.defers]; cases o.dst <;> rfl
            · intro t ht
              rw [← hk.old t ht]
              cases hd' : o.dst with
              | none => rfl
              | some d =>
                have hne : d ≠ t := fun e => ht (mem_dsts.2 ⟨i, o, ho, by rw [hd', e]⟩)
                simp [Act.put, Array.getElem?_setIfInBounds_ne hne]
            · intro j oj hoj hlj e he hb
              by_cases hij : i = j
              · subst hij
                obtain rfl : oj = o := by rw [ho] at hoj; exact (Option.some.inj hoj).symm
                exact getD_set_true (hall e he hb)
              · rw [getD_set_ne false hij] at hlj
                exact getD_set_true (hk.waited j oj hoj hlj e he hb)
            · intro j oj hoj hlj
              by_cases hij : i = j
              · subst hij
                obtain rfl : oj = o := by rw [ho] at hoj; exact (Option.some.inj hoj).symm
                have e1 : (D i).map (valAt ops (fun t => (a.put oj.dst v).eval (.tmp t))) = (D i).map (valAt ops (fun t => a.eval (.tmp t))) :=
                  List.map_congr_left fun k hk' => hval k (Nat.ne_of_lt (hDne i k oj ho hk'))
                rw [e1]
                have e2 : valAt ops (fun t => (a.put oj.dst v).eval (.tmp t)) i = if oj.dst.isSome then v else undef := by
                  unfold valAt
                  rw [ho]
                  cases hd' : oj.dst with
                  | none => simp [hd']
                  | some t =>
                    have hts : t < a.tmps.size := by rw [hk.size]; exact hlt t (mem_dsts.2 ⟨i, oj, ho, hd'⟩)
                    simp [hd', Act.put, Act.eval, hts]
                rw [e2]; exact hV
              · rw [getD_set_ne false hij] at hlj
                have hkj := hk.known j oj hoj hlj
                have hnw : waits oj i = false := by
                  cases hw : waits oj i with
                  | false => rfl
                  | true =>
                    exfalso
                    unfold waits at hw
                    obtain ⟨e, he, hb⟩ := List.any_eq_true.1 hw
                    simp only [Bool.and_eq_true, beq_iff_eq] at hb
                    have h1 := hk.waited j oj hoj hlj e (by simpa using he) hb.1
                    rw [hb.2] at h1
                    have hi'' : i < listed.size := by omega
                    simp [hi''] at hl h1
                    rw [hl] at h1; cases h1
                have e1 : (D j).map (valAt ops (fun t => (a.put o.dst v).eval (.tmp t))) = (D j).map (valAt ops (fun t => a.eval (.tmp t))) :=
                  List.map_congr_left fun k hk' => hval k (fun e => by
                    subst e
                    obtain ⟨e, he, hb, e2⟩ := (hops j oj hoj).2.2 _ hk'
                    exact not_waits hnw e he hb e2)
                rw [e1, hval j (fun e => hij e.symm)]
                exact hR j oj _ _ hoj (fun e => hij e.symm) hnw hkj)
      cases hrun : run i with
      | true =>
        have hwant : Region.wanted o (yielded ops a.tmps) = true := by
          unfold Region.wanted
          cases hgo : o.guard with
          | none => rfl
          | some gb => obtain ⟨g, b⟩ := gb; exact (hgv g b hgo).trans hrun
        rw [if_pos hwant]
        exact .inl (Does2.wp (hd hrun) fun v w' ⟨hV, hS', hR⟩ => hstep v w' hV hS' fun j oj v us hoj hji hnw hkj => hst j i oj o _ _ _ _ hoj ho hji hnw hk.s hR hkj)
      | false =>
        obtain ⟨g, b, hgo⟩ := hng i o ho hrun
        have hwant : ¬ Region.wanted o (yielded ops a.tmps) = true := by
          unfold Region.wanted
          rw [hgo]
          show ¬ (yielded ops a.tmps g == some b) = true
          rw [hgv g b hgo, hrun]; exact Bool.false_ne_true
        rw [if_neg hwant]
        exact hstep undef w (by have := hsk i ((D i).map (valAt ops (fun t => a.eval (.tmp t)))) w hrun hk.s; cases o.dst <;> exact this) hk.s fun j oj v us _ _ _ h => h
  refine main _ _ _ _ (by simp) ?_ ⟨rfl, rfl, fun _ _ => rfl, fun i o ho hl => ?_, fun i o ho hl => ?_, hS⟩
  · exact Nat.le_trans List.countP_le_length (by simp)
  all_goals
    exfalso
    by_cases h : i < ops.size
    · simp [h] at hl
    · simp [h] at hl
end
end Go.Proofs.YtllpmepmgnnoaaaGreat
