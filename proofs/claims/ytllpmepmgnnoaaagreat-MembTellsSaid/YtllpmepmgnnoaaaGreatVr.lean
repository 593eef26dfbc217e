/- A region that draws its order and ends in one operation that waits for all the others: no program in it. -/
import Derived.Test.YtllpmepmgnnoaaaGreatRi
namespace Go.Proofs.YtllpmepmgnnoaaaGreat
set_option linter.unusedVariables false

/-- Each operation but the last is waited for by one behind it. -/
def okLast (ops : Array Oper) : Bool :=
  (List.range ops.size).all fun i => (i + 1 == ops.size) || (List.range ops.size).any fun k => decide (i < k) && (match ops[k]? with | none => false | some o => waits o i)
section
variable {P : Program} {ops : Array Oper} {Q : Exit → Act → World → Prop}
/-- What is known of a state in which the operations 'listed' have come up. -/
structure Known6 (ops : Array Oper) (V : Nat → Value → List Value → World → Prop) (S : World → Prop) (D : Nat → List Nat) (a0 : Act) (listed : Array Bool) (a : Act) (w : World) : Prop where
  size : a.tmps.size = a0.tmps.size
  defers : a.defers = a0.defers
  old : ∀ t, t ∉ dsts ops → a.tmps[t]? = a0.tmps[t]?
  waited : ∀ (i : Nat) (o : Oper), ops[i]? = some o → listed.getD i false = true → ∀ e ∈ o.after, Region.binds .any e = true → listed.getD e.on false = true
  known : ∀ (i : Nat) (o : Oper), ops[i]? = some o → listed.getD i false = true → (i + 1 = ops.size ∨ listed.getD (ops.size - 1) false = false) → V i (valAt ops (fun t => a.eval (.tmp t)) i) ((D i).map (valAt ops (fun t => a.eval (.tmp t)))) w
  s : listed.getD (ops.size - 1) false = false → S w
theorem Known6.all {ops : Array Oper} {V : Nat → Value → List Value → World → Prop} {S : World → Prop} {D : Nat → List Nat} {a0 : Act} {listed : Array Bool} {a : Act} {w : World} (h : Known6 ops V S D a0 listed a w) (hl : okLast ops = true)
    (hL : listed.getD (ops.size - 1) false = true) : ∀ i, i < ops.size → listed.getD i false = true := by
  have main : ∀ m i, i < ops.size → ops.size - i ≤ m → listed.getD i false = true := by
    intro m
    induction m with
    | zero => intro i hi hm; omega
    | succ m ih =>
      intro i hi hm
      by_cases he : i + 1 = ops.size
      · rw [show i = ops.size - 1 by omega]; exact hL
      · have h1 := List.all_eq_true.1 hl i (List.mem_range.2 hi)
        rw [Bool.or_eq_true] at h1
        rcases h1 with h1 | h1
        · exact absurd (by simpa using h1) he
        · obtain ⟨k, hk, h2⟩ := List.any_eq_true.1 h1
          rw [Bool.and_eq_true] at h2
          have hik : i < k := by simpa using h2.1
          have hkn : k < ops.size := List.mem_range.1 hk
          have hkl := ih k hkn (by omega)
          have h3 := h2.2
          rw [Array.getElem?_eq_getElem hkn] at h3
          simp only at h3
          unfold waits at h3
          obtain ⟨e, he2, hb⟩ := List.any_eq_true.1 h3
          simp only [Bool.and_eq_true, beq_iff_eq] at hb
          have h4 := h.waited k ops[k] (Array.getElem?_eq_getElem hkn) hkl e (by simpa using he2) hb.1
          rw [hb.2] at h4
          exact h4
  exact fun i hi => main ops.size i hi (by omega)
/-- **A region that draws its order, whose last operation waits for all.** V i v us: what is known behind operation i; S: what holds ahead of the last one; R j: how operation j turns the world. Behind the last one only its own V is known. -/
theorem wp_region_last {id : Nat} {a0 : Act} {w0 : World} (V : Nat → Value → List Value → World → Prop) (S : World → Prop) (R : Nat → World → World → Prop) (D : Nat → List Nat) (L : List Nat) (hL : dsts ops = L)
    (hm : P.follows .mixedOrders = true) (hok : okRegion3 ops a0.tmps.size D = true) (hng : ops.all (fun o => o.guard.isNone) = true) (hla : okLast ops = true) (hpos : 0 < ops.size) (hS : S w0.drew)
    (hst : ∀ (i j : Nat) (oi oj : Oper) v us w w', ops[i]? = some oi → ops[j]? = some oj → i ≠ j → i + 1 ≠ ops.size → waits oi j = false → S w → R j w w' → V i v us w → V i v us w')
    (hop : EachOp (fun i o => ∀ a w, S w → (∀ t, (dsts ops).contains t = false → a.eval (.tmp t) = a0.eval (.tmp t)) →
      (∀ j ∈ D i, V j (valAt ops (fun t => a.eval (.tmp t)) j) ((D j).map (valAt ops (fun t => a.eval (.tmp t)))) w) →
      Does2 P o a w fun v w' => V i (if o.dst.isSome then v else undef) ((D i).map (valAt ops (fun t => a.eval (.tmp t)))) w' ∧ (i + 1 ≠ ops.size → S w' ∧ R i w w')) 0 ops.toList)
    (hend : ∀ f w, V (ops.size - 1) (valAt ops f (ops.size - 1)) ((D (ops.size - 1)).map (valAt ops f)) w → Q .normal (putAll f L a0) w) : (Code.region id ops true).wp P Q a0 w0 := by
  subst hL
  obtain ⟨hnd, hlt, hops⟩ := okRegion3.parts hok
  refine wp_region_any hm ?_
  have main : ∀ (fuel : Nat) (listed : Array Bool) (a : Act) (w : World), listed.size = ops.size → (List.range ops.size).countP (fun i => !listed.getD i true) ≤ fuel → Known6 ops V S D a0 listed a w → wpAny P .any ops Q fuel listed a w := by
    have fin : ∀ (listed : Array Bool) (a : Act) (w : World), listed.size = ops.size → Known6 ops V S D a0 listed a w → Region.ready .any ops listed = [] → Q .normal a w := by
      intro listed a w hls hk hr
      have all : ∀ (i : Nat) (o : Oper), ops[i]? = some o → listed.getD i false = true := by
        intro i
        induction i using Nat.strongRecOn with
        | _ i ih =>
          intro o ho
          have hi : i < ops.size := (Array.getElem?_eq_some_iff.1 ho).1
          cases hl : listed.getD i false with
          | true => rfl
          | false =>
            have hmem : i ∈ Region.ready .any ops listed := by
              rw [mem_ready]
              refine ⟨?_, o, ho, fun e he hb => ?_⟩
              · have hi' : i < listed.size := by omega
                simp [hi'] at hl ⊢; exact hl
              · have hlt' := (hops i o ho).2.1 e he hb
                exact ih e.on hlt' ops[e.on] (Array.getElem?_eq_getElem (by omega))
            rw [hr] at hmem; cases hmem
      have e : a = putAll (fun t => a.eval (.tmp t)) (dsts ops) a0 := by
        have h1 : a.tmps = (putAll (fun t => a.eval (.tmp t)) (dsts ops) a0).tmps := by
          apply Array.ext_getElem?
          intro t
          rw [putAll_get]
          by_cases ht : t ∈ dsts ops
          · have hts := hlt t ht
            rw [if_pos ⟨ht, hts⟩]
            have : t < a.tmps.size := by rw [hk.size]; exact hts
            simp [Act.eval, this]
          · rw [if_neg (fun h => ht h.1)]; exact hk.old t ht
        have h2 : a.defers = (putAll (fun t => a.eval (.tmp t)) (dsts ops) a0).defers := by rw [putAll_defers]; exact hk.defers
        generalize putAll (fun t => a.eval (.tmp t)) (dsts ops) a0 = b at *
        obtain ⟨x, y⟩ := a
        obtain ⟨x', y'⟩ := b
        simp only at h1 h2
        subst h1 h2; rfl
      rw [e]
      exact hend _ _ (hk.known (ops.size - 1) ops[ops.size - 1] (Array.getElem?_eq_getElem (by omega)) (all _ _ (Array.getElem?_eq_getElem (by omega))) (.inl (by omega)))
    intro fuel
    induction fuel with
    | zero =>
      intro listed a w hls hc hk
      have hr : Region.ready .any ops listed = [] := by
        cases hr : Region.ready .any ops listed with
        | nil => rfl
        | cons i r =>
          have hi : i ∈ Region.ready .any ops listed := by rw [hr]; exact List.mem_cons_self
          obtain ⟨hl, o, ho, _⟩ := mem_ready.1 hi
          have : 0 < (List.range ops.size).countP (fun i => !listed.getD i true) :=
            List.countP_pos_iff.2 ⟨i, List.mem_range.2 (Array.getElem?_eq_some_iff.1 ho).1, by rw [hl]; rfl⟩
          omega
      exact ⟨hr, fin listed a w hls hk hr⟩
    | succ fuel ih =>
      intro listed a w hls hc hk
      refine ⟨fin listed a w hls hk, fun i hi => ?_⟩
      obtain ⟨hl, o, ho, hall⟩ := mem_ready.1 hi
      have hi' : i < ops.size := (Array.getElem?_eq_some_iff.1 ho).1
      obtain ⟨hg, hlt', hD⟩ := hops i o ho
      have hdo := EachOp.get hop i o (by simpa using ho)
      rw [Nat.zero_add] at hdo
      have hlf : listed.getD i false = false := by
        have hi'' : i < listed.size := by omega
        simp [hi''] at hl ⊢; exact hl
      have hLf : listed.getD (ops.size - 1) false = false := by
        cases hx : listed.getD (ops.size - 1) false with
        | false => rfl
        | true => rw [hk.all hla hx i hi'] at hlf; cases hlf
      have hd := hdo a w (hk.s hLf) (fun t ht => by
          have hn : t ∉ dsts ops := by
            intro hm; rw [List.contains_iff_mem.2 hm] at ht; cases ht
          have := hk.old t hn
          simp only [Act.eval, Array.getD_eq_getD_getElem?, this])
        (fun j hj => by
          obtain ⟨e, he, hb, rfl⟩ := hD j hj
          have hlt := hlt' e he hb
          exact hk.known e.on ops[e.on] (Array.getElem?_eq_getElem (by omega)) (hall e he hb) (.inr hLf))
      unfold wpOp
      simp only [ho]
      have hwant : Region.wanted o (yielded ops a.tmps) = true := by
        unfold Region.wanted
        have hgn : o.guard = none := by
          have h1 := Array.all_eq_true.1 hng i hi'
          have h2 : ops[i] = o := by rw [Array.getElem?_eq_getElem hi'] at ho; exact Option.some.inj ho
          rw [h2] at h1; simpa using h1
        rw [hgn]
      rw [if_pos hwant]
      refine .inl (Does2.wp hd fun v w' ⟨hV, hSR⟩ => ih _ _ _ (by simpa using hls) ?_ ?_)
      · have hb : (List.range ops.size).countP (fun j => !(listed.setIfInBounds i true).getD j true) < (List.range ops.size).countP (fun j => !listed.getD j true) := by
          have hsub : ∀ (l : List Nat), l.countP (fun j => !(listed.setIfInBounds i true).getD j true) + (if i ∈ l then 1 else 0) ≤ l.countP (fun j => !listed.getD j true) := by
            intro l
            induction l with
            | nil => simp
            | cons x r ihl =>
              rw [List.countP_cons, List.countP_cons]
              by_cases hx : i = x
              · subst hx
                rw [if_pos List.mem_cons_self]
                have e1 : (listed.setIfInBounds i true).getD i true = true := by
                  simp [show i < listed.size by omega]
                rw [e1, hl]
                have : r.countP (fun j => !(listed.setIfInBounds i true).getD j true) ≤ r.countP (fun j => !listed.getD j true) := by
                  split at ihl <;> omega
                exact Nat.succ_le_succ this
              · rw [getD_set_ne true hx]
                have : (i ∈ x :: r) ↔ i ∈ r := by simp [hx]
                simp only [this]
                omega
          have := hsub (List.range ops.size)
          rw [if_pos (List.mem_range.2 hi')] at this
          omega
        omega
      · -- a slot that isn't written now is as it was
        have hval : ∀ j, j ≠ i → valAt ops (fun t => (a.put o.dst v).eval (.tmp t)) j = valAt ops (fun t => a.eval (.tmp t)) j := by
          intro j hji
          unfold valAt
          cases hj : (ops[j]?).bind (·.dst) with
          | none => rfl
          | some t =>
            refine Act.eval_put fun d hd' => ?_
            intro e
            injection e with e
            subst e
            cases hoj : ops[j]? with
            | none => rw [hoj] at hj; cases hj
            | some oj =>
              rw [hoj] at hj
              exact hji (nodup_filterMap_get hnd j i oj o _ (by simpa using hoj) (by simpa using ho) hj hd')
        have hDne : ∀ k j, ∀ ok : Oper, ops[k]? = some ok → j ∈ D k → j < k := by
          intro k j ok hok hj
          obtain ⟨e, he, hb, rfl⟩ := (hops k ok hok).2.2 j hj
          exact (hops k ok hok).2.1 e he hb
        have hnl : (listed.setIfInBounds i true).getD (ops.size - 1) false = false → i + 1 ≠ ops.size := by
          intro h he
          have e1 : ops.size - 1 = i := by omega
          rw [e1] at h
          have hi'' : i < listed.size := by omega
          simp [hi''] at h
        refine ⟨?_, ?_, ?_, ?_, ?_, fun h => (hSR (hnl h)).1⟩
        · rw [← hk.size]; cases o.dst <;> simp [Act.put]
        · rw [← hk.defers]; cases o.dst <;> rfl
        · intro t ht
          rw [← hk.old t ht]
          cases hd' : o.dst with
          | none => rfl
          | some d =>
            have hne : d ≠ t := fun e => ht (mem_dsts.2 ⟨i, o, ho, by rw [hd', e]⟩)
            simp [Act.put, Array.getElem?_setIfInBounds_ne hne]
        · intro j oj hoj hlj e he hb
          by_cases hij : i = j
          · subst hij
            obtain rfl : oj = o := by rw [ho] at hoj; exact (Option.some.inj hoj).symm
            exact getD_set_true (hall e he hb)
          · rw [getD_set_ne false hij] at hlj
            exact getD_set_true (hk.waited j oj hoj hlj e he hb)
        · intro j oj hoj hlj hcase
          by_cases hij : i = j
          · subst hij
            obtain rfl : oj = o := by rw [ho] at hoj; exact (Option.some.inj hoj).symm
            have e1 : (D i).map (valAt ops (fun t => (a.put oj.dst v).eval (.tmp t))) = (D i).map (valAt ops (fun t => a.eval (.tmp t))) :=
              List.map_congr_left fun k hk' => hval k (Nat.ne_of_lt (hDne i k oj ho hk'))
            rw [e1]
            have e2 : valAt ops (fun t => (a.put oj.dst v).eval (.tmp t)) i = if oj.dst.isSome then v else undef := by
              unfold valAt
              rw [ho]
              cases hd' : oj.dst with
              | none => simp [hd']
              | some t =>
                have hts : t < a.tmps.size := by rw [hk.size]; exact hlt t (mem_dsts.2 ⟨i, oj, ho, hd'⟩)
                simp [hd', Act.put, Act.eval, hts]
            rw [e2]; exact hV
          · rw [getD_set_ne false hij] at hlj
            have hn : i + 1 ≠ ops.size := by
              rcases hcase with hc | hc
              · intro _
                have e1 : ops.size - 1 = j := by omega
                rw [e1, hlj] at hLf
                cases hLf
              · exact hnl hc
            have hkj := hk.known j oj hoj hlj (.inr hLf)
            have hnw : waits oj i = false := by
              cases hw : waits oj i with
              | false => rfl
              | true =>
                exfalso
                unfold waits at hw
                obtain ⟨e, he, hb⟩ := List.any_eq_true.1 hw
                simp only [Bool.and_eq_true, beq_iff_eq] at hb
                have h1 := hk.waited j oj hoj hlj e (by simpa using he) hb.1
                rw [hb.2] at h1
                have hi'' : i < listed.size := by omega
                simp [hi''] at hl h1
                rw [hl] at h1; cases h1
            have e1 : (D j).map (valAt ops (fun t => (a.put o.dst v).eval (.tmp t))) = (D j).map (valAt ops (fun t => a.eval (.tmp t))) :=
              List.map_congr_left fun k hk' => hval k (fun e => by
                subst e
                obtain ⟨e, he, hb, e2⟩ := (hops j oj hoj).2.2 _ hk'
                exact not_waits hnw e he hb e2)
            rw [e1, hval j (fun e => hij e.symm)]
            exact hst j i oj o _ _ _ _ hoj ho (fun e => hij e.symm) (fun e => by rw [show ops.size - 1 = j by omega, hlj] at hLf; cases hLf) hnw (hk.s hLf) (hSR hn).2 hkj
  refine main _ _ _ _ (by simp) ?_ ⟨rfl, rfl, fun _ _ => rfl, fun i o ho hl => ?_, fun i o ho hl _ => ?_, fun _ => hS⟩
  · exact Nat.le_trans List.countP_le_length (by simp)
  all_goals
    exfalso
    by_cases h : i < ops.size
    · simp [h] at hl
    · simp [h] at hl
end
end Go.Proofs.YtllpmepmgnnoaaaGreat
