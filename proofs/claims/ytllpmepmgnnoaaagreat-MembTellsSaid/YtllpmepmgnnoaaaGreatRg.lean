/- A region that draws its order, by what each operation leaves: no program in it. -/
import Derived.Orders
import Derived.WalkKit
import Derived.Below
import Derived.Lib.Hide
namespace Go.Proofs.YtllpmepmgnnoaaaGreat
set_option linter.unusedVariables false

/-- What one operation does from a state: it yields a value, or its callee returns one. -/
def Does (P : Program) (o : Oper) (a : Act) (w : World) (F : Value → World → Prop) : Prop :=
  (∃ v w', (execOp a.eval o).run P w = .ok (.value v) w' ∧ F v w') ∨
  (∃ f args w', (execOp a.eval o).run P w = .ok (.enter f args) w' ∧ Calls P f args w' fun e w'' => ∃ v, e = .returned v ∧ F v w'')
theorem Does.wp {P : Program} {o : Oper} {a : Act} {w : World} {F : Value → World → Prop} (h : Does P o a w F) {K : Act → World → Prop} {Q : Exit → Act → World → Prop} (hk : ∀ v w', F v w' → K (a.put o.dst v) w') : o.wp P a w K Q := by
  unfold Oper.wp
  rcases h with ⟨v, w', e, hF⟩ | ⟨f, args, w', e, hc⟩
  · rw [e]; exact hk _ _ hF
  · rw [e]
    refine Calls.mono hc fun e w'' he => ?_
    obtain ⟨v, rfl, hF⟩ := he
    exact hk _ _ hF
theorem Does.mono {P : Program} {o : Oper} {a : Act} {w : World} {F G : Value → World → Prop} (h : Does P o a w F) (hm : ∀ v w', F v w' → G v w') : Does P o a w G := by
  rcases h with ⟨v, w', e, hF⟩ | ⟨f, args, w', e, hc⟩
  · exact .inl ⟨v, w', e, hm _ _ hF⟩
  · refine .inr ⟨f, args, w', e, hc.mono fun e w'' he => ?_⟩
    obtain ⟨v, rfl, hF⟩ := he
    exact ⟨v, rfl, hm _ _ hF⟩
theorem Does.value {P : Program} {o : Oper} {a : Act} {w w' : World} {F : Value → World → Prop} (v : Value) (e : (execOp a.eval o).run P w = .ok (.value v) w') (h : F v w') : Does P o a w F := .inl ⟨v, w', e, h⟩
theorem Does.call {P : Program} {o : Oper} {a : Act} {w w' : World} {F : Value → World → Prop} (f : FuncId) (args : Array Value) (e : (execOp a.eval o).run P w = .ok (.enter f args) w') (h : Calls P f args w' fun e w'' => ∃ v, e = .returned v ∧ F v w'') : Does P o a w F := .inr ⟨f, args, w', e, h⟩

/-- The slots that a region writes. -/
def dsts (ops : Array Oper) : List Nat := ops.toList.filterMap (·.dst)
def putAll (f : Nat → Value) : List Nat → Act → Act
  | [], a => a
  | t :: r, a => putAll f r (a.put (some t) (f t))
/-- What is checked of a region, by program: no guards, each operation waits for earlier ones only, each slot is written once, and D's slots are waited for. -/
def okRegion (ops : Array Oper) (size : Nat) (D : Nat → List Nat) : Bool :=
  decide (dsts ops).Nodup && (dsts ops).all (· < size) && (List.range ops.size).all fun i => match ops[i]? with
    | none => true
    | some o => o.guard.isNone && o.after.toList.all (fun e => decide (e.on < i)) && (D i).all fun t => o.after.toList.any fun e => Region.binds .any e && ((ops[e.on]?).bind (·.dst)) == some t
def EachOp (F : Nat → Oper → Prop) : Nat → List Oper → Prop
  | _, [] => True
  | n, o :: r => F n o ∧ EachOp F (n + 1) r
theorem EachOp.get {F : Nat → Oper → Prop} : ∀ {l : List Oper} {n : Nat}, EachOp F n l → ∀ (i : Nat) (o : Oper), l[i]? = some o → F (n + i) o
  | [], _, _, i, o, h => by simp at h
  | x :: r, n, h, 0, o, ho => by simp at ho; subst ho; exact h.1
  | x :: r, n, h, i + 1, o, ho => by
    have := EachOp.get h.2 i o (by simpa using ho)
    rwa [show n + 1 + i = n + (i + 1) by omega] at this

section
variable {P : Program} {ops : Array Oper} {Q : Exit → Act → World → Prop}

theorem okRegion.parts {size : Nat} {D : Nat → List Nat} (h : okRegion ops size D = true) :
    (dsts ops).Nodup ∧ (∀ t ∈ dsts ops, t < size) ∧ ∀ (i : Nat) (o : Oper), ops[i]? = some o → o.guard = none ∧ (∀ e ∈ o.after, e.on < i) ∧ ∀ t ∈ D i, ∃ e ∈ o.after, Region.binds .any e = true ∧ ∃ oj : Oper, ops[e.on]? = some oj ∧ oj.dst = some t := by
  unfold okRegion at h
  simp only [Bool.and_eq_true, decide_eq_true_eq, List.all_eq_true, List.mem_range] at h
  obtain ⟨⟨h1, h2⟩, h3⟩ := h
  refine ⟨h1, fun t ht => h2 t ht, fun i o ho => ?_⟩
  have := h3 i (Array.getElem?_eq_some_iff.1 ho).1
  rw [ho] at this
  simp only [Bool.and_eq_true, Option.isNone_iff_eq_none, List.all_eq_true, decide_eq_true_eq] at this
  obtain ⟨⟨g, ha⟩, hd⟩ := this
  refine ⟨g, fun e he => ha e (by simpa using he), fun t ht => ?_⟩
  obtain ⟨e, he, hb⟩ := List.any_eq_true.1 (hd t ht)
  simp only [Bool.and_eq_true, beq_iff_eq] at hb
  refine ⟨e, by simpa using he, hb.1, ?_⟩
  cases hj : ops[e.on]? with
  | none => rw [hj] at hb; simp at hb
  | some oj => rw [hj] at hb; exact ⟨oj, rfl, by simpa using hb.2⟩
theorem mem_dsts {t : Nat} : t ∈ dsts ops ↔ ∃ (i : Nat) (o : Oper), ops[i]? = some o ∧ o.dst = some t := by
  unfold dsts
  rw [List.mem_filterMap]
  constructor
  · rintro ⟨o, ho, hd⟩
    obtain ⟨i, hi⟩ := List.getElem?_of_mem ho
    exact ⟨i, o, by simpa using hi, hd⟩
  · rintro ⟨i, o, ho, hd⟩
    exact ⟨o, by simpa using Array.mem_of_getElem? ho, hd⟩
theorem nodup_filterMap_get {l : List Oper} (h : (l.filterMap (·.dst)).Nodup) : ∀ (i j : Nat) (oi oj : Oper) (t : Nat), l[i]? = some oi → l[j]? = some oj → oi.dst = some t → oj.dst = some t → i = j := by
  induction l with
  | nil => intro i j oi oj t hi; simp at hi
  | cons x r ih =>
    have key : ∀ t, x.dst = some t → ∀ (k : Nat) (o : Oper), r[k]? = some o → o.dst = some t → False := by
      intro t hx k o ho hd
      rw [List.filterMap_cons_some hx, List.nodup_cons] at h
      exact h.1 (List.mem_filterMap.2 ⟨o, List.mem_of_getElem? ho, hd⟩)
    have hr : (r.filterMap (·.dst)).Nodup := by
      cases hx : x.dst with
      | none => rwa [List.filterMap_cons_none hx] at h
      | some t => rw [List.filterMap_cons_some hx, List.nodup_cons] at h; exact h.2
    intro i j oi oj t hi hj di dj
    cases i with
    | zero =>
      simp at hi; subst hi
      cases j with
      | zero => rfl
      | succ j => exact (key t di j oj (by simpa using hj) dj).elim
    | succ i =>
      cases j with
      | zero => simp at hj; subst hj; exact (key t dj i oi (by simpa using hi) di).elim
      | succ j => rw [ih hr i j oi oj t (by simpa using hi) (by simpa using hj) di dj]

theorem putAll_defers (f : Nat → Value) : ∀ (l : List Nat) (a : Act), (putAll f l a).defers = a.defers
  | [], _ => rfl
  | t :: r, a => (putAll_defers f r _).trans rfl
theorem putAll_size (f : Nat → Value) : ∀ (l : List Nat) (a : Act), (putAll f l a).tmps.size = a.tmps.size
  | [], _ => rfl
  | t :: r, a => (putAll_size f r _).trans (by simp [Act.put])
theorem putAll_get (f : Nat → Value) : ∀ (l : List Nat) (a : Act) (t : Nat), (putAll f l a).tmps[t]? = if t ∈ l ∧ t < a.tmps.size then some (f t) else a.tmps[t]?
  | [], a, t => by simp [putAll]
  | x :: r, a, t => by
    rw [putAll, putAll_get f r _ t]
    have hs : (a.put (some x) (f x)).tmps.size = a.tmps.size := by simp [Act.put]
    rw [hs]
    by_cases ht : t < a.tmps.size
    · by_cases hr : t ∈ r
      · rw [if_pos ⟨hr, ht⟩, if_pos ⟨List.mem_cons_of_mem _ hr, ht⟩]
      · rw [if_neg (fun h => hr h.1)]
        by_cases hx : t = x
        · subst hx
          rw [if_pos ⟨List.mem_cons_self, ht⟩]
          simp [Act.put, ht]
        · rw [if_neg (fun h => by rcases List.mem_cons.1 h.1 with e | e; exact hx e; exact hr e)]
          simp [Act.put, Array.getElem?_setIfInBounds_ne (fun e => hx e.symm)]
    · rw [if_neg (fun h => ht h.2), if_neg (fun h => ht h.2)]
      rw [Array.getElem?_eq_none (by rw [hs]; omega), Array.getElem?_eq_none (by omega)]

/-- What is known of a state in which the operations 'listed' have come up. -/
structure Known (ops : Array Oper) (V : Nat → Value → World → Prop) (S : World → Prop) (a0 : Act) (listed : Array Bool) (a : Act) (w : World) : Prop where
  size : a.tmps.size = a0.tmps.size
  defers : a.defers = a0.defers
  old : ∀ t, t ∉ dsts ops → a.tmps[t]? = a0.tmps[t]?
  known : ∀ (i : Nat) (o : Oper) (t : Nat), ops[i]? = some o → o.dst = some t → listed.getD i false = true → V t (a.eval (.tmp t)) w
  s : S w

/-- **A region that draws its order, by what each operation leaves.** V: what is known of a slot that has been written; S: what holds throughout; R: how the world may turn; D: for each operation the slots that it looks at. -/
theorem wp_region_each {id : Nat} {a0 : Act} {w0 : World} (V : Nat → Value → World → Prop) (S : World → Prop) (R : World → World → Prop) (D : Nat → List Nat) (L : List Nat) (hL : dsts ops = L)
    (hm : P.follows .mixedOrders = true) (hok : okRegion ops a0.tmps.size D = true) (hS : S w0.drew)
    (hst : ∀ t v w w', S w → R w w' → V t v w → V t v w')
    (hop : EachOp (fun i o => ∀ a w, S w → (∀ t, (dsts ops).contains t = false → a.eval (.tmp t) = a0.eval (.tmp t)) → (∀ t ∈ D i, V t (a.eval (.tmp t)) w) →
      Does P o a w fun v w' => (∀ t, o.dst = some t → V t v w') ∧ S w' ∧ R w w') 0 ops.toList)
    (hend : ∀ f w, S w → (∀ t ∈ L, V t (f t) w) → Q .normal (putAll f L a0) w) : (Code.region id ops true).wp P Q a0 w0 := by
  subst hL
  obtain ⟨hnd, hlt, hops⟩ := okRegion.parts hok
  refine wp_region_any hm ?_
  have main : ∀ (fuel : Nat) (listed : Array Bool) (a : Act) (w : World), listed.size = ops.size → (List.range ops.size).countP (fun i => !listed.getD i true) ≤ fuel → Known ops V S a0 listed a w → wpAny P .any ops Q fuel listed a w := by
    have fin : ∀ (listed : Array Bool) (a : Act) (w : World), listed.size = ops.size → Known ops V S a0 listed a w → Region.ready .any ops listed = [] → Q .normal a w := by
      intro listed a w hls hk hr
      have all : ∀ (i : Nat) (o : Oper), ops[i]? = some o → listed.getD i false = true := by
        intro i
        induction i using Nat.strongRecOn with
        | _ i ih =>
          intro o ho
          have hi : i < ops.size := (Array.getElem?_eq_some_iff.1 ho).1
          cases hl : listed.getD i false with
          | true => rfl
          | false =>
            have hmem : i ∈ Region.ready .any ops listed := by
              rw [mem_ready]
              refine ⟨?_, o, ho, fun e he _ => ?_⟩
              · have hi' : i < listed.size := by omega
                simp [hi'] at hl ⊢; exact hl
              · have hlt' := (hops i o ho).2.1 e he
                exact ih e.on hlt' ops[e.on] (Array.getElem?_eq_getElem (by omega))
            rw [hr] at hmem; cases hmem
      have e : a = putAll (fun t => a.eval (.tmp t)) (dsts ops) a0 := by
        have h1 : a.tmps = (putAll (fun t => a.eval (.tmp t)) (dsts ops) a0).tmps := by
          apply Array.ext_getElem?
          intro t
          rw [putAll_get]
          by_cases ht : t ∈ dsts ops
          · have hts := hlt t ht
            rw [if_pos ⟨ht, hts⟩]
            have : t < a.tmps.size := by rw [hk.size]; exact hts
            simp [Act.eval, this]
          · rw [if_neg (fun h => ht h.1)]; exact hk.old t ht
        have h2 : a.defers = (putAll (fun t => a.eval (.tmp t)) (dsts ops) a0).defers := by rw [putAll_defers]; exact hk.defers
        generalize putAll (fun t => a.eval (.tmp t)) (dsts ops) a0 = b at *
        obtain ⟨x, y⟩ := a
        obtain ⟨x', y'⟩ := b
        simp only at h1 h2
        subst h1 h2; rfl
      rw [e]
      refine hend _ _ hk.s fun t ht => ?_
      obtain ⟨i, o, ho, hd⟩ := mem_dsts.1 ht
      exact hk.known i o t ho hd (all i o ho)
    intro fuel
    induction fuel with
    | zero =>
      intro listed a w hls hc hk
      have hr : Region.ready .any ops listed = [] := by
        cases hr : Region.ready .any ops listed with
        | nil => rfl
        | cons i r =>
          have hi : i ∈ Region.ready .any ops listed := by rw [hr]; exact List.mem_cons_self
          obtain ⟨hl, o, ho, _⟩ := mem_ready.1 hi
          have : 0 < (List.range ops.size).countP (fun i => !listed.getD i true) :=
            List.countP_pos_iff.2 ⟨i, List.mem_range.2 (Array.getElem?_eq_some_iff.1 ho).1, by rw [hl]; rfl⟩
          omega
      exact ⟨hr, fin listed a w hls hk hr⟩
    | succ fuel ih =>
      intro listed a w hls hc hk
      refine ⟨fin listed a w hls hk, fun i hi => ?_⟩
      obtain ⟨hl, o, ho, hall⟩ := mem_ready.1 hi
      have hi' : i < ops.size := (Array.getElem?_eq_some_iff.1 ho).1
      obtain ⟨hg, hlt', hD⟩ := hops i o ho
      have hdo := EachOp.get hop i o (by simpa using ho)
      rw [Nat.zero_add] at hdo
      have hd := hdo a w hk.s (fun t ht => by
          have hn : t ∉ dsts ops := by
            intro hm; rw [List.contains_iff_mem.2 hm] at ht; cases ht
          have := hk.old t hn
          simp only [Act.eval, Array.getD_eq_getD_getElem?, this])
        (fun t ht => by
          obtain ⟨e, he, hb, oj, hoj, hdj⟩ := hD t ht
          exact hk.known e.on oj t hoj hdj (hall e he hb))
      unfold wpOp
      simp only [ho]
      rw [if_pos (by unfold Region.wanted; rw [hg])]
      refine .inl (hd.wp fun v w' ⟨hV, hS', hR⟩ => ih _ _ _ (by simpa using hls) ?_ ?_)
      · have hb : (List.range ops.size).countP (fun j => !(listed.setIfInBounds i true).getD j true) < (List.range ops.size).countP (fun j => !listed.getD j true) := by
          have hsub : ∀ (l : List Nat), l.countP (fun j => !(listed.setIfInBounds i true).getD j true) + (if i ∈ l then 1 else 0) ≤ l.countP (fun j => !listed.getD j true) := by
            intro l
            induction l with
            | nil => simp
            | cons x r ihl =>
              rw [List.countP_cons, List.countP_cons]
              by_cases hx : i = x
              · subst hx
                rw [if_pos List.mem_cons_self]
                have e1 : (listed.setIfInBounds i true).getD i true = true := by
                  simp [show i < listed.size by omega]
                rw [e1, hl]
                have : r.countP (fun j => !(listed.setIfInBounds i true).getD j true) ≤ r.countP (fun j => !listed.getD j true) := by
                  split at ihl <;> omega
                exact Nat.succ_le_succ this
              · rw [getD_set_ne true hx]
                have : (i ∈ x :: r) ↔ i ∈ r := by simp [hx]
                simp only [this]
                omega
          have := hsub (List.range ops.size)
          rw [if_pos (List.mem_range.2 hi')] at this
          omega
        omega
      · refine ⟨?_, ?_, ?_, ?_, hS'⟩
        · rw [← hk.size]; cases o.dst <;> simp [Act.put]
        · rw [← hk.defers]; cases o.dst <;> rfl
        · intro t ht
          rw [← hk.old t ht]
          cases hd' : o.dst with
          | none => rfl
          | some d =>
            have hne : d ≠ t := fun e => ht (mem_dsts.2 ⟨i, o, ho, by rw [hd', e]⟩)
            simp [Act.put, Array.getElem?_setIfInBounds_ne hne]
        · intro j oj t hoj hdj hlj
          by_cases hij : i = j
          · subst hij
            obtain rfl : oj = o := by rw [ho] at hoj; exact (Option.some.inj hoj).symm
            have hts : t < a.tmps.size := by rw [hk.size]; exact hlt t (mem_dsts.2 ⟨i, oj, ho, hdj⟩)
            have := hV t hdj
            simpa [hdj, Act.put, Act.eval, Array.getElem?_setIfInBounds, hts] using this
          · rw [getD_set_ne false hij] at hlj
            have hold := hst t _ _ _ hk.s hR (hk.known j oj t hoj hdj hlj)
            have he : (a.put o.dst v).eval (.tmp t) = a.eval (.tmp t) := by
              refine Act.eval_put fun d hd' => ?_
              intro e
              injection e with e
              subst e
              exact hij (nodup_filterMap_get hnd i j o oj t (by simpa using ho) (by simpa using hoj) hd' hdj)
            rw [he]; exact hold
  refine main _ _ _ _ (by simp) ?_ ⟨rfl, rfl, fun _ _ => rfl, fun i o t ho hd hl => ?_, hS⟩
  · exact Nat.le_trans List.countP_le_length (by simp)
  · exfalso
    by_cases h : i < ops.size
    · simp [h] at hl
    · simp [h] at hl
end
end Go.Proofs.YtllpmepmgnnoaaaGreat
