/- A region that draws its order, by what each operation leaves: no program in it. -/
import Derived.Test.YtiabbkjmgaemaaaGreatDB0
import Derived.Orders
import Derived.WalkKit
import Derived.Below
import Derived.Lib.Hide
namespace Go.Proofs.YtiabbkjmgaemaaaGreat
set_option linter.unusedVariables false

/-- What one operation does from a state: it yields a value, or its callee returns one. -/
def Does (P : Program) (o : Oper) (a : Act) (w : World) (F : Value → World → Prop) : Prop :=
  (∃ v w', (execOp a.eval o).run P w = .ok (.value v) w' ∧ F v w') ∨
  (∃ f args w', (execOp a.eval o).run P w = .ok (.enter f args) w' ∧ Calls P f args w' fun e w'' => ∃ v, e = .returned v ∧ F v w'')
theorem Does.wp {P : Program} {o : Oper} {a : Act} {w : World} {F : Value → World → Prop} (h : Does P o a w F) {K : Act → World → Prop} {Q : Exit → Act → World → Prop} (hk : ∀ v w', F v w' → K (a.put o.dst v) w') : o.wp P a w K Q := by
  unfold Oper.wp
  rcases h with ⟨v, w', e, hF⟩ | ⟨f, args, w', e, hc⟩
  · rw [e]; exact hk _ _ hF
  · rw [e]
    refine Calls.mono hc fun e w'' he => ?_
    obtain ⟨v, rfl, hF⟩ := he
    exact hk _ _ hF
theorem Does.mono {P : Program} {o : Oper} {a : Act} {w : World} {F G : Value → World → Prop} (h : Does P o a w F) (hm : ∀ v w', F v w' → G v w') : Does P o a w G := by
  rcases h with ⟨v, w', e, hF⟩ | ⟨f, args, w', e, hc⟩
  · exact .inl ⟨v, w', e, hm _ _ hF⟩
  · refine .inr ⟨f, args, w', e, hc.mono fun e w'' he => ?_⟩
    obtain ⟨v, rfl, hF⟩ := he
    exact ⟨v, rfl, hm _ _ hF⟩
theorem Does.value {P : Program} {o : Oper} {a : Act} {w w' : World} {F : Value → World → Prop} (v : Value) (e : (execOp a.eval o).run P w = .ok (.value v) w') (h : F v w') : Does P o a w F := .inl ⟨v, w', e, h⟩
theorem Does.call {P : Program} {o : Oper} {a : Act} {w w' : World} {F : Value → World → Prop} (f : FuncId) (args : Array Value) (e : (execOp a.eval o).run P w = .ok (.enter f args) w') (h : Calls P f args w' fun e w'' => ∃ v, e = .returned v ∧ F v w'') : Does P o a w F := .inr ⟨f, args, w', e, h⟩

/-- The slots that a region writes. -/
def dsts (ops : Array Oper) : List Nat := ops.toList.filterMap (·.dst)
def putAll (f : Nat → Value) : List Nat → Act → Act
  | [], a => a
  | t :: r, a => putAll f r (a.put (some t) (f t))
/-- What is checked of a region, by program: no guards, each operation waits for earlier ones only, each slot is written once, and D's slots are waited for. -/
def okRegion (ops : Array Oper) (size : Nat) (D : Nat → List Nat) : Bool :=
  decide (dsts ops).Nodup && (dsts ops).all (· < size) && (List.range ops.size).all fun i => match ops[i]? with
    | none => true
    | some o => o.guard.isNone && o.after.toList.all (fun e => decide (e.on < i)) && (D i).all fun t => o.after.toList.any fun e => Region.binds .any e && ((ops[e.on]?).bind (·.dst)) == some t
def EachOp (F : Nat → Oper → Prop) : Nat → List Oper → Prop
  | _, [] => True
  | n, o :: r => F n o ∧ EachOp F (n + 1) r
theorem EachOp.get {F : Nat → Oper → Prop} : ∀ {l : List Oper} {n : Nat}, EachOp F n l → ∀ (i : Nat) (o : Oper), l[i]? = some o → F (n + i) o
  | [], _, _, i, o, h => by simp at h
  | x :: r, n, h, 0, o, ho => by simp at ho; subst ho; exact h.1
  | x :: r, n, h, i + 1, o, ho => by
    have := EachOp.get h.2 i o (by simpa using ho)
    rwa [show n + 1 + i = n + (i + 1) by omega] at this

section
variable {P : Program} {ops : Array Oper} {Q : Exit → Act → World → Prop}

theorem okRegion.parts {size : Nat} {D : Nat → List Nat} (h : okRegion ops size D = true) :
    (dsts ops).Nodup ∧ (∀ t ∈ dsts ops, t < size) ∧ ∀ (i : Nat) (o : Oper), ops[i]? = some o → o.guard = none ∧ (∀ e ∈ o.after, e.on < i) ∧ ∀ t ∈ D i, ∃ e ∈ o.after, Region.binds .any e = true ∧ ∃ oj : Oper, ops[e.on]? = some oj ∧ oj.dst = some t := by
  unfold okRegion at h
  simp only [Bool.and_eq_true, decide_eq_true_eq, List.all_eq_true, List.mem_range] at h
  obtain ⟨⟨h1, h2⟩, h3⟩ := h
  refine ⟨h1, fun t ht => h2 t ht, fun i o ho => ?_⟩
  have := h3 i (Array.getElem?_eq_some_iff.1 ho).1
  rw [ho] at this
  simp only [Bool.and_eq_true, Option.isNone_iff_eq_none, List.all_eq_true, decide_eq_true_eq] at this
  obtain ⟨⟨g, ha⟩, hd⟩ := this
  refine ⟨g, fun e he => ha e (by simpa using he), fun t ht => ?_⟩
  obtain ⟨e, he, hb⟩ := List.any_eq_true.1 (hd t ht)
  simp only [Bool.and_eq_true, beq_iff_eq] at hb
  refine ⟨e, by simpa using he, hb.1, ?_⟩
  cases hj : ops[e.on]? with
  | none => rw [hj] at hb; simp at hb
  | some oj => rw [hj] at hb; exact ⟨oj, rfl, by simpa using hb.2⟩
theorem mem_dsts {t : Nat} : t ∈ dsts ops ↔ ∃ (i : Nat) (o : Oper), ops[i]? = some o ∧ o.dst = some t := by
  unfold dsts
  rw [List.mem_filterMap]
  constructor
  · rintro ⟨o, ho, hd⟩
    obtain ⟨i, hi⟩ := List.getElem?_of_mem ho
    exact ⟨i, o, by simpa using hi, hd⟩
  · rintro ⟨i, o, ho, hd⟩
    exact ⟨o, by simpa using Array.mem_of_getElem? ho, hd⟩
theorem nodup_filterMap_get {l : List Oper} (h : (l.filterMap (·.dst)).Nodup) : ∀ (i j : Nat) (oi oj : Oper) (t : Nat), l[i]? = some oi → l[j]? = some oj → oi.dst = some t → oj.dst = some t → i = j := by
  induction l with
  | nil => intro i j oi oj t hi; simp at hi
  | cons x r ih =>
    have key : ∀ t, x.dst = some t → ∀ (k : Nat) (o : Oper), r[k]? = some o → o.dst = some t → False := by
      intro t hx k o ho hd
      rw [List.filterMap_cons_some hx, List.nodup_cons] at h
      exact h.1 (List.mem_filterMap.2 ⟨o, List.mem_of_getElem? ho, hd⟩)
    have hr : (r.filterMap (·.dst)).Nodup := by
      cases hx : x.dst with
      | none => rwa [List.filterMap_cons_none hx] at h
      | some t => rw [List.filterMap_cons_some hx, List.nodup_cons] at h; exact h.2
    intro i j oi oj t hi hj di dj
    cases i with
    | zero =>
      simp at hi; subst hi
      cases j with
      | zero => rfl
      | succ j => exact (key t di j oj (by simpa using hj) dj).elim
    | succ i =>
      cases j with
      | zero => simp at hj; subst hj; exact (key t dj i oi (by simpa using hi) di).elim
      | succ j => rw [ih hr i j oi oj t (by simpa using hi) (by simpa using hj) di dj]

theorem putAll_defers (f : Nat → Value) : ∀ (l : List Nat) (a : Act), (putAll f l a).defers = a.defers
  | [], _ => rfl
  | t :: r, a => (putAll_defers f r _).trans rfl
theorem putAll_size (f : Nat → Value) : ∀ (l : List Nat) (a : Act), (putAll f l a).tmps.size = a.tmps.size
  | [], _ => rfl
  | t :: r, a => (putAll_size f r _).trans (by simp [Act.put])
theorem putAll_get (f : Nat → Value) : ∀ (l : List Nat) (a : Act) (t : Nat), (putAll f l a).tmps[t]? = if t ∈ l ∧ t < a.tmps.size then some (f t) else a.tmps[t]?
  | [], a, t => by simp [putAll]
  | x :: r, a, t => by
    rw [putAll, putAll_get f r _ t]
    have hs : (a.put (some x) (f x)).tmps.size = a.tmps.size := by simp [Act.put]
    rw [hs]
    by_cases ht : t < a.tmps.size
    · by_cases hr : t ∈ r
      · rw [if_pos ⟨hr, ht⟩, if_pos ⟨List.mem_cons_of_mem _ hr, ht⟩]
      · rw [if_neg (fun h => hr h.1)]
        by_cases hx : t = x
        · subst hx
          rw [if_pos ⟨List.mem_cons_self, ht⟩]
          simp [Act.put, ht]
        · rw [if_neg (fun h => by rcases List.mem_cons.1 h.1 with e | e; exact hx e; exact hr e)]
          simp [Act.put, Array.getElem?_setIfInBounds_ne (fun e => hx e.symm)]
    · rw [if_neg (fun h => ht h.2), if_neg (fun h => ht h.2)]
      rw [Array.getElem?_eq_none (by rw [hs]; omega), Array.getElem?_eq_none (by omega)]

/-- What is known of a state in which the operations 'listed' have come up. -/
structure Known (ops : Array Oper) (V : Nat → Value → World → Prop) (S : World → Prop) (a0 : Act) (listed : Array Bool) (a : Act) (w : World) : Prop where
  size : a.tmps.size = a0.tmps.size
  defers : a.defers = a0.defers
  old : ∀ t, t ∉ dsts ops → a.tmps[t]? = a0.tmps[t]?
  known : ∀ (i : Nat) (o : Oper) (t : Nat), ops[i]? = some o → o.dst = some t → listed.getD i false = true → V t (a.eval (.tmp t)) w
  s : S w

/-- **A region that draws its order, by what each operation leaves.** V: what is known of a slot that has been written; S: what holds throughout; R: how the world may turn; D: for each operation the slots that it looks at. -/
theorem wp_region_each {id : Nat} {a0 : Act} {w0 : World} (V : Nat → Value → World → Prop) (S : World → Prop) (R : World → World → Prop) (D : Nat → List Nat) (L : List Nat) (hL : dsts ops = L)
    (hm : P.follows .mixedOrders = true) (hok : okRegion ops a0.tmps.size D = true) (hS : S w0.drew)
    (hst : ∀ t v w w', S w → R w w' → V t v w → V t v w')
    (hop : EachOp (fun i o => ∀ a w, S w → (∀ t, (dsts ops).contains t = false → a.eval (.tmp t) = a0.eval (.tmp t)) → (∀ t ∈ D i, V t (a.eval (.tmp t)) w) →
      Does P o a w fun v w' => (∀ t, o.dst = some t → V t v w') ∧ S w' ∧ R w w') 0 ops.toList)
    (hend : ∀ f w, S w → (∀ t ∈ L, V t (f t) w) → Q .normal (putAll f L a0) w) : (Code.region id ops true).wp P Q a0 w0 := by
  subst hL
  obtain ⟨hnd, hlt, hops⟩ := okRegion.parts hok
  refine wp_region_any hm ?_
  have main : ∀ (fuel : Nat) (listed : Array Bool) (a : Act) (w : World), listed.size = ops.size → (List.range ops.size).countP (fun i => !listed.getD i true) ≤ fuel → Known ops V S a0 listed a w → wpAny P .any ops Q fuel listed a w := by
    have fin : ∀ (listed : Array Bool) (a : Act) (w : World), listed.size = ops.size → Known ops V S a0 listed a w → Region.ready .any ops listed = [] → Q .normal a w := by
      intro listed a w hls hk hr
      have all : ∀ (i : Nat) (o : Oper), ops[i]? = some o → listed.getD i false = true := by
        intro i
        induction i using Nat.strongRecOn with
        | _ i ih =>
          intro o ho
          have hi : i < ops.size := (Array.getElem?_eq_some_iff.1 ho).1
          cases hl : listed.getD i false with
          | true => rfl
          | false =>
            have hmem : i ∈ Region.ready .any ops listed := by
              rw [mem_ready]
              refine ⟨?_, o, ho, fun e he _ => ?_⟩
              · have hi' : i < listed.size := by omega
                simp [hi'] at hl ⊢; exact hl
              · have hlt' := (hops i o ho).2.1 e he
                exact ih e.on hlt' ops[e.on] (Array.getElem?_eq_getElem (by omega))
            rw [hr] at hmem; cases hmem
      have e : a = putAll (fun t => a.eval (.tmp t)) (dsts ops) a0 := by
        have h1 : a.tmps = (putAll (fun t => a.eval (.tmp t)) (dsts ops) a0).tmps := by
          apply Array.ext_getElem?
          intro t
          rw [putAll_get]
          by_cases ht : t ∈ dsts ops
          · have hts := hlt t ht
            rw [if_pos ⟨ht, hts⟩]
            have : t < a.tmps.size := by rw [hk.size]; exact hts
            simp [Act.eval, this]
          · rw [if_neg (fun h => ht h.1)]; exact hk.old t ht
        have h2 : a.defers = (putAll (fun t => a.eval (.tmp t)) (dsts ops) a0).defers := by rw [putAll_defers]; exact hk.defers
        generalize putAll (fun t => a.eval (.tmp t)) (dsts ops) a0 = b at *
        obtain ⟨x, y⟩ := a
        obtain ⟨x', y'⟩ := b
        simp only at h1 h2
        subst h1 h2; rfl
      rw [e]
      refine hend _ _ hk.s fun t ht => ?_
      obtain ⟨i, o, ho, hd⟩ := mem_dsts.1 ht
      exact hk.known i o t ho hd (all i o ho)
    intro fuel
    induction fuel with
    | zero =>
      intro listed a w hls hc hk
      have hr : Region.ready .any ops listed = [] := by
        cases hr : Region.ready .any ops listed with
        | nil => rfl
        | cons i r =>
          have hi : i ∈ Region.ready .any ops listed := by rw [hr]; exact List.mem_cons_self
          obtain ⟨hl, o, ho, _⟩ := mem_ready.1 hi
          have : 0 < (List.range ops.size).countP (fun i => !listed.getD i true) :=
            List.countP_pos_iff.2 ⟨i, List.mem_range.2 (Array.getElem?_eq_some_iff.1 ho).1, by rw [hl]; rfl⟩
          omega
      exact ⟨hr, fin listed a w hls hk hr⟩
    | succ fuel ih =>
      intro listed a w hls hc hk
      refine ⟨fin listed a w hls hk, fun i hi => ?_⟩
      obtain ⟨hl, o, ho, hall⟩ := mem_ready.1 hi
      have hi' : i < ops.size := (Array.getElem?_eq_some_iff.1 ho).1
      obtain ⟨hg, hlt', hD⟩ := hops i o ho
      have hdo := EachOp.get hop i o (by simpa using ho)
      rw [Nat.zero_add] at hdo
      have hd := hdo a w hk.s (fun t ht => by
          have hn : t ∉ dsts ops := by
            intro hm; rw [List.contains_iff_mem.2 hm] at ht; cases ht
          have := hk.old t hn
          simp only [Act.eval, Array.getD_eq_getD_getElem?, this])
        (fun t ht => by
          obtain ⟨e, he, hb, oj, hoj, hdj⟩ := hD t ht
          exact hk.known e.on oj t hoj hdj (hall e he hb))
      unfold wpOp
      simp only [ho]
      rw [if_pos (by unfold Region.wanted; rw [hg])]
      refine .inl (hd.wp fun v w' ⟨hV, hS', hR⟩ => ih _ _ _ (by simpa using hls) ?_ ?_)
      · have hb : (List.range ops.size).countP (fun j => !(listed.setIfInBounds i true).getD j true) < (List.range ops.size).countP (fun j => !listed.getD j true) := by
          have hsub : ∀ (l : List Nat), l.countP (fun j => !(listed.setIfInBounds i true).getD j true) + (if i ∈ l then 1 else 0) ≤ l.countP (fun j => !listed.getD j true) := by
            intro l
            induction l with
            | nil => simp
            | cons x r ihl =>
              rw [List.countP_cons, List.countP_cons]
              by_cases hx : i = x
              · subst hx
                rw [if_pos List.mem_cons_self]
                have e1 : (listed.setIfInBounds i true).getD i true = true := by
                  simp [show i < listed.size by omega]
                rw [e1, hl]
                have : r.countP (fun j => !(listed.setIfInBounds i true).getD j true) ≤ r.countP (fun j => !listed.getD j true) := by
                  split at ihl <;> omega
                exact Nat.succ_le_succ this
              · rw [getD_set_ne true hx]
                have : (i ∈ x :: r) ↔ i ∈ r := by simp [hx]
                simp only [this]
                omega
          have := hsub (List.range ops.size)
          rw [if_pos (List.mem_range.2 hi')] at this
          omega
        omega
      · refine ⟨?_, ?_, ?_, ?_, hS'⟩
        · rw [← hk.size]; cases o.dst <;> simp [Act.put]
        · rw [← hk.defers]; cases o.dst <;> rfl
        · intro t ht
          rw [← hk.old t ht]
          cases hd' : o.dst with
          | none => rfl
          | some d =>
            have hne : d ≠ t := fun e => ht (mem_dsts.2 ⟨i, o, ho, by rw [hd', e]⟩)
            simp [Act.put, Array.getElem?_setIfInBounds_ne hne]
        · intro j oj t hoj hdj hlj
          by_cases hij : i = j
          · subst hij
            obtain rfl : oj = o := by rw [ho] at hoj; exact (Option.some.inj hoj).symm
            have hts : t < a.tmps.size := by rw [hk.size]; exact hlt t (mem_dsts.2 ⟨i, oj, ho, hdj⟩)
            have := hV t hdj
            simpa [hdj, Act.put, Act.eval, Array.getElem?_setIfInBounds, hts] using this
          · rw [getD_set_ne false hij] at hlj
            have hold := hst t _ _ _ hk.s hR (hk.known j oj t hoj hdj hlj)
            have he : (a.put o.dst v).eval (.tmp t) = a.eval (.tmp t) := by
              refine Act.eval_put fun d hd' => ?_
              intro e
              injection e with e
              subst e
              exact hij (nodup_filterMap_get hnd i j o oj t (by simpa using ho) (by simpa using hoj) hd' hdj)
            rw [he]; exact hold
  refine main _ _ _ _ (by simp) ?_ ⟨rfl, rfl, fun _ _ => rfl, fun i o t ho hd hl => ?_, hS⟩
  · exact Nat.le_trans List.countP_le_length (by simp)
  · exfalso
    by_cases h : i < ops.size
    · simp [h] at hl
    · simp [h] at hl
end
end Go.Proofs.YtiabbkjmgaemaaaGreat
/- A region that draws its order, by what each operation leaves, of which others may be told: no program in it. -/
namespace Go.Proofs.YtiabbkjmgaemaaaGreat
set_option linter.unusedVariables false

/-- Does operation o wait for number j? -/
def waits (o : Oper) (j : Nat) : Bool := o.after.toList.any fun e => Region.binds .any e && e.on == j
/-- What lies in the slot of operation j. -/
def valAt (ops : Array Oper) (g : Nat → Value) (j : Nat) : Value := match (ops[j]?).bind (·.dst) with | some t => g t | none => undef
def okRegion2 (ops : Array Oper) (size : Nat) (D : Nat → List Nat) : Bool :=
  decide (dsts ops).Nodup && (dsts ops).all (· < size) && (List.range ops.size).all fun i => match ops[i]? with
    | none => true
    | some o => o.guard.isNone && o.after.toList.all (fun e => decide (e.on < i)) && (D i).all fun j => waits o j

/-- What one operation does from a state: it yields a value, or nothing; or its callee returns a value. -/
def Does2 (P : Program) (o : Oper) (a : Act) (w : World) (F : Value → World → Prop) : Prop :=
  Does P o a w F ∨ ∃ w', (execOp a.eval o).run P w = .ok .skip w' ∧ F undef w'
theorem Does2.wp {P : Program} {o : Oper} {a : Act} {w : World} {F : Value → World → Prop} (h : Does2 P o a w F) {K : Act → World → Prop} {Q : Exit → Act → World → Prop} (hk : ∀ v w', F v w' → K (a.put o.dst v) w') : o.wp P a w K Q := by
  rcases h with h | ⟨w', e, hF⟩
  · exact h.wp hk
  · unfold Oper.wp
    rw [e]; exact hk _ _ hF
theorem Does2.value {P : Program} {o : Oper} {a : Act} {w w' : World} {F : Value → World → Prop} (v : Value) (e : (execOp a.eval o).run P w = .ok (.value v) w') (h : F v w') : Does2 P o a w F := .inl (Does.value v e h)
theorem Does2.call {P : Program} {o : Oper} {a : Act} {w w' : World} {F : Value → World → Prop} (f : FuncId) (args : Array Value) (e : (execOp a.eval o).run P w = .ok (.enter f args) w') (h : Calls P f args w' fun e w'' => ∃ v, e = .returned v ∧ F v w'') : Does2 P o a w F := .inl (Does.call f args e h)
theorem Does2.skip {P : Program} {o : Oper} {a : Act} {w w' : World} {F : Value → World → Prop} (e : (execOp a.eval o).run P w = .ok .skip w') (h : F undef w') : Does2 P o a w F := .inr ⟨w', e, h⟩

section
variable {P : Program} {ops : Array Oper} {Q : Exit → Act → World → Prop}
theorem okRegion2.parts {size : Nat} {D : Nat → List Nat} (h : okRegion2 ops size D = true) :
    (dsts ops).Nodup ∧ (∀ t ∈ dsts ops, t < size) ∧ ∀ (i : Nat) (o : Oper), ops[i]? = some o → o.guard = none ∧ (∀ e ∈ o.after, e.on < i) ∧ ∀ j ∈ D i, ∃ e ∈ o.after, Region.binds .any e = true ∧ e.on = j := by
  unfold okRegion2 at h
  simp only [Bool.and_eq_true, decide_eq_true_eq, List.all_eq_true, List.mem_range] at h
  obtain ⟨⟨h1, h2⟩, h3⟩ := h
  refine ⟨h1, fun t ht => h2 t ht, fun i o ho => ?_⟩
  have := h3 i (Array.getElem?_eq_some_iff.1 ho).1
  rw [ho] at this
  simp only [Bool.and_eq_true, Option.isNone_iff_eq_none, List.all_eq_true, decide_eq_true_eq] at this
  obtain ⟨⟨g, ha⟩, hd⟩ := this
  refine ⟨g, fun e he => ha e (by simpa using he), fun t ht => ?_⟩
  obtain ⟨e, he, hb⟩ := List.any_eq_true.1 (hd t ht)
  simp only [Bool.and_eq_true, beq_iff_eq] at hb
  exact ⟨e, by simpa using he, hb.1, hb.2⟩
theorem not_waits {o : Oper} {j : Nat} (h : waits o j = false) : ∀ e ∈ o.after, Region.binds .any e = true → e.on ≠ j := by
  intro e he hb ej
  unfold waits at h
  rw [List.any_eq_false] at h
  have := h e (by simpa using he)
  simp [hb, ej] at this

/-- What is known of a state in which the operations 'listed' have come up. -/
structure Known2 (ops : Array Oper) (V : Nat → Value → List Value → World → Prop) (S : World → Prop) (D : Nat → List Nat) (a0 : Act) (listed : Array Bool) (a : Act) (w : World) : Prop where
  size : a.tmps.size = a0.tmps.size
  defers : a.defers = a0.defers
  old : ∀ t, t ∉ dsts ops → a.tmps[t]? = a0.tmps[t]?
  waited : ∀ (i : Nat) (o : Oper), ops[i]? = some o → listed.getD i false = true → ∀ e ∈ o.after, Region.binds .any e = true → listed.getD e.on false = true
  known : ∀ (i : Nat) (o : Oper), ops[i]? = some o → listed.getD i false = true → V i (valAt ops (fun t => a.eval (.tmp t)) i) ((D i).map (valAt ops (fun t => a.eval (.tmp t)))) w
  s : S w

/-- **A region that draws its order, by what each operation leaves.** V i v us: what is known behind operation i, of what lies in its slot and in the slots of those that it waits for (D i); S: what holds throughout; R j: how operation j may turn the world. -/
theorem wp_region_each2 {id : Nat} {a0 : Act} {w0 : World} (V : Nat → Value → List Value → World → Prop) (S : World → Prop) (R : Nat → World → World → Prop) (D : Nat → List Nat) (L : List Nat) (hL : dsts ops = L)
    (hm : P.follows .mixedOrders = true) (hok : okRegion2 ops a0.tmps.size D = true) (hS : S w0.drew)
    (hst : ∀ (i j : Nat) (oi oj : Oper) v us w w', ops[i]? = some oi → ops[j]? = some oj → i ≠ j → waits oi j = false → S w → R j w w' → V i v us w → V i v us w')
    (hop : EachOp (fun i o => ∀ a w, S w → (∀ t, (dsts ops).contains t = false → a.eval (.tmp t) = a0.eval (.tmp t)) →
      (∀ j ∈ D i, V j (valAt ops (fun t => a.eval (.tmp t)) j) ((D j).map (valAt ops (fun t => a.eval (.tmp t)))) w) →
      Does2 P o a w fun v w' => V i (if o.dst.isSome then v else undef) ((D i).map (valAt ops (fun t => a.eval (.tmp t)))) w' ∧ S w' ∧ R i w w') 0 ops.toList)
    (hend : ∀ f w, S w → (∀ i, i < ops.size → V i (valAt ops f i) ((D i).map (valAt ops f)) w) → Q .normal (putAll f L a0) w) : (Code.region id ops true).wp P Q a0 w0 := by
  subst hL
  obtain ⟨hnd, hlt, hops⟩ := okRegion2.parts hok
  refine wp_region_any hm ?_
  have main : ∀ (fuel : Nat) (listed : Array Bool) (a : Act) (w : World), listed.size = ops.size → (List.range ops.size).countP (fun i => !listed.getD i true) ≤ fuel → Known2 ops V S D a0 listed a w → wpAny P .any ops Q fuel listed a w := by
    have fin : ∀ (listed : Array Bool) (a : Act) (w : World), listed.size = ops.size → Known2 ops V S D a0 listed a w → Region.ready .any ops listed = [] → Q .normal a w := by
      intro listed a w hls hk hr
      have all : ∀ (i : Nat) (o : Oper), ops[i]? = some o → listed.getD i false = true := by
        intro i
        induction i using Nat.strongRecOn with
        | _ i ih =>
          intro o ho
          have hi : i < ops.size := (Array.getElem?_eq_some_iff.1 ho).1
          cases hl : listed.getD i false with
          | true => rfl
          | false =>
            have hmem : i ∈ Region.ready .any ops listed := by
              rw [mem_ready]
              refine ⟨?_, o, ho, fun e he _ => ?_⟩
              · have hi' : i < listed.size := by omega
                simp [hi'] at hl ⊢; exact hl
              · have hlt' := (hops i o ho).2.1 e he
                exact ih e.on hlt' ops[e.on] (Array.getElem?_eq_getElem (by omega))
            rw [hr] at hmem; cases hmem
      have e : a = putAll (fun t => a.eval (.tmp t)) (dsts ops) a0 := by
        have h1 : a.tmps = (putAll (fun t => a.eval (.tmp t)) (dsts ops) a0).tmps := by
          apply Array.ext_getElem?
          intro t
          rw [putAll_get]
          by_cases ht : t ∈ dsts ops
          · have hts := hlt t ht
            rw [if_pos ⟨ht, hts⟩]
            have : t < a.tmps.size := by rw [hk.size]; exact hts
            simp [Act.eval, this]
          · rw [if_neg (fun h => ht h.1)]; exact hk.old t ht
        have h2 : a.defers = (putAll (fun t => a.eval (.tmp t)) (dsts ops) a0).defers := by rw [putAll_defers]; exact hk.defers
        generalize putAll (fun t => a.eval (.tmp t)) (dsts ops) a0 = b at *
        obtain ⟨x, y⟩ := a
        obtain ⟨x', y'⟩ := b
        simp only at h1 h2
        subst h1 h2; rfl
      rw [e]
      refine hend _ _ hk.s fun i hi => ?_
      exact hk.known i ops[i] (Array.getElem?_eq_getElem hi) (all i ops[i] (Array.getElem?_eq_getElem hi))
    intro fuel
    induction fuel with
    | zero =>
      intro listed a w hls hc hk
      have hr : Region.ready .any ops listed = [] := by
        cases hr : Region.ready .any ops listed with
        | nil => rfl
        | cons i r =>
          have hi : i ∈ Region.ready .any ops listed := by rw [hr]; exact List.mem_cons_self
          obtain ⟨hl, o, ho, _⟩ := mem_ready.1 hi
          have : 0 < (List.range ops.size).countP (fun i => !listed.getD i true) :=
            List.countP_pos_iff.2 ⟨i, List.mem_range.2 (Array.getElem?_eq_some_iff.1 ho).1, by rw [hl]; rfl⟩
          omega
      exact ⟨hr, fin listed a w hls hk hr⟩
    | succ fuel ih =>
      intro listed a w hls hc hk
      refine ⟨fin listed a w hls hk, fun i hi => ?_⟩
      obtain ⟨hl, o, ho, hall⟩ := mem_ready.1 hi
      have hi' : i < ops.size := (Array.getElem?_eq_some_iff.1 ho).1
      obtain ⟨hg, hlt', hD⟩ := hops i o ho
      have hdo := EachOp.get hop i o (by simpa using ho)
      rw [Nat.zero_add] at hdo
      have hd := hdo a w hk.s (fun t ht => by
          have hn : t ∉ dsts ops := by
            intro hm; rw [List.contains_iff_mem.2 hm] at ht; cases ht
          have := hk.old t hn
          simp only [Act.eval, Array.getD_eq_getD_getElem?, this])
        (fun j hj => by
          obtain ⟨e, he, hb, rfl⟩ := hD j hj
          have hlt := hlt' e he
          exact hk.known e.on ops[e.on] (Array.getElem?_eq_getElem (by omega)) (hall e he hb))
      unfold wpOp
      simp only [ho]
      rw [if_pos (by unfold Region.wanted; rw [hg])]
      refine .inl (Does2.wp hd fun v w' ⟨hV, hS', hR⟩ => ih _ _ _ (by simpa using hls) ?_ ?_)
      · have hb : (List.range ops.size).countP (fun j => !(listed.setIfInBounds i true).getD j true) < (List.range ops.size).countP (fun j => !listed.getD j true) := by
          have hsub : ∀ (l : List Nat), l.countP (fun j => !(listed.setIfInBounds i true).getD j true) + (if i ∈ l then 1 else 0) ≤ l.countP (fun j => !listed.getD j true) := by
            intro l
            induction l with
            | nil => simp
            | cons x r ihl =>
              rw [List.countP_cons, List.countP_cons]
              by_cases hx : i = x
              · subst hx
                rw [if_pos List.mem_cons_self]
                have e1 : (listed.setIfInBounds i true).getD i true = true := by
                  simp [show i < listed.size by omega]
                rw [e1, hl]
                have : r.countP (fun j => !(listed.setIfInBounds i true).getD j true) ≤ r.countP (fun j => !listed.getD j true) := by
                  split at ihl <;> omega
                exact Nat.succ_le_succ this
              · rw [getD_set_ne true hx]
                have : (i ∈ x :: r) ↔ i ∈ r := by simp [hx]
                simp only [this]
                omega
          have := hsub (List.range ops.size)
          rw [if_pos (List.mem_range.2 hi')] at this
          omega
        omega
      · -- a slot that isn't written now is as it was
        have hval : ∀ j, j ≠ i → valAt ops (fun t => (a.put o.dst v).eval (.tmp t)) j = valAt ops (fun t => a.eval (.tmp t)) j := by
          intro j hji
          unfold valAt
          cases hj : (ops[j]?).bind (·.dst) with
          | none => rfl
          | some t =>
            refine Act.eval_put fun d hd' => ?_
            intro e
            injection e with e
            subst e
            cases hoj : ops[j]? with
            | none => rw [hoj] at hj; cases hj
            | some oj =>
              rw [hoj] at hj
              exact hji (nodup_filterMap_get hnd j i oj o _ (by simpa using hoj) (by simpa using ho) hj hd')
        have hDne : ∀ k j, ∀ ok : Oper, ops[k]? = some ok → j ∈ D k → j < k := by
          intro k j ok hok hj
          obtain ⟨e, he, _, rfl⟩ := (hops k ok hok).2.2 j hj
          exact (hops k ok hok).2.1 e he
        refine ⟨?_, ?_, ?_, ?_, ?_, hS'⟩
        · rw [← hk.size]; cases o.dst <;> simp [Act.put]
        · rw [← hk.defers]; cases o.dst <;> rfl
        · intro t ht
          rw [← hk.old t ht]
          cases hd' : o.dst with
          | none => rfl
          | some d =>
            have hne : d ≠ t := fun e => ht (mem_dsts.2 ⟨i, o, ho, by rw [hd', e]⟩)
            simp [Act.put, Array.getElem?_setIfInBounds_ne hne]
        · intro j oj hoj hlj e he hb
          by_cases hij : i = j
          · subst hij
            obtain rfl : oj = o := by rw [ho] at hoj; exact (Option.some.inj hoj).symm
            exact getD_set_true (hall e he hb)
          · rw [getD_set_ne false hij] at hlj
            exact getD_set_true (hk.waited j oj hoj hlj e he hb)
        · intro j oj hoj hlj
          by_cases hij : i = j
          · subst hij
            obtain rfl : oj = o := by rw [ho] at hoj; exact (Option.some.inj hoj).symm
            have e1 : (D i).map (valAt ops (fun t => (a.put oj.dst v).eval (.tmp t))) = (D i).map (valAt ops (fun t => a.eval (.tmp t))) :=
              List.map_congr_left fun k hk' => hval k (Nat.ne_of_lt (hDne i k oj ho hk'))
            rw [e1]
            have e2 : valAt ops (fun t => (a.put oj.dst v).eval (.tmp t)) i = if oj.dst.isSome then v else undef := by
              unfold valAt
              rw [ho]
              cases hd' : oj.dst with
              | none => simp [hd']
              | some t =>
                have hts : t < a.tmps.size := by rw [hk.size]; exact hlt t (mem_dsts.2 ⟨i, oj, ho, hd'⟩)
                simp [hd', Act.put, Act.eval, hts]
            rw [e2]; exact hV
          · rw [getD_set_ne false hij] at hlj
            have hkj := hk.known j oj hoj hlj
            have hnw : waits oj i = false := by
              cases hw : waits oj i with
              | false => rfl
              | true =>
                exfalso
                unfold waits at hw
                obtain ⟨e, he, hb⟩ := List.any_eq_true.1 hw
                simp only [Bool.and_eq_true, beq_iff_eq] at hb
                have h1 := hk.waited j oj hoj hlj e (by simpa using he) hb.1
                rw [hb.2] at h1
                have hi'' : i < listed.size := by omega
                simp [hi''] at hl h1
                rw [hl] at h1; cases h1
            have e1 : (D j).map (valAt ops (fun t => (a.put o.dst v).eval (.tmp t))) = (D j).map (valAt ops (fun t => a.eval (.tmp t))) :=
              List.map_congr_left fun k hk' => hval k (fun e => by
                subst e
                obtain ⟨e, he, hb, e2⟩ := (hops j oj hoj).2.2 _ hk'
                exact not_waits hnw e he hb e2)
            rw [e1, hval j (fun e => hij e.symm)]
            exact hst j i oj o _ _ _ _ hoj ho (fun e => hij e.symm) hnw hk.s hR hkj
  refine main _ _ _ _ (by simp) ?_ ⟨rfl, rfl, fun _ _ => rfl, fun i o ho hl => ?_, fun i o ho hl => ?_, hS⟩
  · exact Nat.le_trans List.countP_le_length (by simp)
  all_goals
    exfalso
    by_cases h : i < ops.size
    · simp [h] at hl
    · simp [h] at hl
end
end Go.Proofs.YtiabbkjmgaemaaaGreat
/- A region that draws its order and has guards that hold, by what each operation leaves: no program in it. -/
namespace Go.Proofs.YtiabbkjmgaemaaaGreat
set_option linter.unusedVariables false

def okRegion3 (ops : Array Oper) (size : Nat) (D : Nat → List Nat) : Bool :=
  decide (dsts ops).Nodup && (dsts ops).all (· < size) && (List.range ops.size).all fun i => match ops[i]? with
    | none => true
    | some o => (match o.guard with | none => true | some (g, _) => (D i).contains g) && o.after.toList.all (fun e => !(Region.binds .any e) || decide (e.on < i)) && (D i).all fun j => waits o j

section
variable {P : Program} {ops : Array Oper} {Q : Exit → Act → World → Prop}
theorem okRegion3.parts {size : Nat} {D : Nat → List Nat} (h : okRegion3 ops size D = true) :
    (dsts ops).Nodup ∧ (∀ t ∈ dsts ops, t < size) ∧ ∀ (i : Nat) (o : Oper), ops[i]? = some o → (∀ g b, o.guard = some (g, b) → g ∈ D i) ∧ (∀ e ∈ o.after, Region.binds .any e = true → e.on < i) ∧ ∀ j ∈ D i, ∃ e ∈ o.after, Region.binds .any e = true ∧ e.on = j := by
  unfold okRegion3 at h
  simp only [Bool.and_eq_true, decide_eq_true_eq, List.all_eq_true, List.mem_range] at h
  obtain ⟨⟨h1, h2⟩, h3⟩ := h
  refine ⟨h1, fun t ht => h2 t ht, fun i o ho => ?_⟩
  have := h3 i (Array.getElem?_eq_some_iff.1 ho).1
  rw [ho] at this
  simp only [Bool.and_eq_true, List.all_eq_true] at this
  obtain ⟨⟨g, ha⟩, hd⟩ := this
  refine ⟨fun g' b hg => by rw [hg] at g; simpa using g, fun e he hb => by have := ha e (by simpa using he); rw [hb] at this; simpa using this, fun t ht => ?_⟩
  obtain ⟨e, he, hb⟩ := List.any_eq_true.1 (hd t ht)
  simp only [Bool.and_eq_true, beq_iff_eq] at hb
  exact ⟨e, by simpa using he, hb.1, hb.2⟩
/-- **A region that draws its order, by what each operation leaves.** V i v us: what is known behind operation i, of what lies in its slot and in the slots of those that it waits for (D i); S: what holds throughout; R j: how operation j may turn the world. -/
theorem wp_region_each3 {id : Nat} {a0 : Act} {w0 : World} (V : Nat → Value → List Value → World → Prop) (S : World → Prop) (R : Nat → World → World → Prop) (D : Nat → List Nat) (L : List Nat) (hL : dsts ops = L)
    (hm : P.follows .mixedOrders = true) (hok : okRegion3 ops a0.tmps.size D = true) (hS : S w0.drew)
    (hst : ∀ (i j : Nat) (oi oj : Oper) v us w w', ops[i]? = some oi → ops[j]? = some oj → i ≠ j → waits oi j = false → S w → R j w w' → V i v us w → V i v us w')
    (hgd : ∀ (i : Nat) (o : Oper) g b, ops[i]? = some o → o.guard = some (g, b) → ∀ v us w, V g v us w → v = .bool b)
    (hop : EachOp (fun i o => ∀ a w, S w → (∀ t, (dsts ops).contains t = false → a.eval (.tmp t) = a0.eval (.tmp t)) →
      (∀ j ∈ D i, V j (valAt ops (fun t => a.eval (.tmp t)) j) ((D j).map (valAt ops (fun t => a.eval (.tmp t)))) w) →
      Does2 P o a w fun v w' => V i (if o.dst.isSome then v else undef) ((D i).map (valAt ops (fun t => a.eval (.tmp t)))) w' ∧ S w' ∧ R i w w') 0 ops.toList)
    (hend : ∀ f w, S w → (∀ i, i < ops.size → V i (valAt ops f i) ((D i).map (valAt ops f)) w) → Q .normal (putAll f L a0) w) : (Code.region id ops true).wp P Q a0 w0 := by
  subst hL
  obtain ⟨hnd, hlt, hops⟩ := okRegion3.parts hok
  refine wp_region_any hm ?_
  have main : ∀ (fuel : Nat) (listed : Array Bool) (a : Act) (w : World), listed.size = ops.size → (List.range ops.size).countP (fun i => !listed.getD i true) ≤ fuel → Known2 ops V S D a0 listed a w → wpAny P .any ops Q fuel listed a w := by
    have fin : ∀ (listed : Array Bool) (a : Act) (w : World), listed.size = ops.size → Known2 ops V S D a0 listed a w → Region.ready .any ops listed = [] → Q .normal a w := by
      intro listed a w hls hk hr
      have all : ∀ (i : Nat) (o : Oper), ops[i]? = some o → listed.getD i false = true := by
        intro i
        induction i using Nat.strongRecOn with
        | _ i ih =>
          intro o ho
          have hi : i < ops.size := (Array.getElem?_eq_some_iff.1 ho).1
          cases hl : listed.getD i false with
          | true => rfl
          | false =>
            have hmem : i ∈ Region.ready .any ops listed := by
              rw [mem_ready]
              refine ⟨?_, o, ho, fun e he hb => ?_⟩
              · have hi' : i < listed.size := by omega
                simp [hi'] at hl ⊢; exact hl
              · have hlt' := (hops i o ho).2.1 e he hb
                exact ih e.on hlt' ops[e.on] (Array.getElem?_eq_getElem (by omega))
            rw [hr] at hmem; cases hmem
      have e : a = putAll (fun t => a.eval (.tmp t)) (dsts ops) a0 := by
        have h1 : a.tmps = (putAll (fun t => a.eval (.tmp t)) (dsts ops) a0).tmps := by
          apply Array.ext_getElem?
          intro t
          rw [putAll_get]
          by_cases ht : t ∈ dsts ops
          · have hts := hlt t ht
            rw [if_pos ⟨ht, hts⟩]
            have : t < a.tmps.size := by rw [hk.size]; exact hts
            simp [Act.eval, this]
          · rw [if_neg (fun h => ht h.1)]; exact hk.old t ht
        have h2 : a.defers = (putAll (fun t => a.eval (.tmp t)) (dsts ops) a0).defers := by rw [putAll_defers]; exact hk.defers
        generalize putAll (fun t => a.eval (.tmp t)) (dsts ops) a0 = b at *
        obtain ⟨x, y⟩ := a
        obtain ⟨x', y'⟩ := b
        simp only at h1 h2
        subst h1 h2; rfl
      rw [e]
      refine hend _ _ hk.s fun i hi => ?_
      exact hk.known i ops[i] (Array.getElem?_eq_getElem hi) (all i ops[i] (Array.getElem?_eq_getElem hi))
    intro fuel
    induction fuel with
    | zero =>
      intro listed a w hls hc hk
      have hr : Region.ready .any ops listed = [] := by
        cases hr : Region.ready .any ops listed with
        | nil => rfl
        | cons i r =>
          have hi : i ∈ Region.ready .any ops listed := by rw [hr]; exact List.mem_cons_self
          obtain ⟨hl, o, ho, _⟩ := mem_ready.1 hi
          have : 0 < (List.range ops.size).countP (fun i => !listed.getD i true) :=
            List.countP_pos_iff.2 ⟨i, List.mem_range.2 (Array.getElem?_eq_some_iff.1 ho).1, by rw [hl]; rfl⟩
          omega
      exact ⟨hr, fin listed a w hls hk hr⟩
    | succ fuel ih =>
      intro listed a w hls hc hk
      refine ⟨fin listed a w hls hk, fun i hi => ?_⟩
      obtain ⟨hl, o, ho, hall⟩ := mem_ready.1 hi
      have hi' : i < ops.size := (Array.getElem?_eq_some_iff.1 ho).1
      obtain ⟨hg, hlt', hD⟩ := hops i o ho
      have hdo := EachOp.get hop i o (by simpa using ho)
      rw [Nat.zero_add] at hdo
      have hd := hdo a w hk.s (fun t ht => by
          have hn : t ∉ dsts ops := by
            intro hm; rw [List.contains_iff_mem.2 hm] at ht; cases ht
          have := hk.old t hn
          simp only [Act.eval, Array.getD_eq_getD_getElem?, this])
        (fun j hj => by
          obtain ⟨e, he, hb, rfl⟩ := hD j hj
          have hlt := hlt' e he hb
          exact hk.known e.on ops[e.on] (Array.getElem?_eq_getElem (by omega)) (hall e he hb))
      unfold wpOp
      simp only [ho]
      have hwant : Region.wanted o (yielded ops a.tmps) = true := by
        unfold Region.wanted
        cases hgo : o.guard with
        | none => rfl
        | some gb =>
          obtain ⟨g, b⟩ := gb
          obtain ⟨e, he, hb, heg⟩ := hD g (hg g b hgo)
          have hlt := hlt' e he hb
          rw [heg] at hlt
          have hv := hgd i o g b ho hgo _ _ _ (hk.known g ops[g] (Array.getElem?_eq_getElem (by omega)) (by rw [← heg]; exact hall e he hb))
          show (yielded ops a.tmps g == some b) = true
          have hy : yielded ops a.tmps g = some b := by
            unfold valAt at hv
            unfold yielded
            cases ht : (ops[g]?).bind (·.dst) with
            | none => rw [ht] at hv; cases hv
            | some t =>
              rw [ht] at hv
              have hv' : a.tmps.getD t undef = .bool b := hv
              cases hq : a.tmps[t]? with
              | none => rw [Array.getD_eq_getD_getElem?, hq] at hv'; cases hv'
              | some u => rw [Array.getD_eq_getD_getElem?, hq] at hv'; simp at hv'; subst hv'; simp [hq]
          rw [hy]; simp
      rw [if_pos hwant]
      refine .inl (Does2.wp hd fun v w' ⟨hV, hS', hR⟩ => ih _ _ _ (by simpa using hls) ?_ ?_)
      · have hb : (List.range ops.size).countP (fun j => !(listed.setIfInBounds i true).getD j true) < (List.range ops.size).countP (fun j => !listed.getD j true) := by
          have hsub : ∀ (l : List Nat), l.countP (fun j => !(listed.setIfInBounds i true).getD j true) + (if i ∈ l then 1 else 0) ≤ l.countP (fun j => !listed.getD j true) := by
            intro l
            induction l with
            | nil => simp
            | cons x r ihl =>
              rw [List.countP_cons, List.countP_cons]
              by_cases hx : i = x
              · subst hx
                rw [if_pos List.mem_cons_self]
                have e1 : (listed.setIfInBounds i true).getD i true = true := by
                  simp [show i < listed.size by omega]
                rw [e1, hl]
                have : r.countP (fun j => !(listed.setIfInBounds i true).getD j true) ≤ r.countP (fun j => !listed.getD j true) := by
                  split at ihl <;> omega
                exact Nat.succ_le_succ this
              · rw [getD_set_ne true hx]
                have : (i ∈ x :: r) ↔ i ∈ r := by simp [hx]
                simp only [this]
                omega
          have := hsub (List.range ops.size)
          rw [if_pos (List.mem_range.2 hi')] at this
          omega
        omega
      · -- a slot that isn't written now is as it was
        have hval : ∀ j, j ≠ i → valAt ops (fun t => (a.put o.dst v).eval (.tmp t)) j = valAt ops (fun t => a.eval (.tmp t)) j := by
          intro j hji
          unfold valAt
          cases hj : (ops[j]?).bind (·.dst) with
          | none => rfl
          | some t =>
            refine Act.eval_put fun d hd' => ?_
            intro e
            injection e with e
            subst e
            cases hoj : ops[j]? with
            | none => rw [hoj] at hj; cases hj
            | some oj =>
              rw [hoj] at hj
              exact hji (nodup_filterMap_get hnd j i oj o _ (by simpa using hoj) (by simpa using ho) hj hd')
        have hDne : ∀ k j, ∀ ok : Oper, ops[k]? = some ok → j ∈ D k → j < k := by
          intro k j ok hok hj
          obtain ⟨e, he, hb, rfl⟩ := (hops k ok hok).2.2 j hj
          exact (hops k ok hok).2.1 e he hb
        refine ⟨?_, ?_, ?_, ?_, ?_, hS'⟩
        · rw [← hk.size]; cases o.dst <;> simp [Act.put]
        · rw [← hk.defers]; cases o.dst <;> rfl
        · intro t ht
          rw [← hk.old t ht]
          cases hd' : o.dst with
          | none => rfl
          | some d =>
            have hne : d ≠ t := fun e => ht (mem_dsts.2 ⟨i, o, ho, by rw [hd', e]⟩)
            simp [Act.put, Array.getElem?_setIfInBounds_ne hne]
        · intro j oj hoj hlj e he hb
          by_cases hij : i = j
          · subst hij
            obtain rfl : oj = o := by rw [ho] at hoj; exact (Option.some.inj hoj).symm
            exact getD_set_true (hall e he hb)
          · rw [getD_set_ne false hij] at hlj
            exact getD_set_true (hk.waited j oj hoj hlj e he hb)
        · intro j oj hoj hlj
          by_cases hij : i = j
          · subst hij
            obtain rfl : oj = o := by rw [ho] at hoj; exact (Option.some.inj hoj).symm
            have e1 : (D i).map (valAt ops (fun t => (a.put oj.dst v).eval (.tmp t))) = (D i).map (valAt ops (fun t => a.eval (.tmp t))) :=
              List.map_congr_left fun k hk' => hval k (Nat.ne_of_lt (hDne i k oj ho hk'))
            rw [e1]
            have e2 : valAt ops (fun t => (a.put oj.dst v).eval (.tmp t)) i = if oj.dst.isSome then v else undef := by
              unfold valAt
              rw [ho]
              cases hd' : oj.dst with
              | none => simp [hd']
              | some t =>
                have hts : t < a.tmps.size := by rw [hk.size]; exact hlt t (mem_dsts.2 ⟨i, oj, ho, hd'⟩)
                simp [hd', Act.put, Act.eval, hts]
            rw [e2]; exact hV
          · rw [getD_set_ne false hij] at hlj
            have hkj := hk.known j oj hoj hlj
            have hnw : waits oj i = false := by
              cases hw : waits oj i with
              | false => rfl
              | true =>
                exfalso
                unfold waits at hw
                obtain ⟨e, he, hb⟩ := List.any_eq_true.1 hw
                simp only [Bool.and_eq_true, beq_iff_eq] at hb
                have h1 := hk.waited j oj hoj hlj e (by simpa using he) hb.1
                rw [hb.2] at h1
                have hi'' : i < listed.size := by omega
                simp [hi''] at hl h1
                rw [hl] at h1; cases h1
            have e1 : (D j).map (valAt ops (fun t => (a.put o.dst v).eval (.tmp t))) = (D j).map (valAt ops (fun t => a.eval (.tmp t))) :=
              List.map_congr_left fun k hk' => hval k (fun e => by
                subst e
                obtain ⟨e, he, hb, e2⟩ := (hops j oj hoj).2.2 _ hk'
                exact not_waits hnw e he hb e2)
            rw [e1, hval j (fun e => hij e.symm)]
            exact hst j i oj o _ _ _ _ hoj ho (fun e => hij e.symm) hnw hk.s hR hkj
  refine main _ _ _ _ (by simp) ?_ ⟨rfl, rfl, fun _ _ => rfl, fun i o ho hl => ?_, fun i o ho hl => ?_, hS⟩
  · exact Nat.le_trans List.countP_le_length (by simp)
  all_goals
    exfalso
    by_cases h : i < ops.size
    · simp [h] at hl
    · simp [h] at hl
end
end Go.Proofs.YtiabbkjmgaemaaaGreat
/- A region that draws its order and has guards, of which some hold and some don't, by what each operation leaves: no program in it. -/
namespace Go.Proofs.YtiabbkjmgaemaaaGreat
set_option linter.unusedVariables false
section
variable {P : Program} {ops : Array Oper} {Q : Exit → Act → World → Prop}
/-- **A region that draws its order, by what each operation leaves.** V i v us: what is known behind operation i, of what lies in its slot and in the slots of those that it waits for (D i); S: what holds throughout; R j: how operation j may turn the world. -/
theorem wp_region_each4 {id : Nat} {a0 : Act} {w0 : World} (V : Nat → Value → List Value → World → Prop) (S : World → Prop) (R : Nat → World → World → Prop) (D : Nat → List Nat) (run : Nat → Bool) (L : List Nat) (hL : dsts ops = L)
    (hm : P.follows .mixedOrders = true) (hok : okRegion3 ops a0.tmps.size D = true) (hS : S w0.drew)
    (hst : ∀ (i j : Nat) (oi oj : Oper) v us w w', ops[i]? = some oi → ops[j]? = some oj → i ≠ j → waits oi j = false → S w → R j w w' → V i v us w → V i v us w')
    (hgd : ∀ (i : Nat) (o : Oper) g b, ops[i]? = some o → o.guard = some (g, b) → ∀ v us w, V g v us w → if run i = true then v = .bool b else v ≠ .bool b)
    (hng : ∀ (i : Nat) (o : Oper), ops[i]? = some o → run i = false → ∃ g b, o.guard = some (g, b))
    (hsk : ∀ (i : Nat) us w, run i = false → S w → V i undef us w)
    (hop : EachOp (fun i o => run i = true → ∀ a w, S w → (∀ t, (dsts ops).contains t = false → a.eval (.tmp t) = a0.eval (.tmp t)) →
      (∀ j ∈ D i, V j (valAt ops (fun t => a.eval (.tmp t)) j) ((D j).map (valAt ops (fun t => a.eval (.tmp t)))) w) →
      Does2 P o a w fun v w' => V i (if o.dst.isSome then v else undef) ((D i).map (valAt ops (fun t => a.eval (.tmp t)))) w' ∧ S w' ∧ R i w w') 0 ops.toList)
    (hend : ∀ f w, S w → (∀ i, i < ops.size → V i (valAt ops f i) ((D i).map (valAt ops f)) w) → Q .normal (putAll f L a0) w) : (Code.region id ops true).wp P Q a0 w0 := by
  subst hL
  obtain ⟨hnd, hlt, hops⟩ := okRegion3.parts hok
  refine wp_region_any hm ?_
  have main : ∀ (fuel : Nat) (listed : Array Bool) (a : Act) (w : World), listed.size = ops.size → (List.range ops.size).countP (fun i => !listed.getD i true) ≤ fuel → Known2 ops V S D a0 listed a w → wpAny P .any ops Q fuel listed a w := by
    have fin : ∀ (listed : Array Bool) (a : Act) (w : World), listed.size = ops.size → Known2 ops V S D a0 listed a w → Region.ready .any ops listed = [] → Q .normal a w := by
      intro listed a w hls hk hr
      have all : ∀ (i : Nat) (o : Oper), ops[i]? = some o → listed.getD i false = true := by
        intro i
        induction i using Nat.strongRecOn with
        | _ i ih =>
          intro o ho
          have hi : i < ops.size := (Array.getElem?_eq_some_iff.1 ho).1
          cases hl : listed.getD i false with
          | true => rfl
          | false =>
            have hmem : i ∈ Region.ready .any ops listed := by
              rw [mem_ready]
              refine ⟨?_, o, ho, fun e he hb => ?_⟩
              · have hi' : i < listed.size := by omega
                simp [hi'] at hl ⊢; exact hl
              · have hlt' := (hops i o ho).2.1 e he hb
                exact ih e.on hlt' ops[e.on] (Array.getElem?_eq_getElem (by omega))
            rw [hr] at hmem; cases hmem
      have e : a = putAll (fun t => a.eval (.tmp t)) (dsts ops) a0 := by
        have h1 : a.tmps = (putAll (fun t => a.eval (.tmp t)) (dsts ops) a0).tmps := by
          apply Array.ext_getElem?
          intro t
          rw [putAll_get]
          by_cases ht : t ∈ dsts ops
          · have hts := hlt t ht
            rw [if_pos ⟨ht, hts⟩]
            have : t < a.tmps.size := by rw [hk.size]; exact hts
            simp [Act.eval, this]
          · rw [if_neg (fun h => ht h.1)]; exact hk.old t ht
        have h2 : a.defers = (putAll (fun t => a.eval (.tmp t)) (dsts ops) a0).defers := by rw [putAll_defers]; exact hk.defers
        generalize putAll (fun t => a.eval (.tmp t)) (dsts ops) a0 = b at *
        obtain ⟨x, y⟩ := a
        obtain ⟨x', y'⟩ := b
        simp only at h1 h2
        subst h1 h2; rfl
      rw [e]
      refine hend _ _ hk.s fun i hi => ?_
      exact hk.known i ops[i] (Array.getElem?_eq_getElem hi) (all i ops[i] (Array.getElem?_eq_getElem hi))
    intro fuel
    induction fuel with
    | zero =>
      intro listed a w hls hc hk
      have hr : Region.ready .any ops listed = [] := by
        cases hr : Region.ready .any ops listed with
        | nil => rfl
        | cons i r =>
          have hi : i ∈ Region.ready .any ops listed := by rw [hr]; exact List.mem_cons_self
          obtain ⟨hl, o, ho, _⟩ := mem_ready.1 hi
          have : 0 < (List.range ops.size).countP (fun i => !listed.getD i true) :=
            List.countP_pos_iff.2 ⟨i, List.mem_range.2 (Array.getElem?_eq_some_iff.1 ho).1, by rw [hl]; rfl⟩
          omega
      exact ⟨hr, fin listed a w hls hk hr⟩
    | succ fuel ih =>
      intro listed a w hls hc hk
      refine ⟨fin listed a w hls hk, fun i hi => ?_⟩
      obtain ⟨hl, o, ho, hall⟩ := mem_ready.1 hi
      have hi' : i < ops.size := (Array.getElem?_eq_some_iff.1 ho).1
      obtain ⟨hg, hlt', hD⟩ := hops i o ho
      have hdo := EachOp.get hop i o (by simpa using ho)
      rw [Nat.zero_add] at hdo
      have hd := fun hrun => hdo hrun a w hk.s (fun t ht => by
          have hn : t ∉ dsts ops := by
            intro hm; rw [List.contains_iff_mem.2 hm] at ht; cases ht
          have := hk.old t hn
          simp only [Act.eval, Array.getD_eq_getD_getElem?, this])
        (fun j hj => by
          obtain ⟨e, he, hb, rfl⟩ := hD j hj
          have hlt := hlt' e he hb
          exact hk.known e.on ops[e.on] (Array.getElem?_eq_getElem (by omega)) (hall e he hb))
      unfold wpOp
      simp only [ho]
      have hgv : ∀ g b, o.guard = some (g, b) → (yielded ops a.tmps g == some b) = run i := by
        intro g b hgo
        obtain ⟨e, he, hb, heg⟩ := hD g (hg g b hgo)
        have hlt := hlt' e he hb
        rw [heg] at hlt
        have hv := hgd i o g b ho hgo _ _ _ (hk.known g ops[g] (Array.getElem?_eq_getElem (by omega)) (by rw [← heg]; exact hall e he hb))
        unfold valAt at hv
        unfold yielded
        cases ht : (ops[g]?).bind (·.dst) with
        | none =>
          rw [ht] at hv
          cases hr : run i with
          | true => rw [if_pos hr] at hv; cases hv
          | false => simp
        | some t =>
          rw [ht] at hv
          have hv' : if run i = true then a.tmps.getD t undef = .bool b else a.tmps.getD t undef ≠ .bool b := hv
          cases hr : run i with
          | true =>
            rw [if_pos hr] at hv'
            cases hq : a.tmps[t]? with
            | none => rw [Array.getD_eq_getD_getElem?, hq] at hv'; cases hv'
            | some u => rw [Array.getD_eq_getD_getElem?, hq] at hv'; simp at hv'; subst hv'; simp [hq]
          | false =>
            rw [if_neg (by rw [hr]; exact Bool.false_ne_true)] at hv'
            cases hq : a.tmps[t]? with
            | none => simp [hq]
            | some u =>
              rw [Array.getD_eq_getD_getElem?, hq] at hv'
              simp at hv'
              cases u with
              | bool c =>
                simp [hq]
                intro e; subst e; exact hv' rfl
              | _ => simp [hq]
      have hstep : ∀ v w', V i (if o.dst.isSome then v else undef) ((D i).map (valAt ops (fun t => a.eval (.tmp t)))) w' → S w' →
          (∀ j (oj : Oper) v us, ops[j]? = some oj → j ≠ i → waits oj i = false → V j v us w → V j v us w') → wpAny P .any ops Q fuel (listed.setIfInBounds i true) (a.put o.dst v) w' := fun v w' hV hS' hR => ih _ _ _ (by simpa using hls)
        (by
            have hb : (List.range ops.size).countP (fun j => !(listed.setIfInBounds i true).getD j true) < (List.range ops.size).countP (fun j => !listed.getD j true) := by
              have hsub : ∀ (l : List Nat), l.countP (fun j => !(listed.setIfInBounds i true).getD j true) + (if i ∈ l then 1 else 0) ≤ l.countP (fun j => !listed.getD j true) := by
                intro l
                induction l with
                | nil => simp
                | cons x r ihl =>
                  rw [List.countP_cons, List.countP_cons]
                  by_cases hx : i = x
                  · subst hx
                    rw [if_pos List.mem_cons_self]
                    have e1 : (listed.setIfInBounds i true).getD i true = true := by
                      simp [show i < listed.size by omega]
                    rw [e1, hl]
                    have : r.countP (fun j => !(listed.setIfInBounds i true).getD j true) ≤ r.countP (fun j => !listed.getD j true) := by
                      split at ihl <;> omega
                    exact Nat.succ_le_succ this
                  · rw [getD_set_ne true hx]
                    have : (i ∈ x :: r) ↔ i ∈ r := by simp [hx]
                    simp only [this]
                    omega
              have := hsub (List.range ops.size)
              rw [if_pos (List.mem_range.2 hi')] at this
              omega
            omega) (by
            -- a slot that isn't written now is as it was
            have hval : ∀ j, j ≠ i → valAt ops (fun t => (a.put o.dst v).eval (.tmp t)) j = valAt ops (fun t => a.eval (.tmp t)) j := by
              intro j hji
              unfold valAt
              cases hj : (ops[j]?).bind (·.dst) with
              | none => rfl
              | some t =>
                refine Act.eval_put fun d hd' => ?_
                intro e
                injection e with e
                subst e
                cases hoj : ops[j]? with
                | none => rw [hoj] at hj; cases hj
                | some oj =>
                  rw [hoj] at hj
                  exact hji (nodup_filterMap_get hnd j i oj o _ (by simpa using hoj) (by simpa using ho) hj hd')
            have hDne : ∀ k j, ∀ ok : Oper, ops[k]? = some ok → j ∈ D k → j < k := by
              intro k j ok hok hj
              obtain ⟨e, he, hb, rfl⟩ := (hops k ok hok).2.2 j hj
              exact (hops k ok hok).2.1 e he hb
            refine ⟨?_, ?_, ?_, ?_, ?_, hS'⟩
            · rw [← hk.size]; cases o.dst <;> simp [Act.put]
            · rw [← hk.defers]; cases o.dst <;> rfl
            · intro t ht
              rw [← hk.old t ht]
              cases hd' : o.dst with
              | none => rfl
              | some d =>
                have hne : d ≠ t := fun e => ht (mem_dsts.2 ⟨i, o, ho, by rw [hd', e]⟩)
                simp [Act.put, Array.getElem?_setIfInBounds_ne hne]
            · intro j oj hoj hlj e he hb
              by_cases hij : i = j
              · subst hij
                obtain rfl : oj = o := by rw [ho] at hoj; exact (Option.some.inj hoj).symm
                exact getD_set_true (hall e he hb)
              · rw [getD_set_ne false hij] at hlj
                exact getD_set_true (hk.waited j oj hoj hlj e he hb)
            · intro j oj hoj hlj
              by_cases hij : i = j
              · subst hij
                obtain rfl : oj = o := by rw [ho] at hoj; exact (Option.some.inj hoj).symm
                have e1 : (D i).map (valAt ops (fun t => (a.put oj.dst v).eval (.tmp t))) = (D i).map (valAt ops (fun t => a.eval (.tmp t))) :=
                  List.map_congr_left fun k hk' => hval k (Nat.ne_of_lt (hDne i k oj ho hk'))
                rw [e1]
                have e2 : valAt ops (fun t => (a.put oj.dst v).eval (.tmp t)) i = if oj.dst.isSome then v else undef := by
                  unfold valAt
                  rw [ho]
                  cases hd' : oj.dst with
                  | none => simp [hd']
                  | some t =>
                    have hts : t < a.tmps.size := by rw [hk.size]; exact hlt t (mem_dsts.2 ⟨i, oj, ho, hd'⟩)
                    simp [hd', Act.put, Act.eval, hts]
                rw [e2]; exact hV
              · rw [getD_set_ne false hij] at hlj
                have hkj := hk.known j oj hoj hlj
                have hnw : waits oj i = false := by
                  cases hw : waits oj i with
                  | false => rfl
                  | true =>
                    exfalso
                    unfold waits at hw
                    obtain ⟨e, he, hb⟩ := List.any_eq_true.1 hw
                    simp only [Bool.and_eq_true, beq_iff_eq] at hb
                    have h1 := hk.waited j oj hoj hlj e (by simpa using he) hb.1
                    rw [hb.2] at h1
                    have hi'' : i < listed.size := by omega
                    simp [hi''] at hl h1
                    rw [hl] at h1; cases h1
                have e1 : (D j).map (valAt ops (fun t => (a.put o.dst v).eval (.tmp t))) = (D j).map (valAt ops (fun t => a.eval (.tmp t))) :=
                  List.map_congr_left fun k hk' => hval k (fun e => by
                    subst e
                    obtain ⟨e, he, hb, e2⟩ := (hops j oj hoj).2.2 _ hk'
                    exact not_waits hnw e he hb e2)
                rw [e1, hval j (fun e => hij e.symm)]
                exact hR j oj _ _ hoj (fun e => hij e.symm) hnw hkj)
      cases hrun : run i with
      | true =>
        have hwant : Region.wanted o (yielded ops a.tmps) = true := by
          unfold Region.wanted
          cases hgo : o.guard with
          | none => rfl
          | some gb => obtain ⟨g, b⟩ := gb; exact (hgv g b hgo).trans hrun
        rw [if_pos hwant]
        exact .inl (Does2.wp (hd hrun) fun v w' ⟨hV, hS', hR⟩ => hstep v w' hV hS' fun j oj v us hoj hji hnw hkj => hst j i oj o _ _ _ _ hoj ho hji hnw hk.s hR hkj)
      | false =>
        obtain ⟨g, b, hgo⟩ := hng i o ho hrun
        have hwant : ¬ Region.wanted o (yielded ops a.tmps) = true := by
          unfold Region.wanted
          rw [hgo]
          show ¬ (yielded ops a.tmps g == some b) = true
          rw [hgv g b hgo, hrun]; exact Bool.false_ne_true
        rw [if_neg hwant]
        exact hstep undef w (by have := hsk i ((D i).map (valAt ops (fun t => a.eval (.tmp t)))) w hrun hk.s; cases o.dst <;> exact this) hk.s fun j oj v us _ _ _ h => h
  refine main _ _ _ _ (by simp) ?_ ⟨rfl, rfl, fun _ _ => rfl, fun i o ho hl => ?_, fun i o ho hl => ?_, hS⟩
  · exact Nat.le_trans List.countP_le_length (by simp)
  all_goals
    exfalso
    by_cases h : i < ops.size
    · simp [h] at hl
    · simp [h] at hl
end
end Go.Proofs.YtiabbkjmgaemaaaGreat
/- A region that draws its order, by what each operation leaves, where facts may be dropped: no program in it. -/
namespace Go.Proofs.YtiabbkjmgaemaaaGreat
set_option linter.unusedVariables false

/-- Behind an operation of K i the fact of operation i is dropped: none that reads it is still to come. -/
def okDrop (ops : Array Oper) (D K : Nat → List Nat) : Bool :=
  (List.range ops.size).all fun i => (D i).all fun j => (K j).all fun k => k == i || (match ops[k]? with | none => true | some o => waits o i)
section
variable {P : Program} {ops : Array Oper} {Q : Exit → Act → World → Prop}
/-- What is known of a state in which the operations 'listed' have come up. -/
structure Known5 (ops : Array Oper) (V : Nat → Value → List Value → World → Prop) (S : World → Prop) (D K : Nat → List Nat) (a0 : Act) (listed : Array Bool) (a : Act) (w : World) : Prop where
  size : a.tmps.size = a0.tmps.size
  defers : a.defers = a0.defers
  old : ∀ t, t ∉ dsts ops → a.tmps[t]? = a0.tmps[t]?
  waited : ∀ (i : Nat) (o : Oper), ops[i]? = some o → listed.getD i false = true → ∀ e ∈ o.after, Region.binds .any e = true → listed.getD e.on false = true
  known : ∀ (i : Nat) (o : Oper), ops[i]? = some o → listed.getD i false = true → (∀ k ∈ K i, listed.getD k false = false) → V i (valAt ops (fun t => a.eval (.tmp t)) i) ((D i).map (valAt ops (fun t => a.eval (.tmp t)))) w
  s : S w
/-- **A region that draws its order, by what each operation leaves.** V i v us: what is known behind operation i, of what lies in its slot and in the slots of those that it waits for (D i); S: what holds throughout; R j: how operation j may turn the world. -/
theorem wp_region_each5 {id : Nat} {a0 : Act} {w0 : World} (V : Nat → Value → List Value → World → Prop) (S : World → Prop) (R : Nat → World → World → Prop) (D K : Nat → List Nat) (L : List Nat) (hL : dsts ops = L)
    (hm : P.follows .mixedOrders = true) (hok : okRegion3 ops a0.tmps.size D = true) (hng : ops.all (fun o => o.guard.isNone) = true) (hdr : okDrop ops D K = true) (hS : S w0.drew)
    (hst : ∀ (i j : Nat) (oi oj : Oper) v us w w', ops[i]? = some oi → ops[j]? = some oj → i ≠ j → waits oi j = false → j ∉ K i → S w → R j w w' → V i v us w → V i v us w')
    (hop : EachOp (fun i o => ∀ a w, S w → (∀ t, (dsts ops).contains t = false → a.eval (.tmp t) = a0.eval (.tmp t)) →
      (∀ j ∈ D i, V j (valAt ops (fun t => a.eval (.tmp t)) j) ((D j).map (valAt ops (fun t => a.eval (.tmp t)))) w) →
      Does2 P o a w fun v w' => V i (if o.dst.isSome then v else undef) ((D i).map (valAt ops (fun t => a.eval (.tmp t)))) w' ∧ S w' ∧ R i w w') 0 ops.toList)
    (hend : ∀ f w, S w → (∀ i, i < ops.size → (∀ k ∈ K i, ops.size ≤ k) → V i (valAt ops f i) ((D i).map (valAt ops f)) w) → Q .normal (putAll f L a0) w) : (Code.region id ops true).wp P Q a0 w0 := by
  subst hL
  obtain ⟨hnd, hlt, hops⟩ := okRegion3.parts hok
  refine wp_region_any hm ?_
  have main : ∀ (fuel : Nat) (listed : Array Bool) (a : Act) (w : World), listed.size = ops.size → (List.range ops.size).countP (fun i => !listed.getD i true) ≤ fuel → Known5 ops V S D K a0 listed a w → wpAny P .any ops Q fuel listed a w := by
    have fin : ∀ (listed : Array Bool) (a : Act) (w : World), listed.size = ops.size → Known5 ops V S D K a0 listed a w → Region.ready .any ops listed = [] → Q .normal a w := by
      intro listed a w hls hk hr
      have all : ∀ (i : Nat) (o : Oper), ops[i]? = some o → listed.getD i false = true := by
        intro i
        induction i using Nat.strongRecOn with
        | _ i ih =>
          intro o ho
          have hi : i < ops.size := (Array.getElem?_eq_some_iff.1 ho).1
          cases hl : listed.getD i false with
          | true => rfl
          | false =>
            have hmem : i ∈ Region.ready .any ops listed := by
              rw [mem_ready]
              refine ⟨?_, o, ho, fun e he hb => ?_⟩
              · have hi' : i < listed.size := by omega
                simp [hi'] at hl ⊢; exact hl
              · have hlt' := (hops i o ho).2.1 e he hb
                exact ih e.on hlt' ops[e.on] (Array.getElem?_eq_getElem (by omega))
            rw [hr] at hmem; cases hmem
      have e : a = putAll (fun t => a.eval (.tmp t)) (dsts ops) a0 := by
        have h1 : a.tmps = (putAll (fun t => a.eval (.tmp t)) (dsts ops) a0).tmps := by
          apply Array.ext_getElem?
          intro t
          rw [putAll_get]
          by_cases ht : t ∈ dsts ops
          · have hts := hlt t ht
            rw [if_pos ⟨ht, hts⟩]
            have : t < a.tmps.size := by rw [hk.size]; exact hts
            simp [Act.eval, this]
          · rw [if_neg (fun h => ht h.1)]; exact hk.old t ht
        have h2 : a.defers = (putAll (fun t => a.eval (.tmp t)) (dsts ops) a0).defers := by rw [putAll_defers]; exact hk.defers
        generalize putAll (fun t => a.eval (.tmp t)) (dsts ops) a0 = b at *
        obtain ⟨x, y⟩ := a
        obtain ⟨x', y'⟩ := b
        simp only at h1 h2
        subst h1 h2; rfl
      rw [e]
      refine hend _ _ hk.s fun i hi hK => ?_
      exact hk.known i ops[i] (Array.getElem?_eq_getElem hi) (all i ops[i] (Array.getElem?_eq_getElem hi)) (fun k hk' => by have := hK k hk'; simp [show listed.size ≤ k by omega])
    intro fuel
    induction fuel with
    | zero =>
      intro listed a w hls hc hk
      have hr : Region.ready .any ops listed = [] := by
        cases hr : Region.ready .any ops listed with
        | nil => rfl
        | cons i r =>
          have hi : i ∈ Region.ready .any ops listed := by rw [hr]; exact List.mem_cons_self
          obtain ⟨hl, o, ho, _⟩ := mem_ready.1 hi
          have : 0 < (List.range ops.size).countP (fun i => !listed.getD i true) :=
            List.countP_pos_iff.2 ⟨i, List.mem_range.2 (Array.getElem?_eq_some_iff.1 ho).1, by rw [hl]; rfl⟩
          omega
      exact ⟨hr, fin listed a w hls hk hr⟩
    | succ fuel ih =>
      intro listed a w hls hc hk
      refine ⟨fin listed a w hls hk, fun i hi => ?_⟩
      obtain ⟨hl, o, ho, hall⟩ := mem_ready.1 hi
      have hi' : i < ops.size := (Array.getElem?_eq_some_iff.1 ho).1
      obtain ⟨hg, hlt', hD⟩ := hops i o ho
      have hdo := EachOp.get hop i o (by simpa using ho)
      rw [Nat.zero_add] at hdo
      have hd := hdo a w hk.s (fun t ht => by
          have hn : t ∉ dsts ops := by
            intro hm; rw [List.contains_iff_mem.2 hm] at ht; cases ht
          have := hk.old t hn
          simp only [Act.eval, Array.getD_eq_getD_getElem?, this])
        (fun j hj => by
          obtain ⟨e, he, hb, rfl⟩ := hD j hj
          have hlt := hlt' e he hb
          refine hk.known e.on ops[e.on] (Array.getElem?_eq_getElem (by omega)) (hall e he hb) (fun k hkk => ?_)
          have hlf : listed.getD i false = false := by
            have hi'' : i < listed.size := by omega
            simp [hi''] at hl ⊢; exact hl
          have hd1 := List.all_eq_true.1 (List.all_eq_true.1 (List.all_eq_true.1 hdr i (List.mem_range.2 hi')) e.on hj) k hkk
          simp only [Bool.or_eq_true, beq_iff_eq] at hd1
          rcases hd1 with rfl | hd1
          · exact hlf
          · cases hok2 : ops[k]? with
            | none =>
              have : ops.size ≤ k := Array.getElem?_eq_none_iff.1 hok2
              simp [show listed.size ≤ k by omega]
            | some o2 =>
              rw [hok2] at hd1
              cases hl2 : listed.getD k false with
              | false => rfl
              | true =>
                exfalso
                unfold waits at hd1
                obtain ⟨e2, he2, hb2⟩ := List.any_eq_true.1 hd1
                simp only [Bool.and_eq_true, beq_iff_eq] at hb2
                have h1 := hk.waited k o2 hok2 hl2 e2 (by simpa using he2) hb2.1
                rw [hb2.2, hlf] at h1
                cases h1)
      unfold wpOp
      simp only [ho]
      have hwant : Region.wanted o (yielded ops a.tmps) = true := by
        unfold Region.wanted
        have hgn : o.guard = none := by
          have h1 := Array.all_eq_true.1 hng i hi'
          have h2 : ops[i] = o := by rw [Array.getElem?_eq_getElem hi'] at ho; exact Option.some.inj ho
          rw [h2] at h1; simpa using h1
        rw [hgn]
      rw [if_pos hwant]
      refine .inl (Does2.wp hd fun v w' ⟨hV, hS', hR⟩ => ih _ _ _ (by simpa using hls) ?_ ?_)
      · have hb : (List.range ops.size).countP (fun j => !(listed.setIfInBounds i true).getD j true) < (List.range ops.size).countP (fun j => !listed.getD j true) := by
          have hsub : ∀ (l : List Nat), l.countP (fun j => !(listed.setIfInBounds i true).getD j true) + (if i ∈ l then 1 else 0) ≤ l.countP (fun j => !listed.getD j true) := by
            intro l
            induction l with
            | nil => simp
            | cons x r ihl =>
              rw [List.countP_cons, List.countP_cons]
              by_cases hx : i = x
              · subst hx
                rw [if_pos List.mem_cons_self]
                have e1 : (listed.setIfInBounds i true).getD i true = true := by
                  simp [show i < listed.size by omega]
                rw [e1, hl]
                have : r.countP (fun j => !(listed.setIfInBounds i true).getD j true) ≤ r.countP (fun j => !listed.getD j true) := by
                  split at ihl <;> omega
                exact Nat.succ_le_succ this
              · rw [getD_set_ne true hx]
                have : (i ∈ x :: r) ↔ i ∈ r := by simp [hx]
                simp only [this]
                omega
          have := hsub (List.range ops.size)
          rw [if_pos (List.mem_range.2 hi')] at this
          omega
        omega
      · -- a slot that isn't written now is as it was
        have hval : ∀ j, j ≠ i → valAt ops (fun t => (a.put o.dst v).eval (.tmp t)) j = valAt ops (fun t => a.eval (.tmp t)) j := by
          intro j hji
          unfold valAt
          cases hj : (ops[j]?).bind (·.dst) with
          | none => rfl
          | some t =>
            refine Act.eval_put fun d hd' => ?_
            intro e
            injection e with e
            subst e
            cases hoj : ops[j]? with
            | none => rw [hoj] at hj; cases hj
            | some oj =>
              rw [hoj] at hj
              exact hji (nodup_filterMap_get hnd j i oj o _ (by simpa using hoj) (by simpa using ho) hj hd')
        have hDne : ∀ k j, ∀ ok : Oper, ops[k]? = some ok → j ∈ D k → j < k := by
          intro k j ok hok hj
          obtain ⟨e, he, hb, rfl⟩ := (hops k ok hok).2.2 j hj
          exact (hops k ok hok).2.1 e he hb
        refine ⟨?_, ?_, ?_, ?_, ?_, hS'⟩
        · rw [← hk.size]; cases o.dst <;> simp [Act.put]
        · rw [← hk.defers]; cases o.dst <;> rfl
        · intro t ht
          rw [← hk.old t ht]
          cases hd' : o.dst with
          | none => rfl
          | some d =>
            have hne : d ≠ t := fun e => ht (mem_dsts.2 ⟨i, o, ho, by rw [hd', e]⟩)
            simp [Act.put, Array.getElem?_setIfInBounds_ne hne]
        · intro j oj hoj hlj e he hb
          by_cases hij : i = j
          · subst hij
            obtain rfl : oj = o := by rw [ho] at hoj; exact (Option.some.inj hoj).symm
            exact getD_set_true (hall e he hb)
          · rw [getD_set_ne false hij] at hlj
            exact getD_set_true (hk.waited j oj hoj hlj e he hb)
        · intro j oj hoj hlj hKj
          by_cases hij : i = j
          · subst hij
            obtain rfl : oj = o := by rw [ho] at hoj; exact (Option.some.inj hoj).symm
            have e1 : (D i).map (valAt ops (fun t => (a.put oj.dst v).eval (.tmp t))) = (D i).map (valAt ops (fun t => a.eval (.tmp t))) :=
              List.map_congr_left fun k hk' => hval k (Nat.ne_of_lt (hDne i k oj ho hk'))
            rw [e1]
            have e2 : valAt ops (fun t => (a.put oj.dst v).eval (.tmp t)) i = if oj.dst.isSome then v else undef := by
              unfold valAt
              rw [ho]
              cases hd' : oj.dst with
              | none => simp [hd']
              | some t =>
                have hts : t < a.tmps.size := by rw [hk.size]; exact hlt t (mem_dsts.2 ⟨i, oj, ho, hd'⟩)
                simp [hd', Act.put, Act.eval, hts]
            rw [e2]; exact hV
          · rw [getD_set_ne false hij] at hlj
            have hiK : i ∉ K j := fun hm => by
              have h1 := hKj i hm
              have hi'' : i < listed.size := by omega
              simp [hi''] at h1
            have hkj := hk.known j oj hoj hlj (fun k hkk => by
              have h1 := hKj k hkk
              by_cases hik : i = k
              · subst hik; exact absurd hkk hiK
              · rwa [getD_set_ne false hik] at h1)
            have hnw : waits oj i = false := by
              cases hw : waits oj i with
              | false => rfl
              | true =>
                exfalso
                unfold waits at hw
                obtain ⟨e, he, hb⟩ := List.any_eq_true.1 hw
                simp only [Bool.and_eq_true, beq_iff_eq] at hb
                have h1 := hk.waited j oj hoj hlj e (by simpa using he) hb.1
                rw [hb.2] at h1
                have hi'' : i < listed.size := by omega
                simp [hi''] at hl h1
                rw [hl] at h1; cases h1
            have e1 : (D j).map (valAt ops (fun t => (a.put o.dst v).eval (.tmp t))) = (D j).map (valAt ops (fun t => a.eval (.tmp t))) :=
              List.map_congr_left fun k hk' => hval k (fun e => by
                subst e
                obtain ⟨e, he, hb, e2⟩ := (hops j oj hoj).2.2 _ hk'
                exact not_waits hnw e he hb e2)
            rw [e1, hval j (fun e => hij e.symm)]
            exact hst j i oj o _ _ _ _ hoj ho (fun e => hij e.symm) hnw hiK hk.s hR hkj
  refine main _ _ _ _ (by simp) ?_ ⟨rfl, rfl, fun _ _ => rfl, fun i o ho hl => ?_, fun i o ho hl _ => ?_, hS⟩
  · exact Nat.le_trans List.countP_le_length (by simp)
  all_goals
    exfalso
    by_cases h : i < ops.size
    · simp [h] at hl
    · simp [h] at hl
end
end Go.Proofs.YtiabbkjmgaemaaaGreat
/- Sets of numbers as rows that rise: plain. -/
namespace Go.Proofs.YtiabbkjmgaemaaaGreat
set_option linter.unusedVariables false

/-- A row that rises, none twice. -/
def Inc (l : List Int) : Prop := l.Pairwise (· < ·)
theorem inc_nil : Inc [] := List.Pairwise.nil
theorem inc_cons {x : Int} {l : List Int} : Inc (x :: l) ↔ (∀ y ∈ l, x < y) ∧ Inc l := List.pairwise_cons
theorem inc_ext : ∀ {l m : List Int}, Inc l → Inc m → (∀ x, x ∈ l ↔ x ∈ m) → l = m
  | [], [], _, _, _ => rfl
  | [], y :: m, _, _, h => absurd ((h y).2 (List.mem_cons_self ..)) (by simp)
  | x :: l, [], _, _, h => absurd ((h x).1 (List.mem_cons_self ..)) (by simp)
  | x :: l, y :: m, hl, hm, h => by
    rw [inc_cons] at hl hm
    have e : x = y := by
      have h1 := (h x).1 (List.mem_cons_self ..)
      have h2 := (h y).2 (List.mem_cons_self ..)
      rcases List.mem_cons.1 h1 with h1 | h1
      · exact h1
      · rcases List.mem_cons.1 h2 with h2 | h2
        · exact h2.symm
        · have := hm.1 x h1; have := hl.1 y h2; omega
    subst e
    rw [inc_ext hl.2 hm.2 fun z => ?_]
    constructor
    · intro hz
      have := hl.1 z hz
      rcases List.mem_cons.1 ((h z).1 (List.mem_cons_of_mem _ hz)) with e | e
      · omega
      · exact e
    · intro hz
      have := hm.1 z hz
      rcases List.mem_cons.1 ((h z).2 (List.mem_cons_of_mem _ hz)) with e | e
      · omega
      · exact e

/-- Two rows gone through at once: each number, and in which of them it is. -/
def thr : List Int → List Int → List (Int × Bool × Bool)
  | [], [] => []
  | x :: a, [] => (x, true, false) :: thr a []
  | [], y :: b => (y, false, true) :: thr [] b
  | x :: a, y :: b =>
    if x < y then (x, true, false) :: thr a (y :: b)
    else if y < x then (y, false, true) :: thr (x :: a) b
    else (x, true, true) :: thr a b
termination_by a b => a.length + b.length
theorem thr_nil : thr [] [] = [] := by rw [thr]
theorem thr_l (x : Int) (a : List Int) : thr (x :: a) [] = (x, true, false) :: thr a [] := by rw [thr]
theorem thr_r (y : Int) (b : List Int) : thr [] (y :: b) = (y, false, true) :: thr [] b := by rw [thr]
theorem thr_lt {x y : Int} (h : x < y) (a b : List Int) : thr (x :: a) (y :: b) = (x, true, false) :: thr a (y :: b) := by rw [thr, if_pos h]
theorem thr_gt {x y : Int} (h : y < x) (a b : List Int) : thr (x :: a) (y :: b) = (y, false, true) :: thr (x :: a) b := by rw [thr, if_neg (by omega), if_pos h]
theorem thr_eq (x : Int) (a b : List Int) : thr (x :: a) (x :: b) = (x, true, true) :: thr a b := by rw [thr, if_neg (by omega), if_neg (by omega)]

theorem thr_ind {P : List Int → List Int → Prop} (h0 : P [] []) (hl : ∀ x a, P a [] → P (x :: a) []) (hr : ∀ y b, P [] b → P [] (y :: b))
    (h1 : ∀ x y a b, x < y → P a (y :: b) → P (x :: a) (y :: b)) (h2 : ∀ x y a b, y < x → P (x :: a) b → P (x :: a) (y :: b)) (h3 : ∀ x a b, P a b → P (x :: a) (x :: b)) : ∀ a b, P a b
  | [], [] => h0
  | x :: a, [] => hl x a (thr_ind h0 hl hr h1 h2 h3 a [])
  | [], y :: b => hr y b (thr_ind h0 hl hr h1 h2 h3 [] b)
  | x :: a, y :: b => by
    rcases Int.lt_trichotomy x y with h | h | h
    · exact h1 x y a b h (thr_ind h0 hl hr h1 h2 h3 a (y :: b))
    · subst h; exact h3 x a b (thr_ind h0 hl hr h1 h2 h3 a b)
    · exact h2 x y a b h (thr_ind h0 hl hr h1 h2 h3 (x :: a) b)
termination_by a b => a.length + b.length

theorem thr_len (a b : List Int) : (thr a b).length ≤ a.length + b.length := by
  refine thr_ind (P := fun a b => (thr a b).length ≤ a.length + b.length) ?_ ?_ ?_ ?_ ?_ ?_ a b
  · rw [thr_nil]; simp
  · intro x a h; rw [thr_l]; simp at h ⊢; omega
  · intro y b h; rw [thr_r]; simp at h ⊢; omega
  · intro x y a b hxy h; rw [thr_lt hxy]; simp at h ⊢; omega
  · intro x y a b hxy h; rw [thr_gt hxy]; simp at h ⊢; omega
  · intro x a b h; rw [thr_eq]; simp at h ⊢; omega

/-- Each number that comes is of one row or the other, and is told so. -/
theorem thr_mem (a b : List Int) (ha : Inc a) (hb : Inc b) (t : Int × Bool × Bool) : t ∈ thr a b ↔ (t.1 ∈ a ∨ t.1 ∈ b) ∧ t.2.1 = decide (t.1 ∈ a) ∧ t.2.2 = decide (t.1 ∈ b) := by
  refine thr_ind (P := fun a b => Inc a → Inc b → ∀ t, t ∈ thr a b ↔ (t.1 ∈ a ∨ t.1 ∈ b) ∧ t.2.1 = decide (t.1 ∈ a) ∧ t.2.2 = decide (t.1 ∈ b)) ?_ ?_ ?_ ?_ ?_ ?_ a b ha hb t
  · intro _ _ t; rw [thr_nil]; simp
  · intro x a ih h1 h2 t
    rw [inc_cons] at h1
    rw [thr_l, List.mem_cons, ih h1.2 h2]
    obtain ⟨z, p, q⟩ := t
    by_cases e : z = x
    · subst e
      have : z ∉ a := fun h => by have := h1.1 z h; omega
      simp [this]
    · simp [e]
  · intro y b ih h1 h2 t
    rw [inc_cons] at h2
    rw [thr_r, List.mem_cons, ih h1 h2.2]
    obtain ⟨z, p, q⟩ := t
    by_cases e : z = y
    · subst e
      have : z ∉ b := fun h => by have := h2.1 z h; omega
      simp [this]
    · simp [e]
  · intro x y a b hxy ih h1 h2 t
    have h2' := h2
    rw [inc_cons] at h1 h2'
    rw [thr_lt hxy, List.mem_cons, ih h1.2 h2]
    obtain ⟨z, p, q⟩ := t
    by_cases e : z = x
    · subst e
      have n1 : z ∉ a := fun h => by have := h1.1 z h; omega
      have n2 : z ∉ b := fun h => by have := h2'.1 z h; omega
      have n3 : ¬ z = y := by omega
      simp [n1, n2, n3]
    · simp [e]
  · intro x y a b hxy ih h1 h2 t
    have h1' := h1
    rw [inc_cons] at h2 h1'
    rw [thr_gt hxy, List.mem_cons, ih h1 h2.2]
    obtain ⟨z, p, q⟩ := t
    by_cases e : z = y
    · subst e
      have n1 : z ∉ a := fun h => by have := h1'.1 z h; omega
      have n2 : z ∉ b := fun h => by have := h2.1 z h; omega
      have n3 : ¬ z = x := by omega
      simp [n1, n2, n3]
    · simp [e]
  · intro x a b ih h1 h2 t
    rw [inc_cons] at h1 h2
    rw [thr_eq, List.mem_cons, ih h1.2 h2.2]
    obtain ⟨z, p, q⟩ := t
    by_cases e : z = x
    · subst e
      have n1 : z ∉ a := fun h => by have := h1.1 z h; omega
      have n2 : z ∉ b := fun h => by have := h2.1 z h; omega
      simp [n1, n2]
    · simp [e]
theorem thr_inc (a b : List Int) (ha : Inc a) (hb : Inc b) : (thr a b).Pairwise (fun s t => s.1 < t.1) := by
  refine thr_ind (P := fun a b => Inc a → Inc b → (thr a b).Pairwise (fun s t => s.1 < t.1)) ?_ ?_ ?_ ?_ ?_ ?_ a b ha hb
  · intro _ _; rw [thr_nil]; exact List.Pairwise.nil
  · intro x a ih h1 h2
    rw [inc_cons] at h1
    rw [thr_l, List.pairwise_cons]
    exact ⟨fun t ht => by
      have := ((thr_mem a [] h1.2 h2 t).1 ht).1
      rcases this with h | h
      · exact h1.1 _ h
      · simp at h, ih h1.2 h2⟩
  · intro y b ih h1 h2
    rw [inc_cons] at h2
    rw [thr_r, List.pairwise_cons]
    exact ⟨fun t ht => by
      have := ((thr_mem [] b h1 h2.2 t).1 ht).1
      rcases this with h | h
      · simp at h
      · exact h2.1 _ h, ih h1 h2.2⟩
  · intro x y a b hxy ih h1 h2
    have h2' := h2
    rw [inc_cons] at h1 h2'
    rw [thr_lt hxy, List.pairwise_cons]
    refine ⟨fun t ht => ?_, ih h1.2 h2⟩
    rcases ((thr_mem a (y :: b) h1.2 h2 t).1 ht).1 with h | h
    · exact h1.1 _ h
    · rcases List.mem_cons.1 h with h | h
      · show x < t.1; rw [h]; exact hxy
      · have := h2'.1 _ h; show x < t.1; omega
  · intro x y a b hxy ih h1 h2
    have h1' := h1
    rw [inc_cons] at h2 h1'
    rw [thr_gt hxy, List.pairwise_cons]
    refine ⟨fun t ht => ?_, ih h1 h2.2⟩
    rcases ((thr_mem (x :: a) b h1 h2.2 t).1 ht).1 with h | h
    · rcases List.mem_cons.1 h with h | h
      · show y < t.1; rw [h]; exact hxy
      · have := h1'.1 _ h; show y < t.1; omega
    · exact h2.1 _ h
  · intro x a b ih h1 h2
    rw [inc_cons] at h1 h2
    rw [thr_eq, List.pairwise_cons]
    refine ⟨fun t ht => ?_, ih h1.2 h2.2⟩
    rcases ((thr_mem a b h1.2 h2.2 t).1 ht).1 with h | h
    · exact h1.1 _ h
    · exact h2.1 _ h

/-- What of it stays. -/
def those (p : Bool → Bool → Bool) (a b : List Int) : List Int := ((thr a b).filter fun t => p t.2.1 t.2.2).map (·.1)
theorem those_inc (p : Bool → Bool → Bool) {a b : List Int} (ha : Inc a) (hb : Inc b) : Inc (those p a b) := by
  unfold those Inc
  rw [List.pairwise_map]
  exact (thr_inc a b ha hb).filter _
theorem those_mem (p : Bool → Bool → Bool) {a b : List Int} (ha : Inc a) (hb : Inc b) (x : Int) : x ∈ those p a b ↔ (x ∈ a ∨ x ∈ b) ∧ p (decide (x ∈ a)) (decide (x ∈ b)) = true := by
  unfold those
  rw [List.mem_map]
  constructor
  · rintro ⟨t, ht, rfl⟩
    rw [List.mem_filter, thr_mem a b ha hb] at ht
    exact ⟨ht.1.1, by rw [← ht.1.2.1, ← ht.1.2.2]; exact ht.2⟩
  · rintro ⟨h1, h2⟩
    refine ⟨(x, decide (x ∈ a), decide (x ∈ b)), ?_, rfl⟩
    rw [List.mem_filter, thr_mem a b ha hb]
    exact ⟨⟨h1, rfl, rfl⟩, h2⟩
theorem those_len (p : Bool → Bool → Bool) (a b : List Int) : (those p a b).length ≤ a.length + b.length := by
  unfold those
  rw [List.length_map]
  exact Nat.le_trans (List.length_filter_le _ _) (thr_len a b)
def uni (a b : List Int) : List Int := those (fun p q => p || q) a b
def int (a b : List Int) : List Int := those (fun p q => p && q) a b
def dif (a b : List Int) : List Int := those (fun p q => p && !q) a b
theorem uni_mem {a b : List Int} (ha : Inc a) (hb : Inc b) (x : Int) : x ∈ uni a b ↔ x ∈ a ∨ x ∈ b := by
  unfold uni; rw [those_mem _ ha hb]; simp
theorem int_mem {a b : List Int} (ha : Inc a) (hb : Inc b) (x : Int) : x ∈ int a b ↔ x ∈ a ∧ x ∈ b := by
  unfold int; rw [those_mem _ ha hb]; simp; intro h _; exact .inl h
theorem dif_mem {a b : List Int} (ha : Inc a) (hb : Inc b) (x : Int) : x ∈ dif a b ↔ x ∈ a ∧ x ∉ b := by
  unfold dif; rw [those_mem _ ha hb]; simp; intro h _; exact .inl h
theorem uni_inc {a b : List Int} (ha : Inc a) (hb : Inc b) : Inc (uni a b) := those_inc _ ha hb
theorem int_inc {a b : List Int} (ha : Inc a) (hb : Inc b) : Inc (int a b) := those_inc _ ha hb
theorem dif_inc {a b : List Int} (ha : Inc a) (hb : Inc b) : Inc (dif a b) := those_inc _ ha hb
/-- What of two rows is together, is in both and in each one alone, counted. -/
theorem parts_len {a b : List Int} (ha : Inc a) (hb : Inc b) : (int a b).length + (dif a b).length + (dif b a).length = (uni a b).length := by
  have e : dif b a = those (fun p q => q && !p) a b := by
    refine inc_ext (dif_inc hb ha) (those_inc _ ha hb) fun x => ?_
    rw [dif_mem hb ha, those_mem _ ha hb]; simp; intro h _; exact .inr h
  have g : ∀ l : List (Int × Bool × Bool), (∀ t ∈ l, t.2.1 = true ∨ t.2.2 = true) → (l.filter fun t => t.2.1 && t.2.2).length + (l.filter fun t => t.2.1 && !t.2.2).length + (l.filter fun t => t.2.2 && !t.2.1).length = (l.filter fun t => t.2.1 || t.2.2).length := by
    intro l
    induction l with
    | nil => intro _; rfl
    | cons t l ih =>
      intro h
      have := ih fun t ht => h t (List.mem_cons_of_mem _ ht)
      obtain ⟨z, p, q⟩ := t
      have h0 := h (z, p, q) (List.mem_cons_self ..)
      cases p <;> cases q <;> simp at h0 ⊢ <;> omega
  rw [e]
  unfold int dif uni those
  simp only [List.length_map]
  refine g _ fun t ht => ?_
  rw [thr_mem a b ha hb] at ht
  rw [ht.2.1, ht.2.2]
  simpa using ht.1
end Go.Proofs.YtiabbkjmgaemaaaGreat
