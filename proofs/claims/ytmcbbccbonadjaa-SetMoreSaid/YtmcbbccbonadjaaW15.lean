/- A region that draws its order, by what each operation leaves, where facts may be dropped: no program in it. -/
import Derived.Test.YtmcbbccbonadjaaW0
import Derived.Test.YtmcbbccbonadjaaW1
import Derived.Test.YtmcbbccbonadjaaW2
import Derived.Test.YtmcbbccbonadjaaW3
import Derived.Test.YtmcbbccbonadjaaW4
import Derived.Test.YtmcbbccbonadjaaW5
import Derived.Test.YtmcbbccbonadjaaW6
import Derived.Test.YtmcbbccbonadjaaW7
import Derived.Test.YtmcbbccbonadjaaW8
import Derived.Test.YtmcbbccbonadjaaW9
import Derived.Test.YtmcbbccbonadjaaW10
import Derived.Test.YtmcbbccbonadjaaW11
import Derived.Test.YtmcbbccbonadjaaW12
import Derived.Test.YtmcbbccbonadjaaW13
import Derived.Test.YtmcbbccbonadjaaW14
import Derived.ArgAppend
import Derived.Deep.DeepAppendRoom
import Derived.Laws.AppendOwnNone
namespace Go.Proofs.Ytmcbbccbonadjaa
set_option linter.unusedVariables false

/-- Behind an operation of K i the fact of operation i is dropped: none that reads it is still to come. -/
def okDrop (ops : Array Oper) (D K : Nat → List Nat) : Bool :=
  (List.range ops.size).all fun i => (D i).all fun j => (K j).all fun k => k == i || (match ops[k]? with | none => true | some o => waits o i)
section
variable {P : Program} {ops : Array Oper} {Q : Exit → Act → World → Prop}
/-- What is known of a state in which the operations 'listed' have come up. -/
structure Known5 (ops : Array Oper) (V : Nat → Value → List Value → World → Prop) (S : World → Prop) (D K : Nat → List Nat) (a0 : Act) (listed : Array Bool) (a : Act) (w : World) : Prop where
  size : a.tmps.size = a0.tmps.size
  defers : a.defers = a0.defers
  old : ∀ t, t ∉ dsts ops → a.tmps[t]? = a0.tmps[t]?
  waited : ∀ (i : Nat) (o : Oper), ops[i]? = some o → listed.getD i false = true → ∀ e ∈ o.after, Region.binds .any e = true → listed.getD e.on false = true
  known : ∀ (i : Nat) (o : Oper), ops[i]? = some o → listed.getD i false = true → (∀ k ∈ K i, listed.getD k false = false) → V i (valAt ops (fun t => a.eval (.tmp t)) i) ((D i).map (valAt ops (fun t => a.eval (.tmp t)))) w
  s : S w
/-- **A region that draws its order, by what each operation leaves.** V i v us: what is known behind operation i, of what lies in its slot and in the slots of those that it waits for (D i); S: what holds throughout; R j: how operation j may turn the world. -/
theorem wp_region_each5 {id : Nat} {a0 : Act} {w0 : World} (V : Nat → Value → List Value → World → Prop) (S : World → Prop) (R : Nat → World → World → Prop) (D K : Nat → List Nat) (L : List Nat) (hL : dsts ops = L)
    (hm : P.follows .mixedOrders = true) (hok : okRegion3 ops a0.tmps.size D = true) (hng : ops.all (fun o => o.guard.isNone) = true) (hdr : okDrop ops D K = true) (hS : S w0.drew)
    (hst : ∀ (i j : Nat) (oi oj : Oper) v us w w', ops[i]? = some oi → ops[j]? = some oj → i ≠ j → waits oi j = false → j ∉ K i → S w → R j w w' → V i v us w → V i v us w')
    (hop : EachOp (fun i o => ∀ a w, S w → (∀ t, (dsts ops).contains t = false → a.eval (.tmp t) = a0.eval (.tmp t)) →
      (∀ j ∈ D i, V j (valAt ops (fun t => a.eval (.tmp t)) j) ((D j).map (valAt ops (fun t => a.eval (.tmp t)))) w) →
      Does2 P o a w fun v w' => V i (if o.dst.isSome then v else undef) ((D i).map (valAt ops (fun t => a.eval (.tmp t)))) w' ∧ S w' ∧ R i w w') 0 ops.toList)
    (hend : ∀ f w, S w → (∀ i, i < ops.size → (∀ k ∈ K i, ops.size ≤ k) → V i (valAt ops f i) ((D i).map (valAt ops f)) w) → Q .normal (putAll f L a0) w) : (Code.region id ops true).wp P Q a0 w0 := by
  subst hL
  obtain ⟨hnd, hlt, hops⟩ := okRegion3.parts hok
  refine wp_region_any hm ?_
  have main : ∀ (fuel : Nat) (listed : Array Bool) (a : Act) (w : World), listed.size = ops.size → (List.range ops.size).countP (fun i => !listed.getD i true) ≤ fuel → Known5 ops V S D K a0 listed a w → wpAny P .any ops Q fuel listed a w := by
    have fin : ∀ (listed : Array Bool) (a : Act) (w : World), listed.size = ops.size → Known5 ops V S D K a0 listed a w → Region.ready .any ops listed = [] → Q .normal a w := by
      intro listed a w hls hk hr
      have all : ∀ (i : Nat) (o : Oper), ops[i]? = some o → listed.getD i false = true := by
        intro i
        induction i using Nat.strongRecOn with
        | _ i ih =>
          intro o ho
          have hi : i < ops.size := (Array.getElem?_eq_some_iff.1 ho).1
          cases hl : listed.getD i false with
          | true => rfl
          | false =>
            have hmem : i ∈ Region.ready .any ops listed := by
              rw [mem_ready]
              refine ⟨?_, o, ho, fun e he hb => ?_⟩
              · have hi' : i < listed.size := by omega
                simp [hi'] at hl ⊢; exact hl
              · have hlt' := (hops i o ho).2.1 e he hb
                exact ih e.on hlt' ops[e.on] (Array.getElem?_eq_getElem (by omega))
            rw [hr] at hmem; cases hmem
      have e : a = putAll (fun t => a.eval (.tmp t)) (dsts ops) a0 := by
        have h1 : a.tmps = (putAll (fun t => a.eval (.tmp t)) (dsts ops) a0).tmps := by
          apply Array.ext_getElem?
          intro t
          rw [putAll_get]
          by_cases ht : t ∈ dsts ops
          · have hts := hlt t ht
            rw [if_pos ⟨ht, hts⟩]
            have : t < a.tmps.size := by rw [hk.size]; exact hts
            simp [Act.eval, this]
          · rw [if_neg (fun h => ht h.1)]; exact hk.old t ht
        have h2 : a.defers = (putAll (fun t => a.eval (.tmp t)) (dsts ops) a0).defers := by rw [putAll_defers]; exact hk.defers
        generalize putAll (fun t => a.eval (.tmp t)) (dsts ops) a0 = b at *
        obtain ⟨x, y⟩ := a
        obtain ⟨x', y'⟩ := b
        simp only at h1 h2
        subst h1 h2; rfl
      rw [e]
      refine hend _ _ hk.s fun i hi hK => ?_
      exact hk.known i ops[i] (Array.getElem?_eq_getElem hi) (all i ops[i] (Array.getElem?_eq_getElem hi)) (fun k hk' => by have := hK k hk'; simp [show listed.size ≤ k by omega])
    intro fuel
    induction fuel with
    | zero =>
      intro listed a w hls hc hk
      have hr : Region.ready .any ops listed = [] := by
        cases hr : Region.ready .any ops listed with
        | nil => rfl
        | cons i r =>
          have hi : i ∈ Region.ready .any ops listed := by rw [hr]; exact List.mem_cons_self
          obtain ⟨hl, o, ho, _⟩ := mem_ready.1 hi
          have : 0 < (List.range ops.size).countP (fun i => !listed.getD i true) :=
            List.countP_pos_iff.2 ⟨i, List.mem_range.2 (Array.getElem?_eq_some_iff.1 ho).1, by rw [hl]; rfl⟩
          omega
      exact ⟨hr, fin listed a w hls hk hr⟩
    | succ fuel ih =>
      intro listed a w hls hc hk
      refine ⟨fin listed a w hls hk, fun i hi => ?_⟩
      obtain ⟨hl, o, ho, hall⟩ := mem_ready.1 hi
      have hi' : i < ops.size := (Array.getElem?_eq_some_iff.1 ho).1
      obtain ⟨hg, hlt', hD⟩ := hops i o ho
      have hdo := EachOp.get hop i o (by simpa using ho)
      rw [Nat.zero_add] at hdo
      have hd := hdo a w hk.s (fun t ht => by
          have hn : t ∉ dsts ops := by
            intro hm; rw [List.contains_iff_mem.2 hm] at ht; cases ht
          have := hk.old t hn
          simp only [Act.eval, Array.getD_eq_getD_getElem?, this])
        (fun j hj => by
          obtain ⟨e, he, hb, rfl⟩ := hD j hj
          have hlt := hlt' e he hb
          refine hk.known e.on ops[e.on] (Array.getElem?_eq_getElem (by omega)) (hall e he hb) (fun k hkk => ?_)
          have hlf : listed.getD i false = false := by
            have hi'' : i < listed.size := by omega
            simp [hi''] at hl ⊢; exact hl
          have hd1 := List.all_eq_true.1 (List.all_eq_true.1 (List.all_eq_true.1 hdr i (List.mem_range.2 hi')) e.on hj) k hkk
          simp only [Bool.or_eq_true, beq_iff_eq] at hd1
          rcases hd1 with rfl | hd1
          · exact hlf
          · cases hok2 : ops[k]? with
            | none =>
              have : ops.size ≤ k := Array.getElem?_eq_none_iff.1 hok2
              simp [show listed.size ≤ k by omega]
            | some o2 =>
              rw [hok2] at hd1
              cases hl2 : listed.getD k false with
              | false => rfl
              | true =>
                exfalso
                unfold waits at hd1
                obtain ⟨e2, he2, hb2⟩ := List.any_eq_true.1 hd1
                simp only [Bool.and_eq_true, beq_iff_eq] at hb2
                have h1 := hk.waited k o2 hok2 hl2 e2 (by simpa using he2) hb2.1
                rw [hb2.2, hlf] at h1
                cases h1)
      unfold wpOp
      simp only [ho]
      have hwant : Region.wanted o (yielded ops a.tmps) = true := by
        unfold Region.wanted
        have hgn : o.guard = none := by
          have h1 := Array.all_eq_true.1 hng i hi'
          have h2 : ops[i] = o := by rw [Array.getElem?_eq_getElem hi'] at ho; exact Option.some.inj ho
          rw [h2] at h1; simpa using h1
        rw [hgn]
      rw [if_pos hwant]
      refine .inl (Does2.wp hd fun v w' ⟨hV, hS', hR⟩ => ih _ _ _ (by simpa using hls) ?_ ?_)
      · have hb : (List.range ops.size).countP (fun j => !(listed.setIfInBounds i true).getD j true) < (List.range ops.size).countP (fun j => !listed.getD j true) := by
          have hsub : ∀ (l : List Nat), l.countP (fun j => !(listed.setIfInBounds i true).getD j true) + (if i ∈ l then 1 else 0) ≤ l.countP (fun j => !listed.getD j true) := by
            intro l
            induction l with
            | nil => simp
            | cons x r ihl =>
              rw [List.countP_cons, List.countP_cons]
              by_cases hx : i = x
              · subst hx
                rw [if_pos List.mem_cons_self]
                have e1 : (listed.setIfInBounds i true).getD i true = true := by
                  simp [show i < listed.size by omega]
                rw [e1, hl]
                have : r.countP (fun j => !(listed.setIfInBounds i true).getD j true) ≤ r.countP (fun j => !listed.getD j true) := by
                  split at ihl <;> omega
                exact Nat.succ_le_succ this
              · rw [getD_set_ne true hx]
                have : (i ∈ x :: r) ↔ i ∈ r := by simp [hx]
                simp only [this]
                omega
          have := hsub (List.range ops.size)
          rw [if_pos (List.mem_range.2 hi')] at this
          omega
        omega
      · -- a slot that isn't written now is as it was
        have hval : ∀ j, j ≠ i → valAt ops (fun t => (a.put o.dst v).eval (.tmp t)) j = valAt ops (fun t => a.eval (.tmp t)) j := by
          intro j hji
          unfold valAt
          cases hj : (ops[j]?).bind (·.dst) with
          | none => rfl
          | some t =>
            refine Act.eval_put fun d hd' => ?_
            intro e
            injection e with e
            subst e
            cases hoj : ops[j]? with
            | none => rw [hoj] at hj; cases hj
            | some oj =>
              rw [hoj] at hj
              exact hji (nodup_filterMap_get hnd j i oj o _ (by simpa using hoj) (by simpa using ho) hj hd')
        have hDne : ∀ k j, ∀ ok : Oper, ops[k]? = some ok → j ∈ D k → j < k := by
          intro k j ok hok hj
          obtain ⟨e, he, hb, rfl⟩ := (hops k ok hok).2.2 j hj
          exact (hops k ok hok).2.1 e he hb
        refine ⟨?_, ?_, ?_, ?_, ?_, hS'⟩
        · rw [← hk.size]; cases o.dst <;> simp [Act.put]
        · rw [← hk.defers]; cases o.dst <;> rfl
        · intro t ht
          rw [← hk.old t ht]
          cases hd' : o.dst with
          | none => rfl
          | some d =>
            have hne : d ≠ t := fun e => ht (mem_dsts.2 ⟨i, o, ho, by rw [hd', e]⟩)
            simp [Act.put, Array.getElem?_setIfInBounds_ne hne]
        · intro j oj hoj hlj e he hb
          by_cases hij : i = j
          · subst hij
            obtain rfl : oj = o := by rw [ho] at hoj; exact (Option.some.inj hoj).symm
            exact getD_set_true (hall e he hb)
          · rw [getD_set_ne false hij] at hlj
            exact getD_set_true (hk.waited j oj hoj hlj e he hb)
        · intro j oj hoj hlj hKj
          by_cases hij : i = j
          · subst hij
            obtain rfl : oj = o := by rw [ho] at hoj; exact (Option.some.inj hoj).symm
            have e1 : (D i).map (valAt ops (fun t => (a.put oj.dst v).eval (.tmp t))) = (D i).map (valAt ops (fun t => a.eval (.tmp t))) :=
              List.map_congr_left fun k hk' => hval k (Nat.ne_of_lt (hDne i k oj ho hk'))
            rw [e1]
            have e2 : valAt ops (fun t => (a.put oj.dst v).eval (.tmp t)) i = if oj.dst.isSome then v else undef := by
              unfold valAt
              rw [ho]
              cases hd' : oj.dst with
              | none => simp [hd']
              | some t =>
                have hts : t < a.tmps.size := by rw [hk.size]; exact hlt t (mem_dsts.2 ⟨i, oj, ho, hd'⟩)
                simp [hd', Act.put, Act.eval, hts]
            rw [e2]; exact hV
          · rw [getD_set_ne false hij] at hlj
            have hiK : i ∉ K j := fun hm => by
              have h1 := hKj i hm
              have hi'' : i < listed.size := by omega
              simp [hi''] at h1
            have hkj := hk.known j oj hoj hlj (fun k hkk => by
              have h1 := hKj k hkk
              by_cases hik : i = k
              · subst hik; exact absurd hkk hiK
              · rwa [getD_set_ne false hik] at h1)
            have hnw : waits oj i = false := by
              cases hw : waits oj i with
              | false => rfl
              | true =>
                exfalso
                unfold waits at hw
                obtain ⟨e, he, hb⟩ := List.any_eq_true.1 hw
                simp only [Bool.and_eq_true, beq_iff_eq] at hb
                have h1 := hk.waited j oj hoj hlj e (by simpa using he) hb.1
                rw [hb.2] at h1
                have hi'' : i < listed.size := by omega
                simp [hi''] at hl h1
                rw [hl] at h1; cases h1
            have e1 : (D j).map (valAt ops (fun t => (a.put o.dst v).eval (.tmp t))) = (D j).map (valAt ops (fun t => a.eval (.tmp t))) :=
              List.map_congr_left fun k hk' => hval k (fun e => by
                subst e
                obtain ⟨e, he, hb, e2⟩ := (hops j oj hoj).2.2 _ hk'
                exact not_waits hnw e he hb e2)
            rw [e1, hval j (fun e => hij e.symm)]
            exact hst j i oj o _ _ _ _ hoj ho (fun e => hij e.symm) hnw hiK hk.s hR hkj
  refine main _ _ _ _ (by simp) ?_ ⟨rfl, rfl, fun _ _ => rfl, fun i o ho hl => ?_, fun i o ho hl _ => ?_, hS⟩
  · exact Nat.le_trans List.countP_le_length (by simp)
  all_goals
    exfalso
    by_cases h : i < ops.size
    · simp [h] at hl
    · simp [h] at hl
end
end Go.Proofs.Ytmcbbccbonadjaa
/- Appends of filters, as operations of a region that draws its order. -/
namespace Go.Proofs.Ytmcbbccbonadjaa
set_option linter.unusedVariables false
open Go.RowKit

theorem Does2.append {P : Program} {o : Oper} {a : Act} {w w' : World} {F : Value → World → Prop} {s x : Operand} {t : TypeId} (ho : o.op = .call { callee := .builtin .append, args := #[s, x], argTypes := #[t, t] }) {v xv v' : Value} (hs : a.eval s = v) (hx : a.eval x = xv)
    (hr : (Builtin.append_ #[t, t] o.type #[v, xv]).run P w = .ok v' w') (h : F v' w') : Does2 P o a w F :=
  Does2.value v' (by
    unfold execOp
    simp only [ho, resolve, invoke, builtin, Sem.run_bind, Sem.run_pure, Result.andThen_ok, List.map_toArray, List.map_cons, List.map_nil, hs, hx, hr]) h
theorem own_mono {w : World} {B B' n size : Nat} {e : TypeId} {v : Value} {xs : List Value} (h : w.ownsRow B e size v n xs) (hB : B' ≤ B) : w.ownsRow B' e size v n xs := by
  refine ⟨h.1, ?_⟩
  rcases h.2 with h2 | ⟨g, cap, cur, e1, h1, h2⟩
  · exact .inl h2
  · exact .inr ⟨g, cap, cur, e1, by omega, h2⟩
theorem below_none {w w' : World} (h : w.grownBy w' none) : Below w.heap.size w w' := (Below.refl w.heap.size w).grown h (Nat.le_refl _) (fun _ e => by cases e)
/-- A row of filters of one's own. -/
def OwF (w : World) (B : Nat) (v : Value) (fs : List Flt) : Prop := ∃ g c, v = .slice (some ⟨g, 0, none⟩) fs.length c ∧ w.ownsRow B 25 2 (.slice (some ⟨g, 0, none⟩) fs.length c) fs.length (fv fs) ∧ (fs.length = 0 → c = 0)
theorem OwF.of {w : World} {B n : Nat} {v : Value} {fs : List Flt} (h : w.ownsRow B 25 2 v n (fv fs)) (hn : fs.length = n) (h0 : 0 < n) : OwF w B v fs := by
  subst hn
  have h' := h
  rcases h.2 with ⟨_, e⟩ | ⟨g, cap, cur, rfl, _⟩
  · omega
  · exact ⟨g, cap, rfl, h', fun e => by omega⟩
theorem Fls.cells {w : World} {a : Option Addr} {fs : List Flt} (h : Fls w a fs) (h0 : 0 < fs.length) : ∃ b off, a = some ⟨b, off, none⟩ ∧ ∀ j u, (fv fs)[j]? = some u → w.cell? ((⟨b, off, none⟩ : Addr).add j) = some u := by
  obtain ⟨b, off, rfl, hc⟩ := h.at h0
  refine ⟨b, off, rfl, fun j u hu => ?_⟩
  have hj : j < fs.length * 2 := by rw [← fv_len]; exact (List.getElem?_eq_some_iff.1 hu).1
  have hk : fs[j / 2]? = some fs[j / 2] := List.getElem?_eq_getElem (by omega)
  have h1 := fv_at fs (j / 2) _ hk (j % 2) (by omega)
  rw [show j / 2 * 2 + j % 2 = j by omega, hu] at h1
  obtain ⟨⟨d0, d1⟩, -⟩ := hc (j / 2) _ hk
  rw [add_flat]
  rcases (show j % 2 = 0 ∨ j % 2 = 1 by omega) with e | e
  · rw [e] at h1; simp at h1; subst h1; rw [show off + j = off + j / 2 * 2 by omega]; exact d0
  · rw [e] at h1; simp at h1; subst h1; rw [show off + j = off + j / 2 * 2 + 1 by omega]; exact d1
theorem fv_one (fs : List Flt) : ∀ u ∈ fv fs, u.oneCell' = true := by
  intro u hu
  obtain ⟨f, _, h⟩ := List.mem_flatMap.1 hu
  simp only [List.mem_cons, List.not_mem_nil, or_false] at h
  rcases h with rfl | rfl <;> rfl
/-- append([]api.Filter{}, l...) -/
theorem app_first {w : World} {B g : Nat} {a : Option Addr} {n c : Nat} {fs : List Flt} (ty : TypeId) (hown : w.ownsRow B 25 2 (.slice (some ⟨g, 0, none⟩) 0 0) 0 []) (hn : fs.length = n) (hl : n ≤ 100000) (hF : Fls w a fs) (hna : a = none → c = 0) (hB : B ≤ w.heap.size) :
    ∃ v' w', (Builtin.append_ #[22, 22] ty #[.slice (some ⟨g, 0, none⟩) 0 0, .slice a n c]).run Try.prog w = .ok v' w' ∧ OwF w' B v' fs ∧ Below w.heap.size w w' := by
  obtain ⟨i0, hi, hz0, hz1, hz2⟩ := info_parts infoF
  by_cases h0 : n = 0
  · subst h0
    obtain rfl : fs = [] := List.eq_nil_of_length_eq_zero hn
    cases a with
    | none =>
      rw [hna rfl]
      exact ⟨_, w, run_append_owned_none (P := Try.prog) w B 22 ty 25 i0 2 Try.underlying22 hi _ 0 [] hown, ⟨g, 0, rfl, hown, fun _ => rfl⟩, Below.refl _ _⟩
    | some ad =>
      have hr := run_append_room_cells (P := Try.prog) w 22 ty 25 i0 Try.underlying22 hi g 0 0 0 ad 0 c [] (by simp) (by simp) (by simp) (by omega) (by simp) (by simp)
      exact ⟨_, w, hr, ⟨g, 0, rfl, hown, fun _ => rfl⟩, Below.refl _ _⟩
  · obtain ⟨b, off, rfl, hc⟩ := hF.cells (by omega)
    obtain ⟨v', w', hr, ho, hg⟩ := run_append_arg_grows (P := Try.prog) w 22 ty 25 i0 _ 2 32 Try.underlying22 hi hz0 hz1 hz2 rfl (by decide) ⟨g, 0, none⟩ 0 0 [] (by simp) (by simp) ⟨b, off, none⟩ n c (fv fs) (by rw [fv_len, hn]) hc (by omega) (by unfold maxLen; omega) (by omega)
    rw [Nat.zero_add, List.nil_append] at ho
    exact ⟨v', w', hr, OwF.of (own_mono ho hB) hn (by omega), below_none hg⟩
/-- append(own, f) -/
theorem app_next {w : World} {B : Nat} {v : Value} {fs : List Flt} {f : Flt} {g4 : Nat} (ty : TypeId) (hown : OwF w B v fs) (hl : fs.length ≤ 100000) (hc : ∀ j u, ([.bool f.ex, f.sl] : List Value)[j]? = some u → w.cell? ((⟨g4, 0, none⟩ : Addr).add j) = some u) (hB : B ≤ w.heap.size) :
    ∃ a' c' w', (Builtin.append_ #[22, 22] ty #[v, .slice (some ⟨g4, 0, none⟩) 1 1]).run Try.prog w = .ok (.slice a' (fs.length + 1) c') w' ∧ w'.ownsRow B 25 2 (.slice a' (fs.length + 1) c') (fs.length + 1) (fv (fs ++ [f])) ∧ Below B w w' ∧ ∀ D, FBx w D → FBx w' D := by
  obtain ⟨i0, hi, hz0, hz1, hz2⟩ := info_parts infoF
  obtain ⟨g, c, rfl, ho, h0⟩ := hown
  rw [fv_snoc]
  by_cases hroom : fs.length + 1 ≤ c
  · obtain ⟨w', hr, ho', hg⟩ := run_append_own_spare (P := Try.prog) w B 22 ty 25 i0 2 Try.underlying22 hi hz1 g fs.length c (fv fs) ho ⟨g4, 0, none⟩ 1 1 [.bool f.ex, f.sl] rfl hc (by intro u hu; simp only [List.mem_cons, List.not_mem_nil, or_false] at hu; rcases hu with rfl | rfl <;> rfl) hroom
    refine ⟨_, c, w', hr, ho', grown_below ho hg hB, fun D ⟨b, x, y, z, hD⟩ => ?_⟩
    rcases ho.2 with ⟨h1, _⟩ | ⟨g', cap, cur, h1, _, h2, _, _, h3, _⟩
    · cases h1
    · cases h1
      refine ⟨b, x, y, z, (hg.block D (Array.getElem?_eq_some_iff.1 hD).1 ?_).trans hD⟩
      intro e
      cases e
      rw [h2] at hD
      simp only [Option.some.injEq, Obj.cells.injEq] at hD
      have h5 := congrArg Array.size hD.1
      rw [h3] at h5
      simp at h5
      omega
  · obtain ⟨v', w', hr, ho', hg⟩ := run_append_arg_grows (P := Try.prog) w 22 ty 25 i0 _ 2 32 Try.underlying22 hi hz0 hz1 hz2 rfl (by decide) ⟨g, 0, none⟩ fs.length c (fv fs) (by rw [fv_len]) (ho.cells (g := g) rfl) ⟨g4, 0, none⟩ 1 1 [.bool f.ex, f.sl] rfl hc (by omega) (by unfold maxLen; omega) (by omega)
    obtain ⟨a', c', rfl, -⟩ := own_sl ho'
    have hb := below_none hg
    exact ⟨a', c', w', hr, own_mono ho' hB, hb.mono hB, fun D ⟨b, x, y, z, hD⟩ => ⟨b, x, y, z, (hb.block D (Array.getElem?_eq_some_iff.1 hD).1).trans hD⟩⟩
end Go.Proofs.Ytmcbbccbonadjaa
