/- A region that draws its order and ends in one operation that waits for all the others: no program in it. -/
import Derived.Test.YtllpmepmgnnoaaaY0
import Derived.Test.YtllpmepmgnnoaaaY1
import Derived.Test.YtllpmepmgnnoaaaY2
import Derived.Test.YtllpmepmgnnoaaaY3
import Derived.Test.YtllpmepmgnnoaaaY4
import Derived.Test.YtllpmepmgnnoaaaY5
import Derived.Test.YtllpmepmgnnoaaaY6
import Derived.Test.YtllpmepmgnnoaaaY7
import Derived.Test.YtllpmepmgnnoaaaY8
namespace Go.Proofs.Ytllpmepmgnnoaaa
set_option linter.unusedVariables false

/-- Each operation but the last is waited for by one behind it. -/
def okLast (ops : Array Oper) : Bool :=
  (List.range ops.size).all fun i => (i + 1 == ops.size) || (List.range ops.size).any fun k => decide (i < k) && (match ops[k]? with | none => false | some o => waits o i)
section
variable {P : Program} {ops : Array Oper} {Q : Exit → Act → World → Prop}
/-- What is known of a state in which the operations 'listed' have come up. -/
structure Known6 (ops : Array Oper) (V : Nat → Value → List Value → World → Prop) (S : World → Prop) (D : Nat → List Nat) (a0 : Act) (listed : Array Bool) (a : Act) (w : World) : Prop where
  size : a.tmps.size = a0.tmps.size
  defers : a.defers = a0.defers
  old : ∀ t, t ∉ dsts ops → a.tmps[t]? = a0.tmps[t]?
  waited : ∀ (i : Nat) (o : Oper), ops[i]? = some o → listed.getD i false = true → ∀ e ∈ o.after, Region.binds .any e = true → listed.getD e.on false = true
  known : ∀ (i : Nat) (o : Oper), ops[i]? = some o → listed.getD i false = true → (i + 1 = ops.size ∨ listed.getD (ops.size - 1) false = false) → V i (valAt ops (fun t => a.eval (.tmp t)) i) ((D i).map (valAt ops (fun t => a.eval (.tmp t)))) w
  s : listed.getD (ops.size - 1) false = false → S w
theorem Known6.all {ops : Array Oper} {V : Nat → Value → List Value → World → Prop} {S : World → Prop} {D : Nat → List Nat} {a0 : Act} {listed : Array Bool} {a : Act} {w : World} (h : Known6 ops V S D a0 listed a w) (hl : okLast ops = true)
    (hL : listed.getD (ops.size - 1) false = true) : ∀ i, i < ops.size → listed.getD i false = true := by
  have main : ∀ m i, i < ops.size → ops.size - i ≤ m → listed.getD i false = true := by
    intro m
    induction m with
    | zero => intro i hi hm; omega
    | succ m ih =>
      intro i hi hm
      by_cases he : i + 1 = ops.size
      · rw [show i = ops.size - 1 by omega]; exact hL
      · have h1 := List.all_eq_true.1 hl i (List.mem_range.2 hi)
        rw [Bool.or_eq_true] at h1
        rcases h1 with h1 | h1
        · exact absurd (by simpa using h1) he
        · obtain ⟨k, hk, h2⟩ := List.any_eq_true.1 h1
          rw [Bool.and_eq_true] at h2
          have hik : i < k := by simpa using h2.1
          have hkn : k < ops.size := List.mem_range.1 hk
          have hkl := ih k hkn (by omega)
          have h3 := h2.2
          rw [Array.getElem?_eq_getElem hkn] at h3
          simp only at h3
          unfold waits at h3
          obtain ⟨e, he2, hb⟩ := List.any_eq_true.1 h3
          simp only [Bool.and_eq_true, beq_iff_eq] at hb
          have h4 := h.waited k ops[k] (Array.getElem?_eq_getElem hkn) hkl e (by simpa using he2) hb.1
          rw [hb.2] at h4
          exact h4
  exact fun i hi => main ops.size i hi (by omega)
/-- **A region that draws its order, whose last operation waits for all.** V i v us: what is known behind operation i; S: what holds ahead of the last one; R j: how operation j turns the world. Behind the last one only its own V is known. -/
theorem wp_region_last {id : Nat} {a0 : Act} {w0 : World} (V : Nat → Value → List Value → World → Prop) (S : World → Prop) (R : Nat → World → World → Prop) (D : Nat → List Nat) (L : List Nat) (hL : dsts ops = L)
    (hm : P.follows .mixedOrders = true) (hok : okRegion3 ops a0.tmps.size D = true) (hng : ops.all (fun o => o.guard.isNone) = true) (hla : okLast ops = true) (hpos : 0 < ops.size) (hS : S w0.drew)
    (hst : ∀ (i j : Nat) (oi oj : Oper) v us w w', ops[i]? = some oi → ops[j]? = some oj → i ≠ j → i + 1 ≠ ops.size → waits oi j = false → S w → R j w w' → V i v us w → V i v us w')
    (hop : EachOp (fun i o => ∀ a w, S w → (∀ t, (dsts ops).contains t = false → a.eval (.tmp t) = a0.eval (.tmp t)) →
      (∀ j ∈ D i, V j (valAt ops (fun t => a.eval (.tmp t)) j) ((D j).map (valAt ops (fun t => a.eval (.tmp t)))) w) →
      Does2 P o a w fun v w' => V i (if o.dst.isSome then v else undef) ((D i).map (valAt ops (fun t => a.eval (.tmp t)))) w' ∧ (i + 1 ≠ ops.size → S w' ∧ R i w w')) 0 ops.toList)
    (hend : ∀ f w, V (ops.size - 1) (valAt ops f (ops.size - 1)) ((D (ops.size - 1)).map (valAt ops f)) w → Q .normal (putAll f L a0) w) : (Code.region id ops true).wp P Q a0 w0 := by
  subst hL
  obtain ⟨hnd, hlt, hops⟩ := okRegion3.parts hok
  refine wp_region_any hm ?_
  have main : ∀ (fuel : Nat) (listed : Array Bool) (a : Act) (w : World), listed.size = ops.size → (List.range ops.size).countP (fun i => !listed.getD i true) ≤ fuel → Known6 ops V S D a0 listed a w → wpAny P .any ops Q fuel listed a w := by
    have fin : ∀ (listed : Array Bool) (a : Act) (w : World), listed.size = ops.size → Known6 ops V S D a0 listed a w → Region.ready .any ops listed = [] → Q .normal a w := by
      intro listed a w hls hk hr
      have all : ∀ (i : Nat) (o : Oper), ops[i]? = some o → listed.getD i false = true := by
        intro i
        induction i using Nat.strongRecOn with
        | _ i ih =>
          intro o ho
          have hi : i < ops.size := (Array.getElem?_eq_some_iff.1 ho).1
          cases hl : listed.getD i false with
          | true => rfl
          | false =>
            have hmem : i ∈ Region.ready .any ops listed := by
              rw [mem_ready]
              refine ⟨?_, o, ho, fun e he hb => ?_⟩
              · have hi' : i < listed.size := by omega
                simp [hi'] at hl ⊢; exact hl
              · have hlt' := (hops i o ho).2.1 e he hb
                exact ih e.on hlt' ops[e.on] (Array.getElem?_eq_getElem (by omega))
            rw [hr] at hmem; cases hmem
      have e : a = putAll (fun t => a.eval (.tmp t)) (dsts ops) a0 := by
        have h1 : a.tmps = (putAll (fun t => a.eval (.tmp t)) (dsts ops) a0).tmps := by
          apply Array.ext_getElem?
          intro t
          rw [putAll_get]
          by_cases ht : t ∈ dsts ops
          · have hts := hlt t ht
            rw [if_pos ⟨ht, hts⟩]
            have : t < a.tmps.size := by rw [hk.size]; exact hts
            simp [Act.eval, this]
          · rw [if_neg (fun h => ht h.1)]; exact hk.old t ht
        have h2 : a.defers = (putAll (fun t => a.eval (.tmp t)) (dsts ops) a0).defers := by rw [putAll_defers]; exact hk.defers
        generalize putAll (fun t => a.eval (.tmp t)) (dsts ops) a0 = b at *
        obtain ⟨x, y⟩ := a
        obtain ⟨x', y'⟩ := b
        simp only at h1 h2
        subst h1 h2; rfl
      rw [e]
      exact hend _ _ (hk.known (ops.size - 1) ops[ops.size - 1] (Array.getElem?_eq_getElem (by omega)) (all _ _ (Array.getElem?_eq_getElem (by omega))) (.inl (by omega)))
    intro fuel
    induction fuel with
    | zero =>
      intro listed a w hls hc hk
      have hr : Region.ready .any ops listed = [] := by
        cases hr : Region.ready .any ops listed with
        | nil => rfl
        | cons i r =>
          have hi : i ∈ Region.ready .any ops listed := by rw [hr]; exact List.mem_cons_self
          obtain ⟨hl, o, ho, _⟩ := mem_ready.1 hi
          have : 0 < (List.range ops.size).countP (fun i => !listed.getD i true) :=
            List.countP_pos_iff.2 ⟨i, List.mem_range.2 (Array.getElem?_eq_some_iff.1 ho).1, by rw [hl]; rfl⟩
          omega
      exact ⟨hr, fin listed a w hls hk hr⟩
    | succ fuel ih =>
      intro listed a w hls hc hk
      refine ⟨fin listed a w hls hk, fun i hi => ?_⟩
      obtain ⟨hl, o, ho, hall⟩ := mem_ready.1 hi
      have hi' : i < ops.size := (Array.getElem?_eq_some_iff.1 ho).1
      obtain ⟨hg, hlt', hD⟩ := hops i o ho
      have hdo := EachOp.get hop i o (by simpa using ho)
      rw [Nat.zero_add] at hdo
      have hlf : listed.getD i false = false := by
        have hi'' : i < listed.size := by omega
        simp [hi''] at hl ⊢; exact hl
      have hLf : listed.getD (ops.size - 1) false = false := by
        cases hx : listed.getD (ops.size - 1) false with
        | false => rfl
        | true => rw [hk.all hla hx i hi'] at hlf; cases hlf
      have hd := hdo a w (hk.s hLf) (fun t ht => by
          have hn : t ∉ dsts ops := by
            intro hm; rw [List.contains_iff_mem.2 hm] at ht; cases ht
          have := hk.old t hn
          simp only [Act.eval, Array.getD_eq_getD_getElem?, this])
        (fun j hj => by
          obtain ⟨e, he, hb, rfl⟩ := hD j hj
          have hlt := hlt' e he hb
          exact hk.known e.on ops[e.on] (Array.getElem?_eq_getElem (by omega)) (hall e he hb) (.inr hLf))
      unfold wpOp
      simp only [ho]
      have hwant : Region.wanted o (yielded ops a.tmps) = true := by
        unfold Region.wanted
        have hgn : o.guard = none := by
          have h1 := Array.all_eq_true.1 hng i hi'
          have h2 : ops[i] = o := by rw [Array.getElem?_eq_getElem hi'] at ho; exact Option.some.inj ho
          rw [h2] at h1; simpa using h1
        rw [hgn]
      rw [if_pos hwant]
      refine .inl (Does2.wp hd fun v w' ⟨hV, hSR⟩ => ih _ _ _ (by simpa using hls) ?_ ?_)
      · have hb : (List.range ops.size).countP (fun j => !(listed.setIfInBounds i true).getD j true) < (List.range ops.size).countP (fun j => !listed.getD j true) := by
          have hsub : ∀ (l : List Nat), l.countP (fun j => !(listed.setIfInBounds i true).getD j true) + (if i ∈ l then 1 else 0) ≤ l.countP (fun j => !listed.getD j true) := by
            intro l
            induction l with
            | nil => simp
            | cons x r ihl =>
              rw [List.countP_cons, List.countP_cons]
              by_cases hx : i = x
              · subst hx
                rw [if_pos List.mem_cons_self]
                have e1 : (listed.setIfInBounds i true).getD i true = true := by
                  simp [show i < listed.size by omega]
                rw [e1, hl]
                have : r.countP (fun j => !(listed.setIfInBounds i true).getD j true) ≤ r.countP (fun j => !listed.getD j true) := by
                  split at ihl <;> omega
                exact Nat.succ_le_succ this
              · rw [getD_set_ne true hx]
                have : (i ∈ x :: r) ↔ i ∈ r := by simp [hx]
                simp only [this]
                omega
          have := hsub (List.range ops.size)
          rw [if_pos (List.mem_range.2 hi')] at this
          omega
        omega
      · -- a slot that isn't written now is as it was
        have hval : ∀ j, j ≠ i → valAt ops (fun t => (a.put o.dst v).eval (.tmp t)) j = valAt ops (fun t => a.eval (.tmp t)) j := by
          intro j hji
          unfold valAt
          cases hj : (ops[j]?).bind (·.dst) with
          | none => rfl
          | some t =>
            refine Act.eval_put fun d hd' => ?_
            intro e
            injection e with e
            subst e
            cases hoj : ops[j]? with
            | none => rw [hoj] at hj; cases hj
            | some oj =>
              rw [hoj] at hj
              exact hji (nodup_filterMap_get hnd j i oj o _ (by simpa using hoj) (by simpa using ho) hj hd')
        have hDne : ∀ k j, ∀ ok : Oper, ops[k]? = some ok → j ∈ D k → j < k := by
          intro k j ok hok hj
          obtain ⟨e, he, hb, rfl⟩ := (hops k ok hok).2.2 j hj
          exact (hops k ok hok).2.1 e he hb
        have hnl : (listed.setIfInBounds i true).getD (ops.size - 1) false = false → i + 1 ≠ ops.size := by
          intro h he
          have e1 : ops.size - 1 = i := by omega
          rw [e1] at h
          have hi'' : i < listed.size := by omega
          simp [hi''] at h
        refine ⟨?_, ?_, ?_, ?_, ?_, fun h => (hSR (hnl h)).1⟩
        · rw [← hk.size]; cases o.dst <;> simp [Act.put]
        · rw [← hk.defers]; cases o.dst <;> rfl
        · intro t ht
          rw [← hk.old t ht]
          cases hd' : o.dst with
          | none => rfl
          | some d =>
            have hne : d ≠ t := fun e => ht (mem_dsts.2 ⟨i, o, ho, by rw [hd', e]⟩)
            simp [Act.put, Array.getElem?_setIfInBounds_ne hne]
        · intro j oj hoj hlj e he hb
          by_cases hij : i = j
          · subst hij
            obtain rfl : oj = o := by rw [ho] at hoj; exact (Option.some.inj hoj).symm
            exact getD_set_true (hall e he hb)
          · rw [getD_set_ne false hij] at hlj
            exact getD_set_true (hk.waited j oj hoj hlj e he hb)
        · intro j oj hoj hlj hcase
          by_cases hij : i = j
          · subst hij
            obtain rfl : oj = o := by rw [ho] at hoj; exact (Option.some.inj hoj).symm
            have e1 : (D i).map (valAt ops (fun t => (a.put oj.dst v).eval (.tmp t))) = (D i).map (valAt ops (fun t => a.eval (.tmp t))) :=
              List.map_congr_left fun k hk' => hval k (Nat.ne_of_lt (hDne i k oj ho hk'))
            rw [e1]
            have e2 : valAt ops (fun t => (a.put oj.dst v).eval (.tmp t)) i = if oj.dst.isSome then v else undef := by
              unfold valAt
              rw [ho]
              cases hd' : oj.dst with
              | none => simp [hd']
              | some t =>
                have hts : t < a.tmps.size := by rw [hk.size]; exact hlt t (mem_dsts.2 ⟨i, oj, ho, hd'⟩)
                simp [hd', Act.put, Act.eval, hts]
            rw [e2]; exact hV
          · rw [getD_set_ne false hij] at hlj
            have hn : i + 1 ≠ ops.size := by
              rcases hcase with hc | hc
              · intro _
                have e1 : ops.size - 1 = j := by omega
                rw [e1, hlj] at hLf
                cases hLf
              · exact hnl hc
            have hkj := hk.known j oj hoj hlj (.inr hLf)
            have hnw : waits oj i = false := by
              cases hw : waits oj i with
              | false => rfl
              | true =>
                exfalso
                unfold waits at hw
                obtain ⟨e, he, hb⟩ := List.any_eq_true.1 hw
                simp only [Bool.and_eq_true, beq_iff_eq] at hb
                have h1 := hk.waited j oj hoj hlj e (by simpa using he) hb.1
                rw [hb.2] at h1
                have hi'' : i < listed.size := by omega
                simp [hi''] at hl h1
                rw [hl] at h1; cases h1
            have e1 : (D j).map (valAt ops (fun t => (a.put o.dst v).eval (.tmp t))) = (D j).map (valAt ops (fun t => a.eval (.tmp t))) :=
              List.map_congr_left fun k hk' => hval k (fun e => by
                subst e
                obtain ⟨e, he, hb, e2⟩ := (hops j oj hoj).2.2 _ hk'
                exact not_waits hnw e he hb e2)
            rw [e1, hval j (fun e => hij e.symm)]
            exact hst j i oj o _ _ _ _ hoj ho (fun e => hij e.symm) (fun e => by rw [show ops.size - 1 = j by omega, hlj] at hLf; cases hLf) hnw (hk.s hLf) (hSR hn).2 hkj
  refine main _ _ _ _ (by simp) ?_ ⟨rfl, rfl, fun _ _ => rfl, fun i o ho hl => ?_, fun i o ho hl _ => ?_, fun _ => hS⟩
  · exact Nat.le_trans List.countP_le_length (by simp)
  all_goals
    exfalso
    by_cases h : i < ops.size
    · simp [h] at hl
    · simp [h] at hl
end
end Go.Proofs.Ytllpmepmgnnoaaa
/- Exclude. -/
namespace Go.Proofs.Ytllpmepmgnnoaaa
set_option linter.unusedVariables false
open Go.RowKit

theorem vev {a : Act} {t : Nat} {v : Value} (h : a.eval (.tmp t) = v) : a.tmps[t]?.getD undef = v := by simpa [Act.eval] using h
theorem vown_as {w : World} {B : Nat} {a : Option Addr} {c : Nat} {xs : List Int} (h : w.ownsRow B 26 1 (.slice a xs.length c) xs.length (va xs)) (hA : IsA xs) : As w a xs := (AsO.of rfl h).as hA
def exV (N : Nat) (W0 : World) (a : Option Addr) (n c : Nat) (b : Option Addr) (ln lc : Nat) (s : List Hd) (xs : List Int) : Nat → Value → List Value → World → Prop
  | 0, v, _, _ => v = .slice b ln lc
  | 1, v, _, _ => v = .pointer (some ⟨N, 0, none⟩)
  | 2, v, _, _ => v = .pointer (some ⟨N, 3, none⟩)
  | 3, v, _, _ => v = .slice a n c
  | 4, v, _, w => ∃ (a12 : Option Addr) (c12 : Nat), v = .slice a12 (ad s).length c12 ∧ As w a12 (ad s)
  | 5, v, _, w => ∃ (a13 : Option Addr) (c13 : Nat), v = .slice a13 (dif xs (ad s)).length c13 ∧ w.ownsRow 0 26 1 (.slice a13 (dif xs (ad s)).length c13) (dif xs (ad s)).length (va (dif xs (ad s))) ∧ Below W0.heap.size W0 w
  | 6, v, _, w => ∃ (a13 : Option Addr) (c13 : Nat), v = .slice a13 (dif xs (ad s)).length c13 ∧ w.ownsRow 0 26 1 (.slice a13 (dif xs (ad s)).length c13) (dif xs (ad s)).length (va (dif xs (ad s))) ∧ Below W0.heap.size W0 w
  | _, _, _, _ => True
def exD : Nat → List Nat
  | 2 => [1]
  | 3 => [2]
  | 4 => [3]
  | 5 => [0, 4]
  | 6 => [5]
  | _ => []
theorem ex_st (N : Nat) (W0 : World) (a : Option Addr) (n c : Nat) (b : Option Addr) (ln lc : Nat) (s : List Hd) (xs : List Int) {i : Nat} {v : Value} {us : List Value} {w w' : World} (hr : Below w.heap.size w w') (hv : exV N W0 a n c b ln lc s xs i v us w) : exV N W0 a n c b ln lc s xs i v us w' := by
  unfold exV at hv ⊢
  split at hv
  all_goals first
    | exact hv
    | (obtain ⟨x, y, e, h⟩ := hv; exact ⟨x, y, e, h.below hr⟩)
    | (obtain ⟨x, y, e, h, k⟩ := hv; exact ⟨x, y, e, own_grown h hr (Nat.le_refl _), k.trans (hr.mono k.size)⟩)
set_option maxRecDepth 100000 in
set_option maxHeartbeats 16000000 in
theorem mExclude (g : Int) (ex : Bool) (left : Int) (a : Option Addr) (n c : Nat) (kp la : Int) (aq : Option Addr) (nq cq : Nat) (s : List Hd) (b : Option Addr) (ln lc : Nat) (xs : List Int) (T : Int) (w : World)
    (hx : s.length = n) (hn : n ≤ 10000) (hH : Hs w a s) (hi : Inc (ad s)) (hl : xs.length = ln) (hln : ln ≤ 10000) (hA : As w b xs) (hxi : Inc xs) (hT : -9223372036854775808 ≤ T ∧ T ≤ 9223372036854775807) :
    Calls Try.prog 94 #[.agg #[.int .u32 g, .bool ex, .int .i64 left, .slice a n c, .int .i64 kp, .int .i64 la, .slice aq nq cq], .slice b ln lc, .int .i64 T] w fun e w' =>
      OutHr w e w' g true kp (keepS (s.filter fun x => decide (x.1 ∈ xs)) (dif xs (ad s)) T) kp la (.slice aq nq cq) := by
  have hn : n ≤ 100000 := by omega
  have HX := Lib.hid hx
  have HH := Lib.hid hH
  have HI := Lib.hid hi
  have HL := Lib.hid hl
  have HA := Lib.hid hA
  have HXI := Lib.hid hxi
  have HT := Lib.hid hT
  clear hx hH hi hl hA hxi hT
  obtain ⟨w3, hw3⟩ : ∃ w3, w3 = ((w.alloc (.cells #[.int .u32 g, .bool ex, .int .i64 left, .slice a n c, .int .i64 kp, .int .i64 la, .slice aq nq cq] 106)).alloc (.cells #[.slice b ln lc] 27)).alloc (.cells #[.int .u32 0, .bool false, .int .i64 0, .slice none 0 0, .int .i64 0, .int .i64 0, .slice none 0 0] 106) := ⟨_, rfl⟩
  obtain ⟨hs3, v0, l1, v2, hB3⟩ := mk3 w g ex left a n c kp la aq nq cq b ln lc w3 hw3
  have HS3 := Lib.hid hs3
  have HB3 := Lib.hid hB3
  have V0 := Lib.hid v0
  have L1 := Lib.hid l1
  have V2 := Lib.hid v2
  have HH3 := Lib.hid (HH.out.below HB3.out)
  have HA3 := Lib.hid (HA.out.below HB3.out)
  clear hs3 v0 l1 v2 hB3
  go_enter Try.func94, Try.ntmps94
  go_wp2
  rw [← hw3]
  clear hw3
  refine wp_region_last (exV w.heap.size w3 a n c b ln lc s xs) (fun W => Below w3.heap.size w3 W) (fun _ A B => Below A.heap.size A B) exD [8, 9, 10, 11, 12, 13, 7] (by kernel_rfl) (by kernel_rfl) (by kernel_rfl) (by kernel_rfl) (by kernel_rfl) (by decide) (Below.refl _ w3).drew
    (fun i j oi oj v us A B hoi hoj hij hni hw hSA hr hv => ex_st _ _ _ _ _ _ _ _ _ _ hr hv)
    ⟨?_, ?_, ?_, ?_, ?_, ?_, ?_, trivial⟩ ?hend
  case refine_1 =>
    intro a' w9 hS h0 hd
    have e4 : a'.tmps[4]?.getD undef = .pointer (some ⟨w.heap.size + 1, 0, none⟩) := vev (h0 4 (by kernel_rfl))
    have c0 := (hS.cell (cell_lt L1.out)).trans L1.out
    refine Does2.value (.slice b ln lc) (w' := w9) ?_ ⟨rfl, fun _ => ⟨hS, Below.refl _ _⟩⟩
    clear hS h0 hd
    go_simp
  case refine_2 =>
    intro a' w9 hS h0 hd
    have e3 : a'.tmps[3]?.getD undef = .pointer (some ⟨w.heap.size, 0, none⟩) := vev (h0 3 (by kernel_rfl))
    refine Does2.value (.pointer (some ⟨w.heap.size, 0, none⟩)) (w' := w9) ?_ ⟨rfl, fun _ => ⟨hS, Below.refl _ _⟩⟩
    clear hS h0 hd
    go_simp
  case refine_3 =>
    intro a' w9 hS h0 hd
    have e9 : a'.tmps[9]?.getD undef = .pointer (some ⟨w.heap.size, 0, none⟩) := vev (hd 1 List.mem_cons_self)
    refine Does2.value (.pointer (some ⟨w.heap.size, 3, none⟩)) (w' := w9) ?_ ⟨rfl, fun _ => ⟨hS, Below.refl _ _⟩⟩
    clear hS h0 hd
    go_simp
  case refine_4 =>
    intro a' w9 hS h0 hd
    have e10 : a'.tmps[10]?.getD undef = .pointer (some ⟨w.heap.size, 3, none⟩) := vev (hd 2 List.mem_cons_self)
    obtain ⟨c0, c1, c2, c3, c4, c5, c6, f0, f1, f2, f3, f4, f5, f6⟩ := (V0.out.below hS V0.out.lt).cells
    refine Does2.value (.slice a n c) (w' := w9) ?_ ⟨rfl, fun _ => ⟨hS, Below.refl _ _⟩⟩
    clear hS h0 hd
    go_simp
  case refine_5 =>
    intro a' w9 hS h0 hd
    have e11 : a'.tmps[11]?.getD undef = .slice a n c := vev (hd 3 List.mem_cons_self)
    refine Does2.call 97 #[.slice a n c] (w' := w9) ?_ ((mAddrs a n c s w9 HX.out hn (HH3.out.below hS)).mono ?_)
    · clear hS h0 hd
      go_simp
    · rintro e w8 ⟨⟨a8, c8, rfl, hA8, hf8, ho8⟩, hb⟩
      exact ⟨_, rfl, ⟨a8, c8, rfl, hA8⟩, fun _ => ⟨hS.trans (hb.mono hS.size), hb⟩⟩
  case refine_6 =>
    intro a' w9 hS h0 hd
    have e8 : a'.tmps[8]?.getD undef = .slice b ln lc := vev (hd 0 List.mem_cons_self)
    obtain ⟨a12, c12, e12, h12⟩ := hd 4 (List.mem_cons_of_mem _ List.mem_cons_self)
    replace e12 := vev e12
    refine Does2.call 68 #[.slice b ln lc, .slice a12 (ad s).length c12] (w' := w9) ?_ ((vMinus b a12 ln _ lc c12 xs (ad s) w9 HL.out rfl (by omega) (by rw [ad_len, HX.out]; omega) (HA3.out.below hS) h12).mono ?_)
    · clear hS h0 hd
      go_simp
    · rintro e w8 ⟨⟨a8, c8, rfl, hA8, hf8, ho8⟩, hb⟩
      exact ⟨_, rfl, ⟨a8, c8, rfl, vown_le ho8 (Nat.zero_le _), hS.trans (hb.mono hS.size)⟩, fun _ => ⟨hS.trans (hb.mono hS.size), hb⟩⟩
  case refine_7 =>
    intro a' w9 hS h0 hd
    obtain ⟨a13, c13, e13, h13, h14⟩ := hd 5 List.mem_cons_self
    replace e13 := vev e13
    refine Does2.value (.slice a13 (dif xs (ad s)).length c13) (w' := w9) ?_ ⟨⟨a13, c13, rfl, h13, h14⟩, fun h => absurd rfl h⟩
    clear hS h0 hd h13 h14
    go_simp
  case hend =>
    intro f w9 hv
    obtain ⟨a7, c7, v7, h7, hB7⟩ := hv
    replace v7 : f 7 = .slice a7 (dif xs (ad s)).length c7 := v7
    simp only [putAll, Act.put, List.setIfInBounds_toArray, List.set_cons_zero, List.set_cons_succ, v7]
    have V09 := Lib.hid (V0.out.below hB7 V0.out.lt)
    have V29 := Lib.hid (V2.out.below hB7 V2.out.lt)
    have L19 := Lib.hid ((hB7.cell (cell_lt L1.out)).trans L1.out)
    have HB9 := Lib.hid (HB3.out.trans (hB7.mono HB3.out.size))
    have HO7 := Lib.hid h7
    have HZ9 : Hid (w.heap.size + 3 ≤ w9.heap.size) := Lib.hid (by have := hB7.size; have := HS3.out; omega)
    clear v7 h7 hB7 V0 V2 L1 HB3 HH3 HA3
    obtain ⟨c0, c1, c2, c3, c4, c5, c6, f0, f1, f2, f3, f4, f5, f6⟩ := V09.out.cells
    go_wp2_with fail
    have BS := (But1.set w9 w.heap.size 1 (.bool true)).trans (But1.set _ w.heap.size 2 (.int .i64 kp))
    have VS := Lib.hid ((V09.out.set1 true).set2 kp)
    have V2S := Lib.hid (V29.out.but BS (by omega))
    have L1S := Lib.hid ((BS.cell (cell_lt L19.out) (by show w.heap.size + 1 ≠ w.heap.size; omega)).trans L19.out)
    have HOS := Lib.hid (vown_ty HO7.out V09.out (by decide) BS)
    have HBS := Lib.hid (HB9.out.trans (BS.below (Nat.le_refl _) HB9.out.size))
    have HZS : Hid (w.heap.size + 3 ≤ ((w9.setCell ⟨w.heap.size, 1, none⟩ (.bool true)).setCell ⟨w.heap.size, 2, none⟩ (.int .i64 kp)).heap.size) := Lib.hid (Nat.le_trans HZ9.out BS.size)
    clear c0 c1 c2 c3 c4 c5 c6 f0 f1 f2 f3 f4 f5 f6 BS V09 V29 L19 HO7 HB9 HZ9
    generalize (w9.setCell ⟨w.heap.size, 1, none⟩ (.bool true)).setCell ⟨w.heap.size, 2, none⟩ (.int .i64 kp) = w10 at *
    refine (mThoseX (.pointer (some ⟨w.heap.size + 1, 0, none⟩)) (fun x => decide (x.1 ∈ xs)) a n c s w10 HX.out hn (HH.out.below HBS.out) (fun w1 x hb _ => cEx (w.heap.size + 1) b ln lc xs x w1 HL.out (by omega) ((hb.cell (cell_lt L1S.out)).trans L1S.out) ((HA.out.below HBS.out).below hb))).mono ?_
    rintro e w11 ⟨⟨a11, c11, rfl, ho11⟩, hb11⟩
    have HS11 := Lib.hid (own_hs ho11 rfl (ins_filter _ HH.out.2))
    have V011 := Lib.hid (VS.out.below hb11 VS.out.lt)
    have V211 := Lib.hid (V2S.out.below hb11 V2S.out.lt)
    have HO11 := Lib.hid (own_grown HOS.out hb11 (Nat.le_refl _))
    have HB11 := Lib.hid (HBS.out.trans (hb11.mono HBS.out.size))
    have hfl : (s.filter fun x => decide (x.1 ∈ xs)).length ≤ 100000 := Nat.le_trans (List.length_filter_le _ _) (by rw [HX.out]; exact hn)
    clear ho11 hb11 VS V2S HOS HBS HZS L1S
    obtain ⟨c0, c1, c2, c3, c4, c5, c6, f0, f1, f2, f3, f4, f5, f6⟩ := V011.out.cells
    go_wp2_with fail
    have BS := But1.set w11 w.heap.size 3 (.slice a11 (s.filter fun x => decide (x.1 ∈ xs)).length c11)
    have VS := Lib.hid (V011.out.set3 a11 (s.filter fun x => decide (x.1 ∈ xs)).length c11)
    have V2S := Lib.hid (V211.out.but BS (by omega))
    have HSS := Lib.hid (HS11.out.other V011.out.noH BS)
    have HOS := Lib.hid (vown_as (vown_ty HO11.out V011.out (by decide) BS) (those_isA HA.out.2 (isA_iff.2 (ins_ad HH.out.2))))
    have HBS := Lib.hid (HB11.out.trans (BS.below (Nat.le_refl _) HB11.out.size))
    clear c0 c1 c2 c3 c4 c5 c6 f0 f1 f2 f3 f4 f5 f6 BS V011 V211 HO11 HB11 HS11
    generalize w11.setCell ⟨w.heap.size, 3, none⟩ (.slice a11 (s.filter fun x => decide (x.1 ∈ xs)).length c11) = w12 at *
    refine (mKeep g true kp a11 _ c11 kp la aq nq cq _ a7 _ c7 (dif xs (ad s)) T w12 rfl hfl HSS.out (ad_filter_inc _ HI.out) rfl (Nat.le_trans (those_len _ _ _) (by rw [ad_len, HX.out, HL.out]; omega)) HOS.out (dif_inc HXI.out HI.out) HT.out).mono ?_
    rintro e w13 ⟨⟨a13, c13, rfl, hH13⟩, hb13⟩
    have H13 := Lib.hid hH13
    have V213 := Lib.hid (V2S.out.below hb13 V2S.out.lt)
    have HB13 := Lib.hid (HBS.out.trans (hb13.mono HBS.out.size))
    clear hH13 hb13 V2S HBS HSS HOS VS
    obtain ⟨c0, c1, c2, c3, c4, c5, c6, f0, f1, f2, f3, f4, f5, f6⟩ := V213.out.cells
    go_wp2_with fail
    refine ret_cell1 (p := 6) rfl rfl rfl (V213.out.store g true kp a13 _ c13 kp la aq nq cq).load ?_
    have BS := V213.out.store_but g true kp a13 (keepS (s.filter fun x => decide (x.1 ∈ xs)) (dif xs (ad s)) T).length c13 kp la aq nq cq
    exact ⟨⟨a13, c13, rfl, H13.out.other V213.out.noH BS⟩, HB13.out.trans (BS.below (by omega) HB13.out.size)⟩
end Go.Proofs.Ytllpmepmgnnoaaa
/- What is asked: rows of questions; ask. -/
namespace Go.Proofs.Ytllpmepmgnnoaaa
set_option linter.unusedVariables false
open Go.RowKit

/-- A question, and where its sources lie. -/
structure Qr where
  g : Int
  srcs : List Int
  a : Option Addr
  c : Nat
def Qr.sl (r : Qr) : Value := .slice r.a r.srcs.length r.c
def Qr.nm (r : Qr) : Int × List Int := (r.g, r.srcs)
def qv (rs : List Qr) : List Value := rs.flatMap fun r => [.int .u32 r.g, r.sl]
theorem qv_one (r : Qr) : qv [r] = [.int .u32 r.g, r.sl] := by simp [qv]
theorem qv_append (a b : List Qr) : qv (a ++ b) = qv a ++ qv b := by simp [qv]
def QOk (w : World) (r : Qr) : Prop := (0 ≤ r.g ∧ r.g ≤ 4294967295) ∧ IsA r.srcs ∧ w.ownsRow 0 26 1 (.slice r.a r.srcs.length r.c) r.srcs.length (va r.srcs)
def Qs (w : World) (B : Nat) (a : Option Addr) (c : Nat) (rs : List Qr) : Prop := w.ownsRow B 74 2 (.slice a rs.length c) rs.length (qv rs) ∧ ∀ r ∈ rs, QOk w r
theorem QOk.below {w w' : World} {r : Qr} (h : QOk w r) (hb : Below w.heap.size w w') : QOk w' r := ⟨h.1, h.2.1, own_grown h.2.2 hb (Nat.le_refl _)⟩
theorem Qs.below {w w' : World} {B : Nat} {a : Option Addr} {c : Nat} {rs : List Qr} (h : Qs w B a c rs) (hb : Below w.heap.size w w') : Qs w' B a c rs := ⟨own_grown h.1 hb (Nat.le_refl _), fun r hr => (h.2 r hr).below hb⟩
theorem Qs.le {w : World} {B B' : Nat} {a : Option Addr} {c : Nat} {rs : List Qr} (h : Qs w B a c rs) (hB : B' ≤ B) : Qs w B' a c rs := ⟨vown_le h.1 hB, h.2⟩
theorem QOk.hv {w w' : World} {r : Qr} (h : QOk w r) {X : Nat} {g : Int} {ex : Bool} {left : Int} {a : Option Addr} {n c : Nat} {k la : Int} {aq : Option Addr} {nq cq : Nat} (hX : HV w X g ex left a n c k la aq nq cq) (hb : But1 X w w') : QOk w' r := ⟨h.1, h.2.1, vown_ty h.2.2 hX (by decide) hb⟩
theorem Qs.hv {w w' : World} {B : Nat} {aa : Option Addr} {cc : Nat} {rs : List Qr} (h : Qs w B aa cc rs) {X : Nat} {g : Int} {ex : Bool} {left : Int} {a : Option Addr} {n c : Nat} {k la : Int} {aq : Option Addr} {nq cq : Nat} (hX : HV w X g ex left a n c k la aq nq cq) (hb : But1 X w w') : Qs w' B aa cc rs :=
  ⟨vown_ty h.1 hX (by decide) hb, fun r hr => (h.2 r hr).hv hX hb⟩
theorem Qs.mv {w w' : World} {B : Nat} {aa : Option Addr} {cc : Nat} {rs : List Qr} (h : Qs w B aa cc rs) {X : Nat} {g : Int} {ex : Bool} {left : Int} {a : Option Addr} {n c : Nat} (hX : MV w X g ex left a n c) (hb : But1 X w w') : Qs w' B aa cc rs :=
  ⟨vown_ty h.1 hX (by decide) hb, fun r hr => ⟨(h.2 r hr).1, (h.2 r hr).2.1, vown_ty (h.2 r hr).2.2 hX (by decide) hb⟩⟩
theorem Qs.nil (w : World) (B : Nat) : Qs w B none 0 [] := ⟨World.ownsRow_nil _ _ _ _, fun r h => absurd h (by simp)⟩
theorem infoQ : (Try.prog.info? 74).map (fun i => (i.zero, i.size, i.bytes)) = some (some (.agg #[.int .u32 0, .slice none 0 0]), 2, 32) := by kernel_rfl
/-- What is handed back of a record that is heard: its sources, and what is asked. -/
def OutA (w : World) (e : Ending) (w' : World) (g : Int) (ex : Bool) (left : Int) (s : List Hd) (k la : Int) (Q : List (Int × List Int)) : Prop :=
  (∃ a c aa cc rs, e = .returned (.agg #[.int .u32 g, .bool ex, .int .i64 left, .slice a s.length c, .int .i64 k, .int .i64 la, .slice aa (List.length rs) cc]) ∧ HT w' a s ∧ rs.map Qr.nm = Q ∧ Qs w' w.heap.size aa cc rs) ∧ Below w.heap.size w w'
def askS (s : List Hd) (la : Int) (xs : List Int) : List Hd := if xs = [] then s else keepS s (int xs (ad (s.filter fun x => decide (la < x.2)))) la
def askQ (g : Int) (xs : List Int) : List (Int × List Int) := if xs = [] then [] else [(g, xs)]
def akV (N : Nat) (g : Int) (ex : Bool) (left : Int) (a : Option Addr) (n c : Nat) (kp la : Int) (aq : Option Addr) (nq cq : Nat) (b : Option Addr) (ln lc : Nat) (b5 : Option Addr) (n5 d5 : Nat) (xs ls : List Int) (s : List Hd) (W0 : World) : Nat → Value → List Value → World → Prop
  | 0, v, _, _ => v = .agg #[.int .u32 g, .bool ex, .int .i64 left, .slice a n c, .int .i64 kp, .int .i64 la, .slice aq nq cq]
  | 1, v, _, _ => v = .slice b ln lc
  | 2, v, _, _ => v = .slice b5 n5 d5
  | 3, v, _, w => ∃ (a29 : Option Addr) (c29 : Nat), v = .slice a29 (int xs ls).length c29 ∧ As w a29 (int xs ls)
  | 4, v, _, _ => v = .pointer (some ⟨N, 4, none⟩)
  | 5, v, _, _ => v = .pointer (some ⟨N, 5, none⟩)
  | 6, v, _, _ => v = .int .i64 la
  | 7, v, _, w => ∃ (a33 : Option Addr) (c33 : Nat), v = .agg #[.int .u32 g, .bool ex, .int .i64 left, .slice a33 (keepS s (int xs ls) la).length c33, .int .i64 kp, .int .i64 la, .slice aq nq cq] ∧ HT w a33 (keepS s (int xs ls) la)
  | 8, v, us, w => ∃ a33 c33, HV w (N + 1) g ex left a33 (keepS s (int xs ls) la).length c33 kp la aq nq cq ∧ HT w a33 (keepS s (int xs ls) la) ∧ ∃ W, Below W0.heap.size W0 W ∧ But1 (N + 1) W w ∧ HV W (N + 1) 0 false 0 none 0 0 0 0 none 0 0
  | _, _, _, _ => True
def akD : Nat → List Nat
  | 3 => [1, 2]
  | 5 => [4]
  | 6 => [5]
  | 7 => [0, 3, 6]
  | 8 => [7]
  | _ => []
theorem ak_st (N : Nat) (g : Int) (ex : Bool) (left : Int) (a : Option Addr) (n c : Nat) (kp la : Int) (aq : Option Addr) (nq cq : Nat) (b : Option Addr) (ln lc : Nat) (b5 : Option Addr) (n5 d5 : Nat) (xs ls : List Int) (s : List Hd) (W0 : World) {i : Nat} {v : Value} {us : List Value} {w w' : World} (h8 : i ≠ 8) (hr : Below w.heap.size w w') (hv : akV N g ex left a n c kp la aq nq cq b ln lc b5 n5 d5 xs ls s W0 i v us w) : akV N g ex left a n c kp la aq nq cq b ln lc b5 n5 d5 xs ls s W0 i v us w' := by
  unfold akV at hv ⊢
  split at hv
  all_goals first
    | exact hv
    | (obtain ⟨x, y, e, h⟩ := hv; exact ⟨x, y, e, h.below hr⟩)
    | exact absurd rfl h8
set_option maxRecDepth 100000 in
set_option maxHeartbeats 16000000 in
theorem mAsk (g : Int) (ex : Bool) (left : Int) (a : Option Addr) (n c : Nat) (kp la : Int) (s : List Hd) (b : Option Addr) (ln lc : Nat) (xs : List Int) (w : World)
    (hx : s.length = n) (hn : n ≤ 20000) (hH : HT w a s) (hi : Inc (ad s)) (hl : xs.length = ln) (hln : ln ≤ 20000) (hA : IsA xs) (hO : w.ownsRow 0 26 1 (.slice b ln lc) ln (va xs)) (hxi : Inc xs) (hT : -9223372036854775808 ≤ la ∧ la ≤ 9223372036854775807) (hg : 0 ≤ g ∧ g ≤ 4294967295) :
    Calls Try.prog 95 #[.agg #[.int .u32 g, .bool ex, .int .i64 left, .slice a n c, .int .i64 kp, .int .i64 la, .slice none 0 0], .slice b ln lc] w fun e w' =>
      OutA w e w' g ex left (askS s la xs) kp la (askQ g xs) := by
  have hn : n ≤ 100000 := by omega
  obtain ⟨i0, hi0, hz0, hz1, hz2⟩ := info_parts infoQ
  subst hl
  have hAs := vown_as hO hA
  have HX := Lib.hid hx
  have HH := Lib.hid hH
  have HI := Lib.hid hi
  have HA := Lib.hid hAs
  have HO := Lib.hid hO
  have HIA := Lib.hid hA
  have HXI := Lib.hid hxi
  have HT := Lib.hid hT
  have HG := Lib.hid hg
  clear hx hH hi hA hAs hO hxi hT hg
  obtain ⟨ln, hl⟩ : ∃ ln, xs.length = ln := ⟨_, rfl⟩
  rw [hl] at hln HO ⊢
  have HL := Lib.hid hl
  clear hl
  obtain ⟨w2, hw2⟩ : ∃ w2, w2 = (w.alloc (.cells #[.int .u32 g, .bool ex, .int .i64 left, .slice a n c, .int .i64 kp, .int .i64 la, .slice none 0 0] 106)).alloc (.cells #[.int .u32 0, .bool false, .int .i64 0, .slice none 0 0, .int .i64 0, .int .i64 0, .slice none 0 0] 106) := ⟨_, rfl⟩
  obtain ⟨hs2, v0, v1, hB2⟩ := mk2 w g ex left a n c kp la none 0 0 w2 hw2
  have HS2 := Lib.hid hs2
  have HB2 := Lib.hid hB2
  have V0 := Lib.hid v0
  have V1 := Lib.hid v1
  clear hs2 v0 v1 hB2
  go_enter Try.func95, Try.ntmps95
  by_cases hz : ln = 0
  · subst hz
    have hxs : xs = [] := List.eq_nil_of_length_eq_zero HL.out
    subst hxs
    go_wp2
    clear hw2
    have e1 : (w.alloc (.cells #[.int .u32 g, .bool ex, .int .i64 left, .slice a n c, .int .i64 kp, .int .i64 la, .slice none 0 0] 106)).heap.size = w.heap.size + 1 := World.size_alloc _ _
    have v1 := HV.new (w.alloc (.cells #[.int .u32 g, .bool ex, .int .i64 left, .slice a n c, .int .i64 kp, .int .i64 la, .slice none 0 0] 106)) g ex left a n c kp la none 0 0
    rw [e1] at v1
    refine ret_cell1 (p := 4) rfl rfl rfl v1.load ?_
    have hb := bel2 w (.cells #[.int .u32 g, .bool ex, .int .i64 left, .slice a n c, .int .i64 kp, .int .i64 la, .slice none 0 0] 106) (.cells #[.int .u32 g, .bool ex, .int .i64 left, .slice a n c, .int .i64 kp, .int .i64 la, .slice none 0 0] 106)
    have hxl := HX.out
    subst hxl
    exact ⟨⟨a, c, none, 0, [], rfl, HH.out.below hb, rfl, Qs.nil _ _⟩, hb⟩
  · have hne : xs ≠ [] := fun e => hz (by rw [← HL.out, e]; rfl)
    have hz1' : ((ln : Int) == 0) = false := by simpa using hz
    have HKS : Hid (askS s la xs = keepS s (int xs (ad (s.filter fun x => decide (la < x.2)))) la) := Lib.hid (if_neg hne)
    have HAQ : Hid (askQ g xs = [(g, xs)]) := Lib.hid (if_neg hne)
    clear hne hz
    go_wp2_with fail
    rw [← hw2]
    clear hw2
    refine (mThoseA (.pointer (some ⟨w.heap.size, 0, none⟩)) (fun x => decide (la < x.2)) a n c s w2 HX.out hn (HH.out.1.below HB2.out) (fun w1 x hb _ => cAsk w.heap.size la x w1 (V0.out.below hb V0.out.lt).cells.2.2.2.2.2.1)).mono ?_
    rintro e w4 ⟨⟨a4, c4, rfl, ho4⟩, hb4⟩
    have HS4 := Lib.hid (own_hs ho4 rfl (ins_filter _ HH.out.1.2))
    have V04 := Lib.hid (V0.out.below hb4 V0.out.lt)
    have V14 := Lib.hid (V1.out.below hb4 V1.out.lt)
    have HB4 := Lib.hid (HB2.out.trans (hb4.mono HB2.out.size))
    have hfl : (s.filter fun x => decide (la < x.2)).length ≤ 20000 := Nat.le_trans (List.length_filter_le _ _) (by rw [HX.out]; omega)
    clear ho4 hb4 V0 V1 HB2
    go_wp2_with fail
    refine (mAddrs a4 _ c4 _ _ rfl (by omega) HS4.out).mono ?_
    rintro e w5 ⟨⟨b5, d5, rfl, hA5, hf5, ho5⟩, hb5⟩
    have HA5' := Lib.hid hA5
    have HOO5 := Lib.hid ho5
    have V05 := Lib.hid (V04.out.below hb5 V04.out.lt)
    have V15 := Lib.hid (V14.out.below hb5 V14.out.lt)
    have HB5 := Lib.hid (HB4.out.trans (hb5.mono HB4.out.size))
    have HZ5 : Hid (w.heap.size + 2 ≤ w5.heap.size) := Lib.hid (by have := V15.out.lt; omega)
    have HLI : Hid (Inc (ad (s.filter fun x => decide (la < x.2)))) := Lib.hid (ad_filter_inc _ HI.out)
    have hll : (ad (s.filter fun x => decide (la < x.2))).length ≤ 20000 := by rw [ad_len]; exact hfl
    clear hA5 hf5 ho5 hb5 V04 V14 HB4 HS4 hfl
    obtain ⟨ls, hls⟩ : ∃ ls, ad (s.filter fun x => decide (la < x.2)) = ls := ⟨_, rfl⟩
    rw [hls] at HKS HA5' HOO5 HLI hll ⊢
    clear hls
    obtain ⟨n5, hn5⟩ : ∃ n5, ls.length = n5 := ⟨_, rfl⟩
    rw [hn5] at hll HOO5 ⊢
    have HN5 := Lib.hid hn5
    clear hn5
    have hn1 := news_new w5 [.int .u32 g, .slice b ln lc] 74
    have HN1 := Lib.hid hn1
    clear hn1
    obtain ⟨c0, c1, c2, c3, c4, c5, c6, f0, f1, f2, f3, f4, f5, f6⟩ := V05.out.cells
    go_wp2_with ((refine wpList_app_cell rfl 54 74 i0 _ 2 32 Try.underlying54 hi0 hz0 hz1 hz2 rfl (by decide) (by omega) (.tmp 17) (.tmp 23) rfl (w.heap.size + 2) _ 0 [] rfl (World.ownsRow_nil _ _ _ _) ⟨w5.heap.size, 0, none⟩ 1 [.int .u32 g, .slice b ln lc] rfl rfl HN1.out (by simp [Value.oneCell']) (by omega) (by have := HZ5.out; simp; omega) ?_; intro aq' cq' w' hown hg; have hbb : Hid (Below w5.heap.size w5 w') := Lib.hid (((Below.refl _ w5).alloc (Nat.le_refl _) _).trans (grown_below (World.ownsRow_nil _ w5.heap.size 74 2) hg.out (by simp))); have V0' := Lib.hid (V05.out.below hbb.out V05.out.lt); have V1' := Lib.hid (V15.out.below hbb.out V15.out.lt); clear c0 c1 c2 c3 c4 c5 c6 f0 f1 f2 f3 f4 f5 f6; obtain ⟨c0, c1, c2, c3, c4, c5, c6, f0, f1, f2, f3, f4, f5, f6⟩ := V0'.out.cells))
    have BS := But1.set w' w.heap.size 6 (.slice aq' 1 cq')
    have HB6 := Lib.hid (HB5.out.trans (hbb.out.mono HB5.out.size))
    have HB9 := Lib.hid (HB6.out.trans (BS.below (Nat.le_refl _) HB6.out.size))
    have HQ0 : Qs w' (w.heap.size + 2) aq' cq' [⟨g, xs, b, lc⟩] := ⟨by rw [qv_one]; simpa [Qr.sl, HL.out] using hown.out, fun r hr => by
      obtain rfl : r = ⟨g, xs, b, lc⟩ := by simpa using hr
      exact ⟨HG.out, HIA.out, by rw [HL.out]; exact own_grown HO.out HB6.out (Nat.le_refl _)⟩⟩
    have HQ := Lib.hid ((HQ0.hv V0'.out BS).le (B' := w.heap.size) (by omega))
    have HRS : Hid (List.map Qr.nm [⟨g, xs, b, lc⟩] = askQ g xs) := Lib.hid (by rw [HAQ.out]; rfl)
    have V0 := Lib.hid (V0'.out.set6 aq' 1 cq')
    have V1 := Lib.hid (V1'.out.but BS (by omega))
    have HHW := Lib.hid (HH.out.below HB9.out)
    have HAW := Lib.hid (HA.out.below HB9.out)
    have HA5 := Lib.hid (vown_as (by rw [HN5.out]; exact vown_ty (own_grown HOO5.out hbb.out (Nat.le_refl _)) V0'.out (by decide) BS) HA5'.out.2)
    have HNQ : Hid (1 = ([⟨g, xs, b, lc⟩] : List Qr).length) := Lib.hid rfl
    generalize ([⟨g, xs, b, lc⟩] : List Qr) = rs at *
    clear c0 c1 c2 c3 c4 c5 c6 f0 f1 f2 f3 f4 f5 f6 BS hown hg hbb V0' V1' HB6 HQ0 V05 V15 HB5 HA5' HZ5 HN1 HAQ
    generalize w'.setCell ⟨w.heap.size, 6, none⟩ (.slice aq' 1 cq') = w9' at *
    refine wp_region_last (akV w.heap.size g ex left a n c kp la aq' 1 cq' b ln lc b5 n5 d5 xs ls s w9') (fun W => Below w9'.heap.size w9' W) (fun _ A B => Below A.heap.size A B) akD [26, 27, 28, 29, 30, 31, 32, 33] (by kernel_rfl) (by kernel_rfl) (by kernel_rfl) (by kernel_rfl) (by kernel_rfl) (by decide) (Below.refl _ w9').drew
      (fun i j oi oj v us A B hoi hoj hij hni hw hSA hr hv => ak_st _ _ _ _ _ _ _ _ _ _ _ _ _ _ _ _ _ _ _ _ _ _ (fun e => hni (by subst e; rfl)) hr hv)
      ⟨?_, ?_, ?_, ?_, ?_, ?_, ?_, ?_, ?_, trivial⟩ ?hend
    case refine_1 =>
      intro a' w9 hS h0 hd
      have e2 : a'.tmps[2]?.getD undef = .pointer (some ⟨w.heap.size, 0, none⟩) := vev (h0 2 (by kernel_rfl))
      obtain ⟨c0, c1, c2, c3, c4, c5, c6, f0, f1, f2, f3, f4, f5, f6⟩ := (V0.out.below hS V0.out.lt).cells
      refine Does2.value (.agg #[.int .u32 g, .bool ex, .int .i64 left, .slice a n c, .int .i64 kp, .int .i64 la, .slice aq' 1 cq']) (w' := w9) ?_ ⟨rfl, fun _ => ⟨hS, Below.refl _ _⟩⟩
      clear hS h0 hd
      go_simp
    case refine_2 =>
      intro a' w9 hS h0 hd
      have e1 : a'.tmps[1]?.getD undef = .slice b ln lc := vev (h0 1 (by kernel_rfl))
      refine Does2.value (.slice b ln lc) (w' := w9) ?_ ⟨rfl, fun _ => ⟨hS, Below.refl _ _⟩⟩
      clear hS h0 hd
      go_simp
    case refine_3 =>
      intro a' w9 hS h0 hd
      have e5 : a'.tmps[5]?.getD undef = .slice b5 n5 d5 := vev (h0 5 (by kernel_rfl))
      refine Does2.value (.slice b5 n5 d5) (w' := w9) ?_ ⟨rfl, fun _ => ⟨hS, Below.refl _ _⟩⟩
      clear hS h0 hd
      go_simp
    case refine_4 =>
      intro a' w9 hS h0 hd
      have e27 : a'.tmps[27]?.getD undef = .slice b ln lc := vev (hd 1 List.mem_cons_self)
      have e28 : a'.tmps[28]?.getD undef = .slice b5 n5 d5 := vev (hd 2 (List.mem_cons_of_mem _ List.mem_cons_self))
      refine Does2.call 67 #[.slice b ln lc, .slice b5 n5 d5] (w' := w9) ?_ ((vInter b b5 ln n5 lc d5 xs ls w9 HL.out HN5.out (by omega) (by omega) (HAW.out.below hS) (HA5.out.below hS)).mono ?_)
      · clear hS h0 hd
        go_simp
      · rintro e w8 ⟨⟨a8, c8, rfl, hA8, hf8, ho8⟩, hb⟩
        exact ⟨_, rfl, ⟨a8, c8, rfl, hA8⟩, fun _ => ⟨hS.trans (hb.mono hS.size), hb⟩⟩
    case refine_5 =>
      intro a' w9 hS h0 hd
      have e2 : a'.tmps[2]?.getD undef = .pointer (some ⟨w.heap.size, 0, none⟩) := vev (h0 2 (by kernel_rfl))
      refine Does2.value (.pointer (some ⟨w.heap.size, 4, none⟩)) (w' := w9) ?_ ⟨rfl, fun _ => ⟨hS, Below.refl _ _⟩⟩
      clear hS h0 hd
      go_simp
    case refine_6 =>
      intro a' w9 hS h0 hd
      have e30 : a'.tmps[30]?.getD undef = .pointer (some ⟨w.heap.size, 4, none⟩) := vev (hd 4 List.mem_cons_self)
      refine Does2.value (.pointer (some ⟨w.heap.size, 5, none⟩)) (w' := w9) ?_ ⟨rfl, fun _ => ⟨hS, Below.refl _ _⟩⟩
      clear hS h0 hd
      go_simp
    case refine_7 =>
      intro a' w9 hS h0 hd
      have e31 : a'.tmps[31]?.getD undef = .pointer (some ⟨w.heap.size, 5, none⟩) := vev (hd 5 List.mem_cons_self)
      obtain ⟨c0, c1, c2, c3, c4, c5, c6, f0, f1, f2, f3, f4, f5, f6⟩ := (V0.out.below hS V0.out.lt).cells
      refine Does2.value (.int .i64 la) (w' := w9) ?_ ⟨rfl, fun _ => ⟨hS, Below.refl _ _⟩⟩
      clear hS h0 hd
      go_simp
    case refine_8 =>
      intro a' w9 hS h0 hd
      have e26 : a'.tmps[26]?.getD undef = .agg #[.int .u32 g, .bool ex, .int .i64 left, .slice a n c, .int .i64 kp, .int .i64 la, .slice aq' 1 cq'] := vev (hd 0 List.mem_cons_self)
      obtain ⟨a29, c29, e29, h29⟩ := hd 3 (List.mem_cons_of_mem _ List.mem_cons_self)
      replace e29 := vev e29
      have e32 : a'.tmps[32]?.getD undef = .int .i64 la := vev (hd 6 (List.mem_cons_of_mem _ (List.mem_cons_of_mem _ List.mem_cons_self)))
      refine Does2.call 93 #[.agg #[.int .u32 g, .bool ex, .int .i64 left, .slice a n c, .int .i64 kp, .int .i64 la, .slice aq' 1 cq'], .slice a29 (int xs ls).length c29, .int .i64 la] (w' := w9) ?_ ((mKeep g ex left a n c kp la aq' 1 cq' s a29 _ c29 (int xs ls) la w9 HX.out hn (HHW.out.1.below hS) HI.out rfl (by have := those_len (fun p q => p && q) xs ls; have h1 := HL.out; have h2 := HN5.out; unfold int; omega) h29 (int_inc HXI.out HLI.out) HT.out).mono ?_)
      · clear hS h0 hd
        go_simp
      · rintro e w8 ⟨⟨a8, c8, rfl, hA8⟩, hb⟩
        exact ⟨_, rfl, ⟨a8, c8, rfl, hA8⟩, fun _ => ⟨hS.trans (hb.mono hS.size), hb⟩⟩
    case refine_9 =>
      intro a' w9 hS h0 hd
      have e4 : a'.tmps[4]?.getD undef = .pointer (some ⟨w.heap.size + 1, 0, none⟩) := vev (h0 4 (by kernel_rfl))
      obtain ⟨a33, c33, e33, h33⟩ := hd 7 List.mem_cons_self
      replace e33 := vev e33
      have v1 := V1.out.below hS V1.out.lt
      obtain ⟨d0, d1, d2, d3, d4, d5, d6, e0, e1, e2, e3, e4, e5, e6⟩ := v1.cells
      have hst := v1.store g ex left a33 (keepS s (int xs ls) la).length c33 kp la aq' 1 cq'
      have hbt := v1.store_but g ex left a33 (keepS s (int xs ls) la).length c33 kp la aq' 1 cq'
      refine Does2.skip (w' := (((((((w9.setCell ⟨w.heap.size + 1, 0, none⟩ (.int .u32 g)).setCell ⟨w.heap.size + 1, 1, none⟩ (.bool ex)).setCell ⟨w.heap.size + 1, 2, none⟩ (.int .i64 left)).setCell ⟨w.heap.size + 1, 3, none⟩ (.slice a33 (keepS s (int xs ls) la).length c33)).setCell ⟨w.heap.size + 1, 4, none⟩ (.int .i64 kp)).setCell ⟨w.heap.size + 1, 5, none⟩ (.int .i64 la)).setCell ⟨w.heap.size + 1, 6, none⟩ (.slice aq' 1 cq'))) ?_ ⟨⟨a33, c33, hst, h33.other v1.noH hbt, w9, hS, hbt, v1⟩, fun h => absurd rfl h⟩
      clear hS h0 hd h33 hst hbt v1
      go_simp
    case hend =>
      intro f w9 hv
      obtain ⟨a33, c33, hst, h33, W, hbW, hbt, hz⟩ := hv
      simp only [putAll, Act.put, List.setIfInBounds_toArray, List.set_cons_zero, List.set_cons_succ]
      have H33 := Lib.hid h33
      have HLD := Lib.hid hst.load
      have HQ9 := Lib.hid ((HQ.out.below hbW).hv hz hbt)
      have HBF := Lib.hid (HB9.out.trans ((hbW.mono HB9.out.size).trans (hbt.below (by omega) (Nat.le_trans HB9.out.size hbW.size))))
      clear hst h33 hbW hbt hz
      go_wp2_with fail
      refine ret_cell1 (p := 4) rfl rfl rfl HLD.out ?_
      refine ⟨⟨a33, c33, aq', cq', rs, by rw [HKS.out, ← HNQ.out], by rw [HKS.out]; exact H33.out, HRS.out, HQ9.out⟩, HBF.out⟩
end Go.Proofs.Ytllpmepmgnnoaaa
