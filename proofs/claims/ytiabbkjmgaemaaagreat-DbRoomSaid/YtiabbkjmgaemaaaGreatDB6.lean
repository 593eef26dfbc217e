/- Package set's Make, walked. -/
import Derived.Test.YtiabbkjmgaemaaaGreatDB0
import Derived.Test.YtiabbkjmgaemaaaGreatDB1
import Derived.Test.YtiabbkjmgaemaaaGreatDB2
import Derived.Test.YtiabbkjmgaemaaaGreatDB3
import Derived.Test.YtiabbkjmgaemaaaGreatDB4
import Derived.Test.YtiabbkjmgaemaaaGreatDB5
namespace Go.Proofs.YtiabbkjmgaemaaaGreat
set_option linter.unusedVariables false
open Go.RowKit
open Go.Sort (PermIn)

theorem va_get {xs : List Int} {j : Nat} {v : Value} (h : (va xs)[j]? = some v) : j < xs.length ∧ v = .int .u32 (xs.getD j 0) := by
  have hj : j < (va xs).length := (List.getElem?_eq_some_iff.1 h).1
  have hj' : j < xs.length := by simpa [va] using hj
  refine ⟨hj', ?_⟩
  rw [va, List.getElem?_map, List.getElem?_eq_getElem hj'] at h
  simp at h
  rw [← h, List.getD_eq_getElem?_getD, List.getElem?_eq_getElem hj']; rfl
theorem va_len (xs : List Int) : (va xs).length = xs.length := by simp [va]
theorem va_one (xs : List Int) : ∀ u ∈ va xs, u.oneCell' = true := by
  intro u hu
  simp only [va, List.mem_map] at hu
  obtain ⟨x, _, rfl⟩ := hu
  rfl
theorem lClone (b off n c : Nat) (xs : List Int) (w : World) (hx : xs.length = n) (hm : n ≤ 1000000) (h : As w (some ⟨b, off, none⟩) xs) :
    Calls Tryz.prog 81 #[.slice (some ⟨b, off, none⟩) n c] w fun e w' => ∃ g cap, e = .returned (.slice (some ⟨g, 0, none⟩) n cap) ∧ w.heap.size ≤ g ∧ n ≤ cap ∧ Arr w' g 0 xs.toArray ∧ Below w.heap.size w w' := by
  obtain ⟨i0, hi, hz0, hz1, hz2⟩ := info_parts infoA
  refine Calls.mono (AnyE.slices_Clone Tryz.layK i0 (.int .u32 0) 1 4 hi hz0 hz1 hz2 rfl (by decide) Tryz.sizeOf25 b off n c (va xs) w (by rw [va_len]; omega) (by unfold maxLen; omega) (by omega) (fun j u hu => ?_) (va_one xs)) ?_
  · obtain ⟨hj, rfl⟩ := va_get hu
    rcases h.1 with e | ⟨b', off', e, hc⟩
    · rw [e] at hj; simp at hj
    · cases e; exact hc j hj
  · rintro e w' ⟨v', rfl, hown, hne, hb⟩
    obtain ⟨hl, ho⟩ := hown
    rcases ho with ⟨rfl, _⟩ | ⟨g, cap, cur, rfl, hB, hg, hnc, _, hsz, htk⟩
    · exact absurd rfl hne
    · refine ⟨g, cap, rfl, hB, hnc, ⟨cur, hg, by simp; omega, fun i hi => ?_⟩, hb⟩
      have hi' : i < xs.length := by simpa using hi
      have h1 : (cur.toList.take (n * 1))[i]? = some (.int .u32 (xs.getD i 0)) := by rw [htk]; simp [va, hi']
      rw [List.getElem?_take_of_lt (by omega)] at h1
      rw [Nat.zero_add, getElem!_pos _ i hi]
      simpa [List.getD_eq_getElem?_getD, hi'] using h1

set_option maxHeartbeats 1000000 in
theorem sMake (a : Option Addr) (n c : Nat) (xs : List Int) (w : World) (hx : xs.length = n) (hm : n ≤ 1000000) (h : As w a xs) (hf : Flat a n c) :
    Calls Tryz.prog 44 #[.slice a n c] w fun e w' => Out w e w' (mk xs) := by
  have HX := Lib.hid hx
  have H := Lib.hid h
  clear hx h
  rcases hf with ⟨rfl, rfl, rfl⟩ | ⟨b, off, rfl⟩
  · have hxs : xs = [] := List.eq_nil_of_length_eq_zero HX.out
    go_enter Tryz.func44, Tryz.ntmps44
    go_wp2_with (first | (go_at_call 81; refine (AnyE.slices_Clone_nil Tryz.layK _ _ _).mono ?_; rintro e w1 ⟨rfl, rfl⟩) | (go_at_call 82; refine (sSort0 _ _ _).mono ?_; rintro e w1 ⟨rfl, rfl⟩) | (go_at_call 83; refine (lCompact0 _ _ _).mono ?_; rintro e w1 ⟨rfl, rfl⟩))
    go_ret
    subst hxs
    exact ⟨⟨none, 0, rfl, As.nil _ _, .inl ⟨rfl, rfl, rfl⟩⟩, Below.refl _ _⟩
  · have hd : xs.toArray.size = n := by simpa using HX.out
    have HD := Lib.hid hd
    clear hd
    go_enter Tryz.func44, Tryz.ntmps44
    go_wp2_with fail
    refine (lClone b off n c xs _ HX.out hm H.out).mono ?_
    rintro e w1 ⟨g, cap, rfl, hg, hcap, hA, hb⟩
    have HA := Lib.hid hA
    have HB := Lib.hid hb
    clear hA hb
    go_wp2_with fail
    refine (sSort g 0 cap n xs.toArray _ HA.out HD.out hm).mono ?_
    rintro e w2 ⟨rfl, d', hps, hA2, hB2⟩
    have hds : d'.size = n := hps.1.1.trans HD.out
    have hck : Lib.compactUpTo d' n = mk xs := by
      have := hps
      rw [← HX.out] at this ⊢
      exact compact_mk this.1 this.2
    have CK := Lib.hid hck
    have HA2 := Lib.hid hA2
    have HB2 := Lib.hid (hB2.below hg HB.out.size)
    have HDS := Lib.hid hds
    clear hps hds hck hA2 hB2
    have hcomp := lCompact g 0 cap d' w2 HA2.out (by rw [HDS.out]; omega) (by rw [HDS.out]; exact hcap) (by rw [HDS.out, CK.out]; exact isA_iff.1 (mk_isA H.out.2))
    rw [HDS.out, CK.out] at hcomp
    have HC := Lib.hid hcomp
    clear hcomp
    go_wp2_with fail
    refine HC.out.mono ?_
    rintro e w3 ⟨rfl, hA3, hB3⟩
    have HA3 := Lib.hid hA3
    have HB3 := Lib.hid (hB3.below hg (Nat.le_trans HB.out.size HB2.out.size))
    clear hA3 hB3
    go_wp2
    go_ret
    exact ⟨⟨_, cap, rfl, HA3.out, .inr ⟨_, _, rfl⟩⟩, (HB.out.trans HB2.out).trans HB3.out⟩
end Go.Proofs.YtiabbkjmgaemaaaGreat
/- Filters; appending to rows of a call's own. -/
namespace Go.Proofs.YtiabbkjmgaemaaaGreat
set_option linter.unusedVariables false
open Go.RowKit

/-- A filter, and where its sources lie. -/
structure Flt where
  ex : Bool
  srcs : List Int
  a : Option Addr
  c : Nat
def Flt.sl (f : Flt) : Value := .slice f.a f.srcs.length f.c
/-- A filter's sources. -/
def FOk (w : World) (f : Flt) : Prop := As w f.a f.srcs ∧ (f.a = none → f.c = 0)
theorem FOk.below {w w' : World} {f : Flt} (h : FOk w f) (hb : Below w.heap.size w w') : FOk w' f := ⟨h.1.below hb, h.2⟩
/-- A filter in two cells. -/
def FAt (w : World) (b o : Nat) (f : Flt) : Prop := (w.cell? ⟨b, o, none⟩ = some (.bool f.ex) ∧ w.cell? ⟨b, o + 1, none⟩ = some f.sl) ∧ FOk w f
theorem FAt.below {w w' : World} {b o : Nat} {f : Flt} (h : FAt w b o f) (hb : Below w.heap.size w w') : FAt w' b o f :=
  ⟨⟨(hb.cell (p := ⟨b, o, none⟩) (cell_lt h.1.1)).trans h.1.1, (hb.cell (p := ⟨b, o + 1, none⟩) (cell_lt h.1.2)).trans h.1.2⟩, h.2.below hb⟩
/-- A slice of filters. -/
def Fls (w : World) (a : Option Addr) (fs : List Flt) : Prop := fs = [] ∨ ∃ b off, a = some ⟨b, off, none⟩ ∧ ∀ (k : Nat) f, fs[k]? = some f → FAt w b (off + k * 2) f
theorem Fls.below {w w' : World} {a : Option Addr} {fs : List Flt} (h : Fls w a fs) (hb : Below w.heap.size w w') : Fls w' a fs := by
  rcases h with h | ⟨b, off, e, hc⟩
  · exact .inl h
  · exact .inr ⟨b, off, e, fun k f hk => (hc k f hk).below hb⟩
theorem Fls.at {w : World} {a : Option Addr} {fs : List Flt} (h : Fls w a fs) {k : Nat} (hk : k < fs.length) : ∃ b off, a = some ⟨b, off, none⟩ ∧ ∀ (k : Nat) f, fs[k]? = some f → FAt w b (off + k * 2) f := by
  rcases h with e | h
  · rw [e] at hk; simp at hk
  · exact h

theorem own_ty {w w' : World} {B B2 size size2 n m : Nat} {e e2 : TypeId} {v v2 : Value} {xs ys : List Value} (h : w.ownsRow B e size v n xs) (h2 : w.ownsRow B2 e2 size2 v2 m ys) (hne : e ≠ e2) (hg : w.grownBy w' v2.ownBlock) : w'.ownsRow B e size v n xs := by
  refine h.kept hg ?_
  rcases h.2 with ⟨rfl, _⟩ | ⟨g, cap, cur, rfl, _, hb, _⟩
  · exact .inl rfl
  · refine .inr fun e' => ?_
    rcases h2.2 with ⟨rfl, _⟩ | ⟨g2, cap2, cur2, rfl, _, hb2, _⟩
    · simp [Value.ownBlock] at e'
    · obtain rfl : g = g2 := by simpa [Value.ownBlock] using e'
      rw [hb] at hb2
      simp at hb2
      exact hne hb2.2
theorem own_grown {w w' : World} {B B' size n : Nat} {e : TypeId} {v : Value} {xs : List Value} (h : w.ownsRow B e size v n xs) (hb : Below B' w w') (hB : w.heap.size ≤ B') : w'.ownsRow B e size v n xs := by
  refine ⟨h.1, ?_⟩
  rcases h.2 with e | ⟨g, c, cur, e, h1, h2, h3⟩
  · exact .inl e
  · exact .inr ⟨g, c, cur, e, h1, (hb.block g (Nat.lt_of_lt_of_le (Array.getElem?_eq_some_iff.1 h2).1 hB)).trans h2, h3⟩
theorem own_sl {w : World} {B n size : Nat} {e : TypeId} {v : Value} {xs : List Value} (h : w.ownsRow B e size v n xs) : ∃ a c, v = .slice a n c ∧ Flat a n c := by
  rcases h.2 with ⟨rfl, rfl⟩ | ⟨g, cap, cur, rfl, _⟩
  · exact ⟨none, 0, rfl, .inl ⟨rfl, rfl, rfl⟩⟩
  · exact ⟨_, cap, rfl, .inr ⟨_, _, rfl⟩⟩
theorem grown_below {w w' : World} {B : Nat} {v : Value} {n size : Nat} {e : TypeId} {xs : List Value} (hb : w.ownsRow B e size v n xs) (hg : w.grownBy w' v.ownBlock) (hB : B ≤ w.heap.size) : Below B w w' := (Below.refl B w).grown hg hB (own_ge' hb)
theorem va_append (xs ys : List Int) : va (xs ++ ys) = va xs ++ va ys := by simp [va]
/-- append(own, src...), src whatever holds addresses. -/
theorem wpList_app_as {w : World} {ops : Array Oper} {rest : List Oper} {o : Oper} {a : Act} {Q : Exit → Act → World → Prop} (hgd : o.guard = none) (s x : Operand)
    (ho : o.op = .call { callee := .builtin .append, args := #[s, x], argTypes := #[29, 29] }) (B : Nat) (v : Value) (n : Nat) (xs : List Int) (hs : a.eval s = v) (hown : w.ownsRow B 25 1 v n (va xs)) (hn : xs.length = n)
    (a2 : Option Addr) (m c : Nat) (ys : List Int) (hx : a.eval x = .slice a2 m c) (hy : ys.length = m) (hb : As w a2 ys) (hf : a2 = none → c = 0) (hsz : n + m ≤ 1000000) (hB : B ≤ w.heap.size)
    (h : ∀ a' cap' w', Hid (w'.ownsRow B 25 1 (.slice a' (n + m) cap') (n + m) (va (xs ++ ys))) → Hid (w.grownBy w' v.ownBlock) → wpList Tryz.prog ops Q rest (a.put o.dst (.slice a' (n + m) cap')) w') : wpList Tryz.prog ops Q (o :: rest) a w := by
  obtain ⟨i0, hi, hz0, hz1, hz2⟩ := info_parts infoA
  match a2, hf, hb, hx with
  | none, hf, hb, hx =>
    obtain rfl : c = 0 := hf rfl
    obtain rfl : ys = [] := by
      rcases hb.1 with e | ⟨_, _, e, _⟩
      · exact e
      · cases e
    obtain rfl : m = 0 := hy.symm
    refine wpList_append_own_none hgd s x 29 ho B 25 i0 1 Tryz.underlying29 hi v n (va xs) hs hown hx ?_
    obtain ⟨a1, c1, rfl, _⟩ := own_sl hown
    have := h a1 c1 w (by rw [List.append_nil]; exact hown) (World.grownBy.refl _ _)
    simpa using this
  | some ad, hf, hb, hx =>
    refine wpList_append_own w hgd s x 29 ho B 25 i0 (.int .u32 0) 1 4 Tryz.underlying29 hi hz0 hz1 hz2 rfl (by decide) v n (va xs) hs hown ad m c (va ys) hx (by rw [va_len, hy]; omega) ?_ (va_one ys) (by unfold maxLen; omega) (by omega) hB ?_
    · intro j u hu
      obtain ⟨hj, rfl⟩ := va_get hu
      rcases hb.1 with rfl | ⟨b', off', e, hc⟩
      · simp at hj
      · cases e
        rw [add_flat]; exact hc j hj
    · intro v' w' hown' hgrow _
      rw [← va_append] at hown'
      obtain ⟨a', c', rfl, _⟩ := own_sl hown'
      exact h a' c' w' hown' hgrow
/-- append(own, one), any element of one cell. -/
theorem wpList_app_cell {w : World} {ops : Array Oper} {rest : List Oper} {o : Oper} {a : Act} {Q : Exit → Act → World → Prop} (hgd : o.guard = none) (t e : TypeId) (i0 : TypeInfo) (zv : Value) (size bytes : Nat) (hu : Tryz.prog.underlying t = some (.slice e)) (hi : Tryz.prog.info? e = some i0)
    (hz0 : i0.zero = some zv) (hz1 : i0.size = size) (hz2 : i0.bytes = bytes) (hzs : zv.cells.size = size) (hsz : 0 < size) (hby : bytes ≤ 1000) (s x : Operand)
    (ho : o.op = .call { callee := .builtin .append, args := #[s, x], argTypes := #[t, t] }) (B : Nat) (v : Value) (n : Nat) (xs : List Value) (hs : a.eval s = v) (hown : w.ownsRow B e size v n xs)
    (ad : Addr) (c : Nat) (news : List Value) (hx : a.eval x = .slice (some ad) 1 c) (hl : news.length = 1 * size) (hnews : ∀ j u, news[j]? = some u → w.cell? (ad.add j) = some u) (h1 : ∀ u ∈ news, u.oneCell' = true) (hn : n ≤ 1000000) (hB : B ≤ w.heap.size)
    (h : ∀ a' cap' w', Hid (w'.ownsRow B e size (.slice a' (n + 1) cap') (n + 1) (xs ++ news)) → Hid (w.grownBy w' v.ownBlock) → wpList Tryz.prog ops Q rest (a.put o.dst (.slice a' (n + 1) cap')) w') : wpList Tryz.prog ops Q (o :: rest) a w :=
  wpList_append_own w hgd s x t ho B e i0 zv size bytes hu hi hz0 hz1 hz2 hzs hsz v n xs hs hown ad 1 c news hx hl hnews h1 (by unfold maxLen; omega) (by have : (n + 1) * bytes ≤ 1000001 * 1000 := Nat.mul_le_mul (by omega) hby; omega) hB fun v' w' hown' hgrow _ => by
    obtain ⟨a', c', rfl, _⟩ := own_sl hown'
    exact h a' c' w' hown' hgrow
/-- A result that lies in a variable. -/
theorem ret_cell1 {P : Program} {fn : Func} {R : Ending → World → Prop} {a : Act} {w : World} {p : Nat} {ty : TypeId} {q : Addr} {x : Value} (hr : fn.results = #[.cell p ty]) (hd : a.defers = []) (hp : a.tmps.getD p undef = .pointer (some q))
    (hl : (loadVar ty q).run P w = .ok x w) (hR : R (.returned x) w) : bodyPost P fn R .ret a w := by
  refine ⟨hd, _, ?_, hR⟩
  have hp' : a.tmps[p]?.getD undef = .pointer (some q) := by simpa using hp
  simp only [results, hr]
  simp [asAddr, hp', hl]
theorem infoS : (Tryz.prog.info? 29).map (fun i => (i.zero, i.size, i.bytes)) = some (some (.slice none 0 0), 1, 24) := by kernel_rfl

/-- What filters want together. -/
def withs (fs : List Flt) : List Flt := fs.filter (·.ex)
def wo (fs : List Flt) : List Int := (fs.filter fun f => !f.ex).flatMap (·.srcs)
def flt (fs : List Flt) : Bool × List Int :=
  match withs fs with
  | [] => (false, mk (wo fs))
  | f :: r => (true, dif (r.foldl (fun l g => int l g.srcs) f.srcs) (mk (wo fs)))
theorem withs_yes {fs : List Flt} {f : Flt} (h : f.ex = true) : withs (fs ++ [f]) = withs fs ++ [f] := by simp [withs, h]
theorem withs_no {fs : List Flt} {f : Flt} (h : f.ex = false) : withs (fs ++ [f]) = withs fs := by simp [withs, h]
theorem wo_yes {fs : List Flt} {f : Flt} (h : f.ex = true) : wo (fs ++ [f]) = wo fs := by simp [wo, h]
theorem wo_no {fs : List Flt} {f : Flt} (h : f.ex = false) : wo (fs ++ [f]) = wo fs ++ f.srcs := by simp [wo, h]
/-- Few of them. -/
def FewF (fs : List Flt) : Prop := fs.length ≤ 400 ∧ ∀ f ∈ fs, f.srcs.length ≤ 400
theorem wo_len {fs : List Flt} (h : ∀ f ∈ fs, f.srcs.length ≤ 400) : (wo fs).length ≤ fs.length * 400 := by
  induction fs with
  | nil => simp [wo]
  | cons f r ih =>
    have h1 := ih fun g hg => h g (List.mem_cons_of_mem _ hg)
    have h2 := h f (List.mem_cons_self ..)
    have e : wo (f :: r) = (if f.ex then [] else f.srcs) ++ wo r := by cases hx : f.ex <;> simp [wo, hx]
    rw [e, List.length_append]
    have : (if f.ex = true then ([] : List Int) else f.srcs).length ≤ 400 := by
      split
      · simp
      · exact h2
    simp only [List.length_cons]
    omega
theorem wo_isA {w : World} {fs : List Flt} (h : ∀ f ∈ fs, FOk w f) : IsA (wo fs) := by
  rw [isA_iff]
  intro x hx
  unfold wo at hx
  obtain ⟨f, hf, hx⟩ := List.mem_flatMap.1 hx
  exact isA_iff.1 (h f (List.mem_filter.1 hf).1).1.2 x hx
end Go.Proofs.YtiabbkjmgaemaaaGreat
/- A region that draws its order and ends in one operation that waits for all the others: no program in it. -/
namespace Go.Proofs.YtiabbkjmgaemaaaGreat
set_option linter.unusedVariables false

/-- Each operation but the last is waited for by one behind it. -/
def okLast (ops : Array Oper) : Bool :=
  (List.range ops.size).all fun i => (i + 1 == ops.size) || (List.range ops.size).any fun k => decide (i < k) && (match ops[k]? with | none => false | some o => waits o i)
section
variable {P : Program} {ops : Array Oper} {Q : Exit → Act → World → Prop}
/-- What is known of a state in which the operations 'listed' have come up. -/
structure Known6 (ops : Array Oper) (V : Nat → Value → List Value → World → Prop) (S : World → Prop) (D : Nat → List Nat) (a0 : Act) (listed : Array Bool) (a : Act) (w : World) : Prop where
  size : a.tmps.size = a0.tmps.size
  defers : a.defers = a0.defers
  old : ∀ t, t ∉ dsts ops → a.tmps[t]? = a0.tmps[t]?
  waited : ∀ (i : Nat) (o : Oper), ops[i]? = some o → listed.getD i false = true → ∀ e ∈ o.after, Region.binds .any e = true → listed.getD e.on false = true
  known : ∀ (i : Nat) (o : Oper), ops[i]? = some o → listed.getD i false = true → (i + 1 = ops.size ∨ listed.getD (ops.size - 1) false = false) → V i (valAt ops (fun t => a.eval (.tmp t)) i) ((D i).map (valAt ops (fun t => a.eval (.tmp t)))) w
  s : listed.getD (ops.size - 1) false = false → S w
theorem Known6.all {ops : Array Oper} {V : Nat → Value → List Value → World → Prop} {S : World → Prop} {D : Nat → List Nat} {a0 : Act} {listed : Array Bool} {a : Act} {w : World} (h : Known6 ops V S D a0 listed a w) (hl : okLast ops = true)
    (hL : listed.getD (ops.size - 1) false = true) : ∀ i, i < ops.size → listed.getD i false = true := by
  have main : ∀ m i, i < ops.size → ops.size - i ≤ m → listed.getD i false = true := by
    intro m
    induction m with
    | zero => intro i hi hm; omega
    | succ m ih =>
      intro i hi hm
      by_cases he : i + 1 = ops.size
      · rw [show i = ops.size - 1 by omega]; exact hL
      · have h1 := List.all_eq_true.1 hl i (List.mem_range.2 hi)
        rw [Bool.or_eq_true] at h1
        rcases h1 with h1 | h1
        · exact absurd (by simpa using h1) he
        · obtain ⟨k, hk, h2⟩ := List.any_eq_true.1 h1
          rw [Bool.and_eq_true] at h2
          have hik : i < k := by simpa using h2.1
          have hkn : k < ops.size := List.mem_range.1 hk
          have hkl := ih k hkn (by omega)
          have h3 := h2.2
          rw [Array.getElem?_eq_getElem hkn] at h3
          simp only at h3
          unfold waits at h3
          obtain ⟨e, he2, hb⟩ := List.any_eq_true.1 h3
          simp only [Bool.and_eq_true, beq_iff_eq] at hb
          have h4 := h.waited k ops[k] (Array.getElem?_eq_getElem hkn) hkl e (by simpa using he2) hb.1
          rw [hb.2] at h4
          exact h4
  exact fun i hi => main ops.size i hi (by omega)
/-- **A region that draws its order, whose last operation waits for all.** V i v us: what is known behind operation i; S: what holds ahead of the last one; R j: how operation j turns the world. Behind the last one only its own V is known. -/
theorem wp_region_last {id : Nat} {a0 : Act} {w0 : World} (V : Nat → Value → List Value → World → Prop) (S : World → Prop) (R : Nat → World → World → Prop) (D : Nat → List Nat) (L : List Nat) (hL : dsts ops = L)
    (hm : P.follows .mixedOrders = true) (hok : okRegion3 ops a0.tmps.size D = true) (hng : ops.all (fun o => o.guard.isNone) = true) (hla : okLast ops = true) (hpos : 0 < ops.size) (hS : S w0.drew)
    (hst : ∀ (i j : Nat) (oi oj : Oper) v us w w', ops[i]? = some oi → ops[j]? = some oj → i ≠ j → i + 1 ≠ ops.size → waits oi j = false → S w → R j w w' → V i v us w → V i v us w')
    (hop : EachOp (fun i o => ∀ a w, S w → (∀ t, (dsts ops).contains t = false → a.eval (.tmp t) = a0.eval (.tmp t)) →
      (∀ j ∈ D i, V j (valAt ops (fun t => a.eval (.tmp t)) j) ((D j).map (valAt ops (fun t => a.eval (.tmp t)))) w) →
      Does2 P o a w fun v w' => V i (if o.dst.isSome then v else undef) ((D i).map (valAt ops (fun t => a.eval (.tmp t)))) w' ∧ (i + 1 ≠ ops.size → S w' ∧ R i w w')) 0 ops.toList)
    (hend : ∀ f w, V (ops.size - 1) (valAt ops f (ops.size - 1)) ((D (ops.size - 1)).map (valAt ops f)) w → Q .normal (putAll f L a0) w) : (Code.region id ops true).wp P Q a0 w0 := by
  subst hL
  obtain ⟨hnd, hlt, hops⟩ := okRegion3.parts hok
  refine wp_region_any hm ?_
  have main : ∀ (fuel : Nat) (listed : Array Bool) (a : Act) (w : World), listed.size = ops.size → (List.range ops.size).countP (fun i => !listed.getD i true) ≤ fuel → Known6 ops V S D a0 listed a w → wpAny P .any ops Q fuel listed a w := by
    have fin : ∀ (listed : Array Bool) (a : Act) (w : World), listed.size = ops.size → Known6 ops V S D a0 listed a w → Region.ready .any ops listed = [] → Q .normal a w := by
      intro listed a w hls hk hr
      have all : ∀ (i : Nat) (o : Oper), ops[i]? = some o → listed.getD i false = true := by
        intro i
        induction i using Nat.strongRecOn with
        | _ i ih =>
          intro o ho
          have hi : i < ops.size := (Array.getElem?_eq_some_iff.1 ho).1
          cases hl : listed.getD i false with
          | true => rfl
          | false =>
            have hmem : i ∈ Region.ready .any ops listed := by
              rw [mem_ready]
              refine ⟨?_, o, ho, fun e he hb => ?_⟩
              · have hi' : i < listed.size := by omega
                simp [hi'] at hl ⊢; exact hl
              · have hlt' := (hops i o ho).2.1 e he hb
                exact ih e.on hlt' ops[e.on] (Array.getElem?_eq_getElem (by omega))
            rw [hr] at hmem; cases hmem
      have e : a = putAll (fun t => a.eval (.tmp t)) (dsts ops) a0 := by
        have h1 : a.tmps = (putAll (fun t => a.eval (.tmp t)) (dsts ops) a0).tmps := by
          apply Array.ext_getElem?
          intro t
          rw [putAll_get]
          by_cases ht : t ∈ dsts ops
          · have hts := hlt t ht
            rw [if_pos ⟨ht, hts⟩]
            have : t < a.tmps.size := by rw [hk.size]; exact hts
            simp [Act.eval, this]
          · rw [if_neg (fun h => ht h.1)]; exact hk.old t ht
        have h2 : a.defers = (putAll (fun t => a.eval (.tmp t)) (dsts ops) a0).defers := by rw [putAll_defers]; exact hk.defers
        generalize putAll (fun t => a.eval (.tmp t)) (dsts ops) a0 = b at *
        obtain ⟨x, y⟩ := a
        obtain ⟨x', y'⟩ := b
        simp only at h1 h2
        subst h1 h2; rfl
      rw [e]
      exact hend _ _ (hk.known (ops.size - 1) ops[ops.size - 1] (Array.getElem?_eq_getElem (by omega)) (all _ _ (Array.getElem?_eq_getElem (by omega))) (.inl (by omega)))
    intro fuel
    induction fuel with
    | zero =>
      intro listed a w hls hc hk
      have hr : Region.ready .any ops listed = [] := by
        cases hr : Region.ready .any ops listed with
        | nil => rfl
        | cons i r =>
          have hi : i ∈ Region.ready .any ops listed := by rw [hr]; exact List.mem_cons_self
          obtain ⟨hl, o, ho, _⟩ := mem_ready.1 hi
          have : 0 < (List.range ops.size).countP (fun i => !listed.getD i true) :=
            List.countP_pos_iff.2 ⟨i, List.mem_range.2 (Array.getElem?_eq_some_iff.1 ho).1, by rw [hl]; rfl⟩
          omega
      exact ⟨hr, fin listed a w hls hk hr⟩
    | succ fuel ih =>
      intro listed a w hls hc hk
      refine ⟨fin listed a w hls hk, fun i hi => ?_⟩
      obtain ⟨hl, o, ho, hall⟩ := mem_ready.1 hi
      have hi' : i < ops.size := (Array.getElem?_eq_some_iff.1 ho).1
      obtain ⟨hg, hlt', hD⟩ := hops i o ho
      have hdo := EachOp.get hop i o (by simpa using ho)
      rw [Nat.zero_add] at hdo
      have hlf : listed.getD i false = false := by
        have hi'' : i < listed.size := by omega
        simp [hi''] at hl ⊢; exact hl
      have hLf : listed.getD (ops.size - 1) false = false := by
        cases hx : listed.getD (ops.size - 1) false with
        | false => rfl
        | true => rw [hk.all hla hx i hi'] at hlf; cases hlf
      have hd := hdo a w (hk.s hLf) (fun t ht => by
          have hn : t ∉ dsts ops := by
            intro hm; rw [List.contains_iff_mem.2 hm] at ht; cases ht
          have := hk.old t hn
          simp only [Act.eval, Array.getD_eq_getD_getElem?, this])
        (fun j hj => by
          obtain ⟨e, he, hb, rfl⟩ := hD j hj
          have hlt := hlt' e he hb
          exact hk.known e.on ops[e.on] (Array.getElem?_eq_getElem (by omega)) (hall e he hb) (.inr hLf))
      unfold wpOp
      simp only [ho]
      have hwant : Region.wanted o (yielded ops a.tmps) = true := by
        unfold Region.wanted
        have hgn : o.guard = none := by
          have h1 := Array.all_eq_true.1 hng i hi'
          have h2 : ops[i] = o := by rw [Array.getElem?_eq_getElem hi'] at ho; exact Option.some.inj ho
          rw [h2] at h1; simpa using h1
        rw [hgn]
      rw [if_pos hwant]
      refine .inl (Does2.wp hd fun v w' ⟨hV, hSR⟩ => ih _ _ _ (by simpa using hls) ?_ ?_)
      · have hb : (List.range ops.size).countP (fun j => !(listed.setIfInBounds i true).getD j true) < (List.range ops.size).countP (fun j => !listed.getD j true) := by
          have hsub : ∀ (l : List Nat), l.countP (fun j => !(listed.setIfInBounds i true).getD j true) + (if i ∈ l then 1 else 0) ≤ l.countP (fun j => !listed.getD j true) := by
            intro l
            induction l with
            | nil => simp
            | cons x r ihl =>
              rw [List.countP_cons, List.countP_cons]
              by_cases hx : i = x
              · subst hx
                rw [if_pos List.mem_cons_self]
                have e1 : (listed.setIfInBounds i true).getD i true = true := by
                  simp [show i < listed.size by omega]
                rw [e1, hl]
                have : r.countP (fun j => !(listed.setIfInBounds i true).getD j true) ≤ r.countP (fun j => !listed.getD j true) := by
                  split at ihl <;> omega
                exact Nat.succ_le_succ this
              · rw [getD_set_ne true hx]
                have : (i ∈ x :: r) ↔ i ∈ r := by simp [hx]
                simp only [this]
                omega
          have := hsub (List.range ops.size)
          rw [if_pos (List.mem_range.2 hi')] at this
          omega
        omega
      · -- a slot that isn't written now is as it was
        have hval : ∀ j, j ≠ i → valAt ops (fun t => (a.put o.dst v).eval (.tmp t)) j = valAt ops (fun t => a.eval (.tmp t)) j := by
          intro j hji
          unfold valAt
          cases hj : (ops[j]?).bind (·.dst) with
          | none => rfl
          | some t =>
            refine Act.eval_put fun d hd' => ?_
            intro e
            injection e with e
            subst e
            cases hoj : ops[j]? with
            | none => rw [hoj] at hj; cases hj
            | some oj =>
              rw [hoj] at hj
              exact hji (nodup_filterMap_get hnd j i oj o _ (by simpa using hoj) (by simpa using ho) hj hd')
        have hDne : ∀ k j, ∀ ok : Oper, ops[k]? = some ok → j ∈ D k → j < k := by
          intro k j ok hok hj
          obtain ⟨e, he, hb, rfl⟩ := (hops k ok hok).2.2 j hj
          exact (hops k ok hok).2.1 e he hb
        have hnl : (listed.setIfInBounds i true).getD (ops.size - 1) false = false → i + 1 ≠ ops.size := by
          intro h he
          have e1 : ops.size - 1 = i := by omega
          rw [e1] at h
          have hi'' : i < listed.size := by omega
          simp [hi''] at h
        refine ⟨?_, ?_, ?_, ?_, ?_, fun h => (hSR (hnl h)).1⟩
        · rw [← hk.size]; cases o.dst <;> simp [Act.put]
        · rw [← hk.defers]; cases o.dst <;> rfl
        · intro t ht
          rw [← hk.old t ht]
          cases hd' : o.dst with
          | none => rfl
          | some d =>
            have hne : d ≠ t := fun e => ht (mem_dsts.2 ⟨i, o, ho, by rw [hd', e]⟩)
            simp [Act.put, Array.getElem?_setIfInBounds_ne hne]
        · intro j oj hoj hlj e he hb
          by_cases hij : i = j
          · subst hij
            obtain rfl : oj = o := by rw [ho] at hoj; exact (Option.some.inj hoj).symm
            exact getD_set_true (hall e he hb)
          · rw [getD_set_ne false hij] at hlj
            exact getD_set_true (hk.waited j oj hoj hlj e he hb)
        · intro j oj hoj hlj hcase
          by_cases hij : i = j
          · subst hij
            obtain rfl : oj = o := by rw [ho] at hoj; exact (Option.some.inj hoj).symm
            have e1 : (D i).map (valAt ops (fun t => (a.put oj.dst v).eval (.tmp t))) = (D i).map (valAt ops (fun t => a.eval (.tmp t))) :=
              List.map_congr_left fun k hk' => hval k (Nat.ne_of_lt (hDne i k oj ho hk'))
            rw [e1]
            have e2 : valAt ops (fun t => (a.put oj.dst v).eval (.tmp t)) i = if oj.dst.isSome then v else undef := by
              unfold valAt
              rw [ho]
              cases hd' : oj.dst with
              | none => simp [hd']
              | some t =>
                have hts : t < a.tmps.size := by rw [hk.size]; exact hlt t (mem_dsts.2 ⟨i, oj, ho, hd'⟩)
                simp [hd', Act.put, Act.eval, hts]
            rw [e2]; exact hV
          · rw [getD_set_ne false hij] at hlj
            have hn : i + 1 ≠ ops.size := by
              rcases hcase with hc | hc
              · intro _
                have e1 : ops.size - 1 = j := by omega
                rw [e1, hlj] at hLf
                cases hLf
              · exact hnl hc
            have hkj := hk.known j oj hoj hlj (.inr hLf)
            have hnw : waits oj i = false := by
              cases hw : waits oj i with
              | false => rfl
              | true =>
                exfalso
                unfold waits at hw
                obtain ⟨e, he, hb⟩ := List.any_eq_true.1 hw
                simp only [Bool.and_eq_true, beq_iff_eq] at hb
                have h1 := hk.waited j oj hoj hlj e (by simpa using he) hb.1
                rw [hb.2] at h1
                have hi'' : i < listed.size := by omega
                simp [hi''] at hl h1
                rw [hl] at h1; cases h1
            have e1 : (D j).map (valAt ops (fun t => (a.put o.dst v).eval (.tmp t))) = (D j).map (valAt ops (fun t => a.eval (.tmp t))) :=
              List.map_congr_left fun k hk' => hval k (fun e => by
                subst e
                obtain ⟨e, he, hb, e2⟩ := (hops j oj hoj).2.2 _ hk'
                exact not_waits hnw e he hb e2)
            rw [e1, hval j (fun e => hij e.symm)]
            exact hst j i oj o _ _ _ _ hoj ho (fun e => hij e.symm) (fun e => by rw [show ops.size - 1 = j by omega, hlj] at hLf; cases hLf) hnw (hk.s hLf) (hSR hn).2 hkj
  refine main _ _ _ _ (by simp) ?_ ⟨rfl, rfl, fun _ _ => rfl, fun i o ho hl => ?_, fun i o ho hl _ => ?_, fun _ => hS⟩
  · exact Nat.le_trans List.countP_le_length (by simp)
  all_goals
    exfalso
    by_cases h : i < ops.size
    · simp [h] at hl
    · simp [h] at hl
end
end Go.Proofs.YtiabbkjmgaemaaaGreat
