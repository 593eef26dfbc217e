/- Filters; appending to rows of a call's own. -/
import Derived.Test.YtllpmepmgnnoaaaGreatPg
namespace Go.Proofs.YtllpmepmgnnoaaaGreat
set_option linter.unusedVariables false
open Go.RowKit

/-- A filter, and where its sources lie. -/
structure Flt where
  ex : Bool
  srcs : List Int
  a : Option Addr
  c : Nat
def Flt.sl (f : Flt) : Value := .slice f.a f.srcs.length f.c
/-- A filter's sources. -/
def FOk (w : World) (f : Flt) : Prop := As w f.a f.srcs ∧ (f.a = none → f.c = 0)
theorem FOk.below {w w' : World} {f : Flt} (h : FOk w f) (hb : Below w.heap.size w w') : FOk w' f := ⟨h.1.below hb, h.2⟩
/-- A filter in two cells. -/
def FAt (w : World) (b o : Nat) (f : Flt) : Prop := (w.cell? ⟨b, o, none⟩ = some (.bool f.ex) ∧ w.cell? ⟨b, o + 1, none⟩ = some f.sl) ∧ FOk w f
theorem FAt.below {w w' : World} {b o : Nat} {f : Flt} (h : FAt w b o f) (hb : Below w.heap.size w w') : FAt w' b o f :=
  ⟨⟨(hb.cell (p := ⟨b, o, none⟩) (cell_lt h.1.1)).trans h.1.1, (hb.cell (p := ⟨b, o + 1, none⟩) (cell_lt h.1.2)).trans h.1.2⟩, h.2.below hb⟩
/-- A slice of filters. -/
def Fls (w : World) (a : Option Addr) (fs : List Flt) : Prop := fs = [] ∨ ∃ b off, a = some ⟨b, off, none⟩ ∧ ∀ (k : Nat) f, fs[k]? = some f → FAt w b (off + k * 2) f
theorem Fls.below {w w' : World} {a : Option Addr} {fs : List Flt} (h : Fls w a fs) (hb : Below w.heap.size w w') : Fls w' a fs := by
  rcases h with h | ⟨b, off, e, hc⟩
  · exact .inl h
  · exact .inr ⟨b, off, e, fun k f hk => (hc k f hk).below hb⟩
theorem Fls.at {w : World} {a : Option Addr} {fs : List Flt} (h : Fls w a fs) {k : Nat} (hk : k < fs.length) : ∃ b off, a = some ⟨b, off, none⟩ ∧ ∀ (k : Nat) f, fs[k]? = some f → FAt w b (off + k * 2) f := by
  rcases h with e | h
  · rw [e] at hk; simp at hk
  · exact h

theorem own_ty {w w' : World} {B B2 size size2 n m : Nat} {e e2 : TypeId} {v v2 : Value} {xs ys : List Value} (h : w.ownsRow B e size v n xs) (h2 : w.ownsRow B2 e2 size2 v2 m ys) (hne : e ≠ e2) (hg : w.grownBy w' v2.ownBlock) : w'.ownsRow B e size v n xs := by
  refine h.kept hg ?_
  rcases h.2 with ⟨rfl, _⟩ | ⟨g, cap, cur, rfl, _, hb, _⟩
  · exact .inl rfl
  · refine .inr fun e' => ?_
    rcases h2.2 with ⟨rfl, _⟩ | ⟨g2, cap2, cur2, rfl, _, hb2, _⟩
    · simp [Value.ownBlock] at e'
    · obtain rfl : g = g2 := by simpa [Value.ownBlock] using e'
      rw [hb] at hb2
      simp at hb2
      exact hne hb2.2
theorem own_grown {w w' : World} {B B' size n : Nat} {e : TypeId} {v : Value} {xs : List Value} (h : w.ownsRow B e size v n xs) (hb : Below B' w w') (hB : w.heap.size ≤ B') : w'.ownsRow B e size v n xs := by
  refine ⟨h.1, ?_⟩
  rcases h.2 with e | ⟨g, c, cur, e, h1, h2, h3⟩
  · exact .inl e
  · exact .inr ⟨g, c, cur, e, h1, (hb.block g (Nat.lt_of_lt_of_le (Array.getElem?_eq_some_iff.1 h2).1 hB)).trans h2, h3⟩
theorem own_sl {w : World} {B n size : Nat} {e : TypeId} {v : Value} {xs : List Value} (h : w.ownsRow B e size v n xs) : ∃ a c, v = .slice a n c ∧ Flat a n c := by
  rcases h.2 with ⟨rfl, rfl⟩ | ⟨g, cap, cur, rfl, _⟩
  · exact ⟨none, 0, rfl, .inl ⟨rfl, rfl, rfl⟩⟩
  · exact ⟨_, cap, rfl, .inr ⟨_, _, rfl⟩⟩
theorem grown_below {w w' : World} {B : Nat} {v : Value} {n size : Nat} {e : TypeId} {xs : List Value} (hb : w.ownsRow B e size v n xs) (hg : w.grownBy w' v.ownBlock) (hB : B ≤ w.heap.size) : Below B w w' := (Below.refl B w).grown hg hB (own_ge' hb)
theorem va_append (xs ys : List Int) : va (xs ++ ys) = va xs ++ va ys := by simp [va]
/-- append(own, src...), src whatever holds addresses. -/
theorem wpList_app_as {w : World} {ops : Array Oper} {rest : List Oper} {o : Oper} {a : Act} {Q : Exit → Act → World → Prop} (hgd : o.guard = none) (s x : Operand)
    (ho : o.op = .call { callee := .builtin .append, args := #[s, x], argTypes := #[29, 29] }) (B : Nat) (v : Value) (n : Nat) (xs : List Int) (hs : a.eval s = v) (hown : w.ownsRow B 25 1 v n (va xs)) (hn : xs.length = n)
    (a2 : Option Addr) (m c : Nat) (ys : List Int) (hx : a.eval x = .slice a2 m c) (hy : ys.length = m) (hb : As w a2 ys) (hf : a2 = none → c = 0) (hsz : n + m ≤ 1000000) (hB : B ≤ w.heap.size)
    (h : ∀ a' cap' w', Hid (w'.ownsRow B 25 1 (.slice a' (n + m) cap') (n + m) (va (xs ++ ys))) → Hid (w.grownBy w' v.ownBlock) → wpList Tryz.prog ops Q rest (a.put o.dst (.slice a' (n + m) cap')) w') : wpList Tryz.prog ops Q (o :: rest) a w := by
  obtain ⟨i0, hi, hz0, hz1, hz2⟩ := info_parts infoA
  match a2, hf, hb, hx with
  | none, hf, hb, hx =>
    obtain rfl : c = 0 := hf rfl
    obtain rfl : ys = [] := by
      rcases hb.1 with e | ⟨_, _, e, _⟩
      · exact e
      · cases e
    obtain rfl : m = 0 := hy.symm
    refine wpList_append_own_none hgd s x 29 ho B 25 i0 1 Tryz.underlying29 hi v n (va xs) hs hown hx ?_
    obtain ⟨a1, c1, rfl, _⟩ := own_sl hown
    have := h a1 c1 w (by rw [List.append_nil]; exact hown) (World.grownBy.refl _ _)
    simpa using this
  | some ad, hf, hb, hx =>
    refine wpList_append_own w hgd s x 29 ho B 25 i0 (.int .u32 0) 1 4 Tryz.underlying29 hi hz0 hz1 hz2 rfl (by decide) v n (va xs) hs hown ad m c (va ys) hx (by rw [va_len, hy]; omega) ?_ (va_one ys) (by unfold maxLen; omega) (by omega) hB ?_
    · intro j u hu
      obtain ⟨hj, rfl⟩ := va_get hu
      rcases hb.1 with rfl | ⟨b', off', e, hc⟩
      · simp at hj
      · cases e
        rw [add_flat]; exact hc j hj
    · intro v' w' hown' hgrow _
      rw [← va_append] at hown'
      obtain ⟨a', c', rfl, _⟩ := own_sl hown'
      exact h a' c' w' hown' hgrow
/-- append(own, one), any element of one cell. -/
theorem wpList_app_cell {w : World} {ops : Array Oper} {rest : List Oper} {o : Oper} {a : Act} {Q : Exit → Act → World → Prop} (hgd : o.guard = none) (t e : TypeId) (i0 : TypeInfo) (zv : Value) (size bytes : Nat) (hu : Tryz.prog.underlying t = some (.slice e)) (hi : Tryz.prog.info? e = some i0)
    (hz0 : i0.zero = some zv) (hz1 : i0.size = size) (hz2 : i0.bytes = bytes) (hzs : zv.cells.size = size) (hsz : 0 < size) (hby : bytes ≤ 1000) (s x : Operand)
    (ho : o.op = .call { callee := .builtin .append, args := #[s, x], argTypes := #[t, t] }) (B : Nat) (v : Value) (n : Nat) (xs : List Value) (hs : a.eval s = v) (hown : w.ownsRow B e size v n xs)
    (ad : Addr) (c : Nat) (news : List Value) (hx : a.eval x = .slice (some ad) 1 c) (hl : news.length = 1 * size) (hnews : ∀ j u, news[j]? = some u → w.cell? (ad.add j) = some u) (h1 : ∀ u ∈ news, u.oneCell' = true) (hn : n ≤ 1000000) (hB : B ≤ w.heap.size)
    (h : ∀ a' cap' w', Hid (w'.ownsRow B e size (.slice a' (n + 1) cap') (n + 1) (xs ++ news)) → Hid (w.grownBy w' v.ownBlock) → wpList Tryz.prog ops Q rest (a.put o.dst (.slice a' (n + 1) cap')) w') : wpList Tryz.prog ops Q (o :: rest) a w :=
  wpList_append_own w hgd s x t ho B e i0 zv size bytes hu hi hz0 hz1 hz2 hzs hsz v n xs hs hown ad 1 c news hx hl hnews h1 (by unfold maxLen; omega) (by have : (n + 1) * bytes ≤ 1000001 * 1000 := Nat.mul_le_mul (by omega) hby; omega) hB fun v' w' hown' hgrow _ => by
    obtain ⟨a', c', rfl, _⟩ := own_sl hown'
    exact h a' c' w' hown' hgrow
/-- A result that lies in a variable. -/
theorem ret_cell1 {P : Program} {fn : Func} {R : Ending → World → Prop} {a : Act} {w : World} {p : Nat} {ty : TypeId} {q : Addr} {x : Value} (hr : fn.results = #[.cell p ty]) (hd : a.defers = []) (hp : a.tmps.getD p undef = .pointer (some q))
    (hl : (loadVar ty q).run P w = .ok x w) (hR : R (.returned x) w) : bodyPost P fn R .ret a w := by
  refine ⟨hd, _, ?_, hR⟩
  have hp' : a.tmps[p]?.getD undef = .pointer (some q) := by simpa using hp
  simp only [results, hr]
  simp [asAddr, hp', hl]
theorem infoS : (Tryz.prog.info? 29).map (fun i => (i.zero, i.size, i.bytes)) = some (some (.slice none 0 0), 1, 24) := by kernel_rfl

/-- What filters want together. -/
def withs (fs : List Flt) : List Flt := fs.filter (·.ex)
def wo (fs : List Flt) : List Int := (fs.filter fun f => !f.ex).flatMap (·.srcs)
def flt (fs : List Flt) : Bool × List Int :=
  match withs fs with
  | [] => (false, mk (wo fs))
  | f :: r => (true, dif (r.foldl (fun l g => int l g.srcs) f.srcs) (mk (wo fs)))
theorem withs_yes {fs : List Flt} {f : Flt} (h : f.ex = true) : withs (fs ++ [f]) = withs fs ++ [f] := by simp [withs, h]
theorem withs_no {fs : List Flt} {f : Flt} (h : f.ex = false) : withs (fs ++ [f]) = withs fs := by simp [withs, h]
theorem wo_yes {fs : List Flt} {f : Flt} (h : f.ex = true) : wo (fs ++ [f]) = wo fs := by simp [wo, h]
theorem wo_no {fs : List Flt} {f : Flt} (h : f.ex = false) : wo (fs ++ [f]) = wo fs ++ f.srcs := by simp [wo, h]
/-- Few of them. -/
def FewF (fs : List Flt) : Prop := fs.length ≤ 400 ∧ ∀ f ∈ fs, f.srcs.length ≤ 400
theorem wo_len {fs : List Flt} (h : ∀ f ∈ fs, f.srcs.length ≤ 400) : (wo fs).length ≤ fs.length * 400 := by
  induction fs with
  | nil => simp [wo]
  | cons f r ih =>
    have h1 := ih fun g hg => h g (List.mem_cons_of_mem _ hg)
    have h2 := h f (List.mem_cons_self ..)
    have e : wo (f :: r) = (if f.ex then [] else f.srcs) ++ wo r := by cases hx : f.ex <;> simp [wo, hx]
    rw [e, List.length_append]
    have : (if f.ex = true then ([] : List Int) else f.srcs).length ≤ 400 := by
      split
      · simp
      · exact h2
    simp only [List.length_cons]
    omega
theorem wo_isA {w : World} {fs : List Flt} (h : ∀ f ∈ fs, FOk w f) : IsA (wo fs) := by
  rw [isA_iff]
  intro x hx
  unfold wo at hx
  obtain ⟨f, hf, hx⟩ := List.mem_flatMap.1 hx
  exact isA_iff.1 (h f (List.mem_filter.1 hf).1).1.2 x hx
end Go.Proofs.YtllpmepmgnnoaaaGreat
