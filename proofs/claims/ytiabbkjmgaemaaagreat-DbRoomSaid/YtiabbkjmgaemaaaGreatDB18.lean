/- The places behind a record. -/
import Derived.Test.YtiabbkjmgaemaaaGreatDB0
import Derived.Test.YtiabbkjmgaemaaaGreatDB1
import Derived.Test.YtiabbkjmgaemaaaGreatDB2
import Derived.Test.YtiabbkjmgaemaaaGreatDB3
import Derived.Test.YtiabbkjmgaemaaaGreatDB4
import Derived.Test.YtiabbkjmgaemaaaGreatDB5
import Derived.Test.YtiabbkjmgaemaaaGreatDB6
import Derived.Test.YtiabbkjmgaemaaaGreatDB7
import Derived.Test.YtiabbkjmgaemaaaGreatDB8
import Derived.Test.YtiabbkjmgaemaaaGreatDB9
import Derived.Test.YtiabbkjmgaemaaaGreatDB10
import Derived.Test.YtiabbkjmgaemaaaGreatDB11
import Derived.Test.YtiabbkjmgaemaaaGreatDB12
import Derived.Test.YtiabbkjmgaemaaaGreatDB13
import Derived.Test.YtiabbkjmgaemaaaGreatDB14
import Derived.Test.YtiabbkjmgaemaaaGreatDB15
import Derived.Test.YtiabbkjmgaemaaaGreatDB16
import Derived.Test.YtiabbkjmgaemaaaGreatDB17
namespace Go.Proofs.YtiabbkjmgaemaaaGreat
set_option linter.unusedVariables false
open Go.RowKit

/-- The places behind a record of a port, and what is asked; or none, if it is refused. -/
def hd9 (kp la lim : Int) (l : List Plc) (po ty g : Int) (xs : List Int) : Option (List Plc × List (Int × List Int)) :=
  let p := (at9 (po * 4294967296 + g) l).getD ⟨po, 0, 0, g, false, 0, [], none, 0⟩
  let r := hrP kp la p.v1 p.v2 g p.ex p.left p.s ty xs
  if r.er = 0 then
    let N := (ltK (po * 4294967296 + g) l).map Plc.nm ++ ((if sm ⟨po, p.v1, p.v2, g, r.ex, r.left, r.s, none, 0⟩ then [⟨po, p.v1, p.v2, g, r.ex, r.left, r.s, none, 0⟩] else []) ++ (gtK (po * 4294967296 + g) l).map Plc.nm)
    if lim < (N.length : Int) then none else some (N, r.q)
  else none
def OutH9 (w : World) (e : Ending) (w' : World) (res : Option (List Plc × List (Int × List Int))) : Prop :=
  (match res with
   | none => ∃ er : Int, er ≠ 0 ∧ e = .returned (.tuple #[.slice none 0 0, .slice none 0 0, .int .i64 er])
   | some (N, q) => ∃ a c F aa cc rs, e = .returned (.tuple #[.slice a (List.length F) c, .slice aa (List.length rs) cc, .int .i64 0]) ∧ F.map Plc.nm = N ∧ w'.ownsRow w.heap.size 77 7 (.slice a (List.length F) c) (List.length F) (pv F) ∧ (∀ p ∈ F, PT w' p) ∧ rs.map Qr.nm = q ∧ Qs w' w.heap.size aa cc rs) ∧ Below w.heap.size w w'
theorem hd9_er {kp la lim : Int} {l : List Plc} {po ty g : Int} {xs : List Int} {p : Plc} {r : Hr} (hp : (at9 (po * 4294967296 + g) l).getD ⟨po, 0, 0, g, false, 0, [], none, 0⟩ = p) (hr : hrP kp la p.v1 p.v2 g p.ex p.left p.s ty xs = r) (he : r.er ≠ 0) : hd9 kp la lim l po ty g xs = none := by
  unfold hd9; simp only [hp, hr]; rw [if_neg he]
theorem hd9_full {kp la lim : Int} {l : List Plc} {po ty g : Int} {xs : List Int} {p : Plc} {r : Hr} {M : List Plc} (hp : (at9 (po * 4294967296 + g) l).getD ⟨po, 0, 0, g, false, 0, [], none, 0⟩ = p) (hr : hrP kp la p.v1 p.v2 g p.ex p.left p.s ty xs = r) (he : r.er = 0)
    (hM : (if sm ⟨po, p.v1, p.v2, g, r.ex, r.left, r.s, none, 0⟩ then [⟨po, p.v1, p.v2, g, r.ex, r.left, r.s, none, 0⟩] else []) = M) (hl : lim < (((ltK (po * 4294967296 + g) l).map Plc.nm ++ (M ++ (gtK (po * 4294967296 + g) l).map Plc.nm)).length : Int)) : hd9 kp la lim l po ty g xs = none := by
  unfold hd9; simp only [hp, hr, hM]; rw [if_pos he, if_pos hl]
theorem hd9_ok {kp la lim : Int} {l : List Plc} {po ty g : Int} {xs : List Int} {p : Plc} {r : Hr} {M : List Plc} (hp : (at9 (po * 4294967296 + g) l).getD ⟨po, 0, 0, g, false, 0, [], none, 0⟩ = p) (hr : hrP kp la p.v1 p.v2 g p.ex p.left p.s ty xs = r) (he : r.er = 0)
    (hM : (if sm ⟨po, p.v1, p.v2, g, r.ex, r.left, r.s, none, 0⟩ then [⟨po, p.v1, p.v2, g, r.ex, r.left, r.s, none, 0⟩] else []) = M) (hl : ¬ lim < (((ltK (po * 4294967296 + g) l).map Plc.nm ++ (M ++ (gtK (po * 4294967296 + g) l).map Plc.nm)).length : Int)) : hd9 kp la lim l po ty g xs = some ((ltK (po * 4294967296 + g) l).map Plc.nm ++ (M ++ (gtK (po * 4294967296 + g) l).map Plc.nm), r.q) := by
  unfold hd9; simp only [hp, hr, hM]; rw [if_pos he, if_neg hl]
theorem found_det {id : Int} {l : List Plc} {k : Nat} {b : Bool} (hr : Ris9 l) (h : Found9 id l k b) : k = (ltK id l).length ∧ b = (at9 id l).isSome := by
  have h1 : k = (ltK id l).length := by rw [← h.2.1, List.length_take]; have := h.1; omega
  refine ⟨h1, ?_⟩
  rcases found_at hr h with ⟨rfl, p, _, e⟩ | ⟨rfl, e⟩ <;> rw [e] <;> rfl
theorem found_is (id : Int) (l : List Plc) (hr : Ris9 l) : (ltK id l).length ≤ l.length ∧ l.take (ltK id l).length = ltK id l ∧ ((∃ p, at9 id l = some p ∧ l[(ltK id l).length]? = some p ∧ p.k = id ∧ l.drop ((ltK id l).length + 1) = gtK id l) ∨ (at9 id l = none ∧ l.drop (ltK id l).length = gtK id l)) := by
  have e : ∀ l : List Plc, Ris9 l → l = ltK id l ++ l.filter (fun p => decide (id ≤ p.k)) := by
    intro l
    induction l with
    | nil => intro _; rfl
    | cons p r ih =>
      intro hr
      unfold Ris9 at hr
      rw [List.pairwise_cons] at hr
      by_cases h : p.k < id
      · unfold ltK
        rw [List.filter_cons, if_pos (by simpa using h), List.filter_cons, if_neg (by simp; omega), List.cons_append]
        congr 1
        exact ih hr.2
      · unfold ltK
        rw [List.filter_cons, if_neg (by simpa using h), List.filter_eq_nil_iff.2 (fun x hx => by have := hr.1 x hx; simp; omega), List.nil_append, eq_comm, List.filter_eq_self]
        intro x hx
        rcases List.mem_cons.1 hx with rfl | hx
        · simp; omega
        · have := hr.1 x hx; simp; omega
  have e1 := e l hr
  have hle : (ltK id l).length ≤ l.length := List.length_filter_le _ _
  have ht : l.take (ltK id l).length = ltK id l := by
    conv => lhs; arg 2; rw [e1]
    rw [List.take_left]
  have hd : l.drop (ltK id l).length = l.filter (fun p => decide (id ≤ p.k)) := by
    conv => lhs; arg 2; rw [e1]
    rw [List.drop_left]
  have hg := gt9 id l hr (ltK id l).length hd
  refine ⟨hle, ht, ?_⟩
  cases hk : l[(ltK id l).length]? with
  | none =>
    have h1 := hg.2 (fun p hp => by rw [hk] at hp; cases hp)
    exact .inr ⟨at9_none (no_k ht h1), h1⟩
  | some p =>
    by_cases hp : p.k = id
    · exact .inl ⟨p, at9_some hr (List.mem_of_getElem? hk) hp, rfl, hp, hg.1 p hk hp⟩
    · have h1 := hg.2 (fun q hq => by rw [hk] at hq; cases hq; exact hp)
      exact .inr ⟨at9_none (no_k ht h1), h1⟩
theorem plc_row (w : World) (po v1 v2 g1 : Int) (ex : Bool) (left : Int) (s1 : List Hd) (a1 : Option Addr) (n1 c1 : Nat) (B : Nat) (hn : s1.length = n1) (hB : B ≤ w.heap.size) : (w.alloc (.cells #[.int .i64 po, .int .i64 v1, .int .i64 v2, .int .u32 g1, .bool ex, .int .i64 left, .slice a1 n1 c1] 77)).ownsRow B 77 7 (.slice (some ⟨w.heap.size, 0, none⟩) 1 1) 1 (pv [⟨po, v1, v2, g1, ex, left, s1, a1, c1⟩]) := by
  subst hn
  exact ⟨rfl, .inr ⟨_, 1, _, rfl, hB, Go.Deep.blk_alloc_new _ _, Nat.le_refl _, by decide, rfl, by simp [pv, pcs, Plc.sl]⟩⟩
theorem rows3 (w : World) (r1 r2 r3 : Rw9) (h1 : Pls w r1.2.1 r1.1 ∧ (r1.2.1 = none → r1.2.2 = 0)) (h2 : Pls w r2.2.1 r2.1 ∧ (r2.2.1 = none → r2.2.2 = 0)) (h3 : Pls w r3.2.1 r3.1 ∧ (r3.2.1 = none → r3.2.2 = 0)) :
    Rws9 (w.alloc (.cells #[.slice r1.2.1 r1.1.length r1.2.2, .slice r2.2.1 r2.1.length r2.2.2, .slice r3.2.1 r3.1.length r3.2.2] 44)) (some ⟨w.heap.size, 0, none⟩) [r1, r2, r3] := by
  have hb := bel1 w (.cells #[.slice r1.2.1 r1.1.length r1.2.2, .slice r2.2.1 r2.1.length r2.2.2, .slice r3.2.1 r3.1.length r3.2.2] 44)
  refine .inr ⟨_, 0, rfl, fun k r hk => ?_⟩
  match k with
  | 0 => simp at hk; subst hk; exact ⟨cell_new w _ _ 0, h1.1.below hb, h1.2⟩
  | 1 => simp at hk; subst hk; exact ⟨cell_new w _ _ 1, h2.1.below hb, h2.2⟩
  | 2 => simp at hk; subst hk; exact ⟨cell_new w _ _ 2, h3.1.below hb, h3.2⟩
  | k + 3 => simp at hk
theorem mkHeardW (w : World) (kp la lim : Int) (a : Option Addr) (n c : Nat) (po ty rg : Int) (b : Option Addr) (ln lc : Nat) (W : World)
    (hW : W = (((w.alloc (.cells #[.int .i64 kp, .int .i64 la, .int .i64 lim, .slice a n c] 46)).alloc (.cells #[.int .u8 ty, .int .u32 rg, .slice b ln lc] 102)).alloc (.cells #[.int .i64 po, .int .i64 0, .int .i64 0, .int .u32 rg, .bool false, .int .i64 0, .slice none 0 0] 77))) :
    DV W w.heap.size kp la lim a n c ∧ RV W (w.heap.size + 1) ty rg b ln lc ∧ PV W (w.heap.size + 2) po 0 0 rg false 0 none 0 0 ∧ Below w.heap.size w W ∧ W.heap.size = w.heap.size + 3 := by
  subst hW
  have e0 : w.heap.size = w.heap.size := rfl
  have e1 : (w.alloc (.cells #[.int .i64 kp, .int .i64 la, .int .i64 lim, .slice a n c] 46)).heap.size = w.heap.size + 1 := by rw [World.size_alloc]
  have e2 : ((w.alloc (.cells #[.int .i64 kp, .int .i64 la, .int .i64 lim, .slice a n c] 46)).alloc (.cells #[.int .u8 ty, .int .u32 rg, .slice b ln lc] 102)).heap.size = w.heap.size + 2 := by rw [World.size_alloc, e1]
  have e3 : (((w.alloc (.cells #[.int .i64 kp, .int .i64 la, .int .i64 lim, .slice a n c] 46)).alloc (.cells #[.int .u8 ty, .int .u32 rg, .slice b ln lc] 102)).alloc (.cells #[.int .i64 po, .int .i64 0, .int .i64 0, .int .u32 rg, .bool false, .int .i64 0, .slice none 0 0] 77)).heap.size = w.heap.size + 3 := by rw [World.size_alloc, e2]
  have u0 := DV.new w kp la lim a n c
  have u1 := RV.new (w.alloc (.cells #[.int .i64 kp, .int .i64 la, .int .i64 lim, .slice a n c] 46)) ty rg b ln lc
  rw [e1] at u1
  have u2 := PV.new ((w.alloc (.cells #[.int .i64 kp, .int .i64 la, .int .i64 lim, .slice a n c] 46)).alloc (.cells #[.int .u8 ty, .int .u32 rg, .slice b ln lc] 102)) po 0 0 rg false 0 none 0 0
  rw [e2] at u2
  exact ⟨((u0.keep _).keep _), (u1.keep _), u2, ((((Below.refl _ w).alloc (by exact Nat.le_refl _) _).alloc (by rw [e1]; omega) _).alloc (by rw [e2]; omega) _), e3⟩
def hfV (N : Nat) (a : Option Addr) (n c k : Nat) (po rg : Int) (bb : Bool) : Nat → Value → List Value → World → Prop
  | 0, v, _, _ => v = .pointer (some ⟨N, 3, none⟩)
  | 1, v, _, _ => v = .slice a n c
  | 2, v, _, _ => v = .agg #[.int .i64 po, .int .i64 0, .int .i64 0, .int .u32 rg, .bool false, .int .i64 0, .slice none 0 0]
  | 3, v, _, _ => v = .agg #[.int .i64 po, .int .u32 rg]
  | 4, v, _, _ => v = .tuple #[.int .i64 (k : Int), .bool bb]
  | 5, v, _, _ => v = .tuple #[.int .i64 (k : Int), .bool bb]
  | 6, v, _, _ => v = .int .i64 (k : Int)
  | 7, v, _, _ => v = .bool bb
  | 8, v, _, _ => v = .int .i64 (k : Int)
  | 9, v, _, _ => v = .bool bb
  | _, _, _, _ => True
def hfD : Nat → List Nat
  | 1 => [0]
  | 3 => [2]
  | 4 => [1, 3]
  | 5 => [4]
  | 6 => [5]
  | 7 => [5]
  | 8 => [6]
  | 9 => [7]
  | _ => []
theorem hf_st (N : Nat) (a : Option Addr) (n c k : Nat) (po rg : Int) (bb : Bool) {i : Nat} {v : Value} {us : List Value} {w w' : World}  (hr : Below w.heap.size w w') (hv : hfV N a n c k po rg bb i v us w) : hfV N a n c k po rg bb i v us w' := by
  unfold hfV at hv ⊢
  split at hv
  all_goals first
    | exact hv
def hgV (N : Nat) (a : Option Addr) (n c k : Nat) (po v1 v2 rg : Int) (rex : Bool) (rleft : Int) (s5 : List Hd) (a5 : Option Addr) (n5 c5 : Nat) (a12 : Option Addr) (n12 c12 : Nat) (mid F : List Plc) (B : Nat) : Nat → Value → List Value → World → Prop
  | 0, v, _, _ => v = .pointer (some ⟨N, 3, none⟩)
  | 1, v, _, _ => v = .slice a n c
  | 2, v, _, _ => v = .int .i64 (k : Int)
  | 3, v, _, _ => v = .slice a k c
  | 4, v, _, _ => v = .agg #[.int .i64 po, .int .i64 v1, .int .i64 v2, .int .u32 rg, .bool rex, .int .i64 rleft, .slice a5 n5 c5]
  | 5, v, _, w => ∃ (g56 : Nat), v = .slice (some ⟨g56, 0, none⟩) 1 1 ∧ w.ownsRow B 77 7 (.slice (some ⟨g56, 0, none⟩) 1 1) 1 (pv [⟨po, v1, v2, rg, rex, rleft, s5, a5, c5⟩])
  | 6, v, _, w => ∃ (a57 : Option Addr) (c57 : Nat), v = .slice a57 mid.length c57 ∧ w.ownsRow B 77 7 (.slice a57 (mid).length c57) (mid).length (pv (mid))
  | 7, v, _, _ => v = .slice a12 n12 c12
  | 8, v, _, w => ∃ (A59 : Option Addr) (c59 : Nat) (R59 : List Rw9), v = .slice A59 3 c59 ∧ R59.length = 3 ∧ Rws9 w A59 R59 ∧ alls9 R59 = F
  | 9, v, _, w => ∃ (a60 : Option Addr) (c60 : Nat), v = .slice a60 F.length c60 ∧ w.ownsRow B 77 7 (.slice a60 (F).length c60) (F).length (pv (F))
  | 10, v, _, w => ∃ (a60 : Option Addr) (c60 : Nat), v = .slice a60 F.length c60 ∧ w.ownsRow B 77 7 (.slice a60 (F).length c60) (F).length (pv (F))
  | _, _, _, _ => True
def hgD : Nat → List Nat
  | 1 => [0]
  | 3 => [1, 2]
  | 5 => [4]
  | 6 => [5]
  | 8 => [3, 6, 7]
  | 9 => [8]
  | 10 => [9]
  | _ => []
def hgK : Nat → List Nat | 5 => [6] | _ => []
theorem hg_st (N : Nat) (a : Option Addr) (n c k : Nat) (po v1 v2 rg : Int) (rex : Bool) (rleft : Int) (s5 : List Hd) (a5 : Option Addr) (n5 c5 : Nat) (a12 : Option Addr) (n12 c12 : Nat) (mid F : List Plc) (B : Nat) {i : Nat} {v : Value} {us : List Value} {w w' : World} (hq : (i = 0 ∨ i = 1 ∨ i = 2 ∨ i = 3 ∨ i = 4 ∨ i = 7 ∨ 11 ≤ i) ∨ Below w.heap.size w w') (hv : hgV N a n c k po v1 v2 rg rex rleft s5 a5 n5 c5 a12 n12 c12 mid F B i v us w) : hgV N a n c k po v1 v2 rg rex rleft s5 a5 n5 c5 a12 n12 c12 mid F B i v us w' := by
  unfold hgV at hv ⊢
  split at hv
  all_goals first
    | exact hv
    | (have hb : Below w.heap.size w w' := (by rcases hq with h | h; exfalso; omega; exact h); obtain ⟨x, e, h⟩ := hv; exact ⟨x, e, own_grown h hb (Nat.le_refl _)⟩)
    | (have hb : Below w.heap.size w w' := (by rcases hq with h | h; exfalso; omega; exact h); obtain ⟨x, y, e, h⟩ := hv; exact ⟨x, y, e, own_grown h hb (Nat.le_refl _)⟩)
    | (have hb : Below w.heap.size w w' := (by rcases hq with h | h; exfalso; omega; exact h); obtain ⟨x, y, z, e, h1, h2, h3⟩ := hv; exact ⟨x, y, z, e, h1, h2.below hb, h3⟩)
theorem flat_nil {a : Option Addr} {n c : Nat} (h : Flat a n c) : a = none → c = 0 := by
  intro e
  rcases h with ⟨_, _, h⟩ | ⟨g, o, h⟩
  · exact h
  · rw [e] at h; cases h
theorem ret_t3 {P : Program} {fn : Func} {R : Ending → World → Prop} {a : Act} {w : World} {u v x : Nat} (hr : fn.results = #[.tmp u, .tmp v, .tmp x]) (hd : a.defers = [])
    (hR : R (.returned (.tuple #[a.tmps.getD u undef, a.tmps.getD v undef, a.tmps.getD x undef])) w) : bodyPost P fn R .ret a w := by
  refine ⟨hd, _, ?_, hR⟩
  simp only [results, hr]
  simp
theorem own_but_any {w w' : World} {X B n size c : Nat} {a : Option Addr} {e : TypeId} {xs : List Value} (h : w.ownsRow B e size (.slice a n c) n xs) (hb : But1 X w w') (hne : ∀ g o, a = some ⟨g, o, none⟩ → g ≠ X) : w'.ownsRow B e size (.slice a n c) n xs := by
  refine ⟨h.1, ?_⟩
  rcases h.2 with h1 | ⟨g2, cap, cur, e1, hB, hg, h3⟩
  · exact .inl h1
  · have hX : g2 ≠ X := by
      simp only [Value.slice.injEq] at e1
      exact hne g2 0 e1.1
    exact .inr ⟨g2, cap, cur, e1, hB, (hb.block g2 (Array.getElem?_eq_some_iff.1 hg).1 hX).trans hg, h3⟩
theorem hrP_left {kp la left : Int} (v1 v2 g : Int) (ex : Bool) (s : List Hd) (ty : Int) (xs : List Int) (hla : 1 ≤ la ∧ la ≤ 1000000) (hkp : 0 ≤ kp ∧ kp ≤ 1000000) (hl : 0 ≤ left ∧ left ≤ 1000000) : 0 ≤ (hrP kp la v1 v2 g ex left s ty xs).left ∧ (hrP kp la v1 v2 g ex left s ty xs).left ≤ 1000000 := by
  have hc : ∀ r : Hr, 0 ≤ r.left ∧ r.left ≤ 1000000 → 0 ≤ (capH ex left s r).left ∧ (capH ex left s r).left ≤ 1000000 := by
    intro r hr
    unfold capH
    split
    · exact hr
    · exact hl
  unfold hrP
  split
  · exact hl
  · unfold hearP
    split
    · exact hc _ hl
    · split
      · exact hc _ hkp
      · split
        · exact hc _ (by unfold hToIn; simp only; split <;> omega)
        · split
          · exact hc _ hkp
          · split
            · exact hc _ hl
            · exact hl
/-- A slice of places, and a store into a block of a call's own where it doesn't lie. -/
theorem Pls.places {w w' : World} {a : Option Addr} {l : List Plc} {X : Nat} {cs : Array Value} {p : Nat × Nat} (h : Pls w a l) (ht : ∀ p ∈ l, PT w p) (hX : w.heap[X]? = some (.cells cs 77 p)) (hb : But1 X w w') (hne : l = [] ∨ ∀ g off, a = some ⟨g, off, none⟩ → g ≠ X) : Pls w' a l := by
  rcases h with h | ⟨b, off, e, hc⟩
  · exact .inl h
  · rcases hne with hne | hne
    · exact .inl hne
    · have hg := hne b off e
      refine .inr ⟨b, off, e, fun k p hk => ⟨?_, ((ht p (List.mem_of_getElem? hk)).ty hX (by decide) hb).ok⟩⟩
      obtain ⟨⟨c0, c1, c2, c3, c4, c5, c6⟩, -⟩ := hc k p hk
      exact ⟨(hb.cell (cell_lt c0) hg).trans c0, (hb.cell (cell_lt c1) hg).trans c1, (hb.cell (cell_lt c2) hg).trans c2, (hb.cell (cell_lt c3) hg).trans c3, (hb.cell (cell_lt c4) hg).trans c4, (hb.cell (cell_lt c5) hg).trans c5, (hb.cell (cell_lt c6) hg).trans c6⟩
set_option maxRecDepth 100000 in
set_option maxHeartbeats 16000000 in
theorem dHeard (kp la lim : Int) (a : Option Addr) (n c : Nat) (l : List Plc) (po ty rg : Int) (b : Option Addr) (ln lc : Nat) (xs : List Int) (B0 : Nat) (w : World) (hB0 : B0 ≤ w.heap.size) (hx : l.length = n) (hn : n ≤ 90000) (ho : w.ownsRow B0 77 7 (.slice a n c) n (pv l)) (ht : ∀ p ∈ l, PT w p) (hr : Ris9 l) (hok : ∀ p ∈ l, okP p) (hm : mayP kp la) (hpo : isI po) (hg : 0 ≤ rg ∧ rg ≤ 4294967295)
    (hl : xs.length = ln) (hln : ln ≤ 3000) (hA : As w b xs) (hfl : b = none → lc = 0) :
    Calls Tryz.prog 53 #[.agg #[.int .i64 kp, .int .i64 la, .int .i64 lim, .slice a n c], .int .i64 po, .agg #[.int .u8 ty, .int .u32 rg, .slice b ln lc]] w fun e w' => OutH9 w e w' (hd9 kp la lim l po ty rg xs) := by
  have HX := Lib.hid hx
  have HRI := Lib.hid hr
  have HG := Lib.hid hg
  have HOK := Lib.hid hok
  have HM := Lib.hid hm
  have HPO := Lib.hid hpo
  have HLX := Lib.hid hl
  have HFLB := Lib.hid hfl
  have hcn : n ≤ c ∧ (a = none → n = 0 ∧ c = 0) ∧ ((∃ g, a = some ⟨g, 0, none⟩ ∧ g < w.heap.size) ∨ a = none) := by
    obtain ⟨_, h⟩ := ho
    rcases h with ⟨e, e1⟩ | ⟨g, cap, cur, e, hB, hgg, hnc, _⟩
    · simp at e
      exact ⟨by omega, ⟨fun _ => ⟨e1, e.2.2⟩, .inr e.1⟩⟩
    · simp at e
      obtain ⟨rfl, rfl⟩ := e
      exact ⟨hnc, ⟨fun e => (by cases e), .inl ⟨g, rfl, (Array.getElem?_eq_some_iff.1 hgg).1⟩⟩⟩
  have HCN := Lib.hid hcn
  have hpls := own_pls ho hx (fun p hp => (ht p hp).ok)
  obtain ⟨k, hk⟩ : ∃ k, (ltK (po * 4294967296 + rg) l).length = k := ⟨_, rfl⟩
  obtain ⟨bb, hbb⟩ : ∃ bb, (at9 (po * 4294967296 + rg) l).isSome = bb := ⟨_, rfl⟩
  have hfi := found_is (po * 4294967296 + rg) l hr
  rw [hk] at hfi
  have HFI := Lib.hid hfi
  have HK := Lib.hid hk
  have HBB := Lib.hid hbb
  obtain ⟨w3, hw3⟩ : ∃ w3, w3 = (((w.alloc (.cells #[.int .i64 kp, .int .i64 la, .int .i64 lim, .slice a n c] 46)).alloc (.cells #[.int .u8 ty, .int .u32 rg, .slice b ln lc] 102)).alloc (.cells #[.int .i64 po, .int .i64 0, .int .i64 0, .int .u32 rg, .bool false, .int .i64 0, .slice none 0 0] 77)) := ⟨_, rfl⟩
  obtain ⟨u0, u1, u2, hb, -⟩ := mkHeardW w kp la lim a n c po ty rg b ln lc w3 hw3
  have V0 := Lib.hid u0
  have V1 := Lib.hid u1
  have V2 : Hid (PV w3 (w.heap.size + 1 + 1) po 0 0 rg false 0 none 0 0) := Lib.hid u2
  have HB := Lib.hid hb
  have HPL := Lib.hid (hpls.below hb)
  have HOW := Lib.hid (own_grown ho hb (Nat.le_refl _))
  have HPT : Hid (∀ p ∈ l, PT w3 p) := Lib.hid (fun p hp => (ht p hp).below hb)
  have HA := Lib.hid (hA.below hb)
  have HA0 := Lib.hid hA
  have HAB : Hid (∀ b' o', b = some ⟨b', o', none⟩ → xs ≠ [] → b' < w.heap.size) := Lib.hid (by
    intro b' o' e' hx
    rcases hA.1 with h | ⟨b2, o2, e2, hc⟩
    · exact absurd h hx
    · rw [e2] at e'; cases e'
      exact cell_lt (hc 0 (List.length_pos_iff.2 hx)))
  clear hB0 hx ho ht hr hok hm hpo hg hl hfl hcn hpls hk hbb hfi u0 u1 u2 hb hA
  go_enter Tryz.func53, Tryz.ntmps53
  go_wp2_with fail
  rw [← hw3]
  clear hw3
  refine wp_region_each3 (hfV w.heap.size a n c k po rg bb) (fun W => Below w3.heap.size w3 W) (fun _ A B => Below A.heap.size A B) hfD [22, 23, 24, 25, 26, 21, 27, 28, 10, 11] (by kernel_rfl) (by kernel_rfl) (by kernel_rfl) (Below.refl _ w3).drew
    (fun i j oi oj v us A B hoi hoj hij hw hSA hr hv => hf_st _ _ _ _ _ _ _ _ hr hv) ?hgd
    ⟨?_, ?_, ?_, ?_, ?_, ?_, ?_, ?_, ?_, ?_, trivial⟩ ?hend
  case hgd =>
    intro i o g b hoi hog v us w hv
    have hi : i < 10 := (Array.getElem?_eq_some_iff.1 hoi).1
    have hc : i = 0 ∨ i = 1 ∨ i = 2 ∨ i = 3 ∨ i = 4 ∨ i = 5 ∨ i = 6 ∨ i = 7 ∨ i = 8 ∨ i = 9 := by omega
    rcases hc with rfl | rfl | rfl | rfl | rfl | rfl | rfl | rfl | rfl | rfl
    · cases hoi; cases hog
    · cases hoi; cases hog
    · cases hoi; cases hog
    · cases hoi; cases hog
    · cases hoi; cases hog
    · cases hoi; cases hog
    · cases hoi; cases hog
    · cases hoi; cases hog
    · cases hoi; cases hog
    · cases hoi; cases hog
  case refine_1 =>
    intro a' w9 hS h0 hd
    have e3 : a'.tmps[3]?.getD undef = .pointer (some ⟨w.heap.size, 0, none⟩) := vev (h0 3 (by kernel_rfl))
    refine Does2.value (.pointer (some ⟨w.heap.size, 3, none⟩)) (w' := w9) ?_ ⟨rfl, hS, Below.refl _ _⟩
    clear hS h0 hd
    go_simp
  case refine_2 =>
    intro a' w9 hS h0 hd
    have e22 : a'.tmps[22]?.getD undef = .pointer (some ⟨w.heap.size, 3, none⟩) := vev (hd 0 List.mem_cons_self)
    obtain ⟨y0, y1, y2, y3, -⟩ := (V0.out.below hS V0.out.lt).cells
    refine Does2.value (.slice a n c) (w' := w9) ?_ ⟨rfl, hS, Below.refl _ _⟩
    clear hS h0 hd
    go_simp
  case refine_3 =>
    intro a' w9 hS h0 hd
    have e9 : a'.tmps[9]?.getD undef = .pointer (some ⟨w.heap.size + 1 + 1, 0, none⟩) := vev (h0 9 (by kernel_rfl))
    obtain ⟨y0, y1, y2, y3, y4, y5, y6, -⟩ := (V2.out.below hS V2.out.lt).cells
    refine Does2.value (.agg #[.int .i64 po, .int .i64 0, .int .i64 0, .int .u32 rg, .bool false, .int .i64 0, .slice none 0 0]) (w' := w9) ?_ ⟨rfl, hS, Below.refl _ _⟩
    clear hS h0 hd
    go_simp
  case refine_4 =>
    intro a' w9 hS h0 hd
    have e24 : a'.tmps[24]?.getD undef = .agg #[.int .i64 po, .int .i64 0, .int .i64 0, .int .u32 rg, .bool false, .int .i64 0, .slice none 0 0] := vev (hd 2 List.mem_cons_self)
    refine Does2.call 91 #[.agg #[.int .i64 po, .int .i64 0, .int .i64 0, .int .u32 rg, .bool false, .int .i64 0, .slice none 0 0]] (w' := w9) ?_ ((dKeyOf po 0 0 rg false 0 none 0 0 w9).mono ?_)
    · clear hS h0 hd
      go_simp
    · rintro e w8 ⟨rfl, hb⟩
      exact ⟨_, rfl, rfl, hS.trans (hb.mono hS.size), hb⟩
  case refine_5 =>
    intro a' w9 hS h0 hd
    have e23 : a'.tmps[23]?.getD undef = .slice a n c := vev (hd 1 List.mem_cons_self)
    have e25 : a'.tmps[25]?.getD undef = .agg #[.int .i64 po, .int .u32 rg] := vev (hd 3 (List.mem_cons_of_mem _ List.mem_cons_self))
    refine Does2.call 56 #[.slice a n c, .agg #[.int .i64 po, .int .u32 rg]] (w' := w9) ?_ ((dFind a n c l po rg w9 HX.out (by omega) HRI.out (HPL.out.below hS) HG.out).mono ?_)
    · clear hS h0 hd
      go_simp
    · rintro e w8 ⟨⟨k', b', rfl, hfd⟩, hb⟩
      obtain ⟨rfl, rfl⟩ := found_det HRI.out hfd
      rw [HK.out, HBB.out]
      exact ⟨_, rfl, rfl, hS.trans (hb.mono hS.size), hb⟩
  case refine_6 =>
    intro a' w9 hS h0 hd
    have e26 : a'.tmps[26]?.getD undef = .tuple #[.int .i64 (k : Int), .bool bb] := vev (hd 4 List.mem_cons_self)
    refine Does2.value (.tuple #[.int .i64 (k : Int), .bool bb]) (w' := w9) ?_ ⟨rfl, hS, Below.refl _ _⟩
    clear hS h0 hd
    go_simp
  case refine_7 =>
    intro a' w9 hS h0 hd
    have e21 : a'.tmps[21]?.getD undef = .tuple #[.int .i64 (k : Int), .bool bb] := vev (hd 5 List.mem_cons_self)
    refine Does2.value (.int .i64 (k : Int)) (w' := w9) ?_ ⟨rfl, hS, Below.refl _ _⟩
    clear hS h0 hd
    go_simp
  case refine_8 =>
    intro a' w9 hS h0 hd
    have e21 : a'.tmps[21]?.getD undef = .tuple #[.int .i64 (k : Int), .bool bb] := vev (hd 5 List.mem_cons_self)
    refine Does2.value (.bool bb) (w' := w9) ?_ ⟨rfl, hS, Below.refl _ _⟩
    clear hS h0 hd
    go_simp
  case refine_9 =>
    intro a' w9 hS h0 hd
    have e27 : a'.tmps[27]?.getD undef = .int .i64 (k : Int) := vev (hd 6 List.mem_cons_self)
    refine Does2.value (.int .i64 (k : Int)) (w' := w9) ?_ ⟨rfl, hS, Below.refl _ _⟩
    clear hS h0 hd
    go_simp
  case refine_10 =>
    intro a' w9 hS h0 hd
    have e28 : a'.tmps[28]?.getD undef = .bool bb := vev (hd 7 List.mem_cons_self)
    refine Does2.value (.bool bb) (w' := w9) ?_ ⟨rfl, hS, Below.refl _ _⟩
    clear hS h0 hd
    go_simp
  case hend =>
    intro f w9 hS hv
    have v10 := hv 8 (by decide)
    replace v10 : f 10 = .int .i64 (k : Int) := v10
    have v11 := hv 9 (by decide)
    replace v11 : f 11 = .bool bb := v11
    simp only [putAll, Act.put, List.setIfInBounds_toArray, List.set_cons_zero, List.set_cons_succ, v10, v11]
    have HB4 := Lib.hid (HB.out.trans (hS.mono HB.out.size))
    have V04 := Lib.hid (V0.out.below hS V0.out.lt)
    have V14 := Lib.hid (V1.out.below hS V1.out.lt)
    have V24 := Lib.hid (V2.out.below hS V2.out.lt)
    have HPL4 := Lib.hid (HPL.out.below hS)
    have HOW4 := Lib.hid (own_grown HOW.out hS (Nat.le_refl _))
    have HPT4 : Hid (∀ p ∈ l, PT w9 p) := Lib.hid (fun p hp => (HPT.out p hp).below hS)
    have HA4 := Lib.hid (HA.out.below hS)
    clear hS hv v10 v11 V0 V1 V2 HB HPL HPT HA HOW
    obtain ⟨c0, c1, c2, c3, -⟩ := V04.out.cells
    rcases HFI.out with ⟨hkl, htk, ⟨p0, hat, hp0, hkey, hdr⟩ | ⟨hat, hdr⟩⟩
    · have hkn : k < n := by rw [← HX.out]; exact (List.getElem?_eq_some_iff.1 hp0).1
      obtain rfl : true = bb := by rw [← HBB.out, hat]; rfl
      obtain ⟨g, rfl, -, hnc, -⟩ := kown_at HOW4.out (by omega)
      obtain ⟨hce, -⟩ := own_pcs HOW4.out hp0
      have hpt := HPT4.out p0 (List.mem_of_getElem? hp0)
      have hokp := HOK.out p0 (List.mem_of_getElem? hp0)
      have hke := (key_eq (p := p0.port) (q := po) hpt.2.2.1 HG.out).1 hkey
      obtain ⟨po1, v1, v2, g1, ex, left, s1, a1, c1'⟩ := p0
      simp only at hke
      obtain rfl : po = po1 := hke.1.symm
      obtain rfl : rg = g1 := hke.2.symm
      obtain ⟨n1, hn1⟩ : ∃ n1, s1.length = n1 := ⟨_, rfl⟩
      unfold PCs Plc.sl at hce
      simp only [hn1] at hce
      obtain ⟨d0, d1, d2, d3, d4, d5, d6⟩ := hce
      have HDR := Lib.hid hdr
      have HTK := Lib.hid htk
      have HAT := Lib.hid hat
      have HPT1 := Lib.hid hpt
      unfold okP at hokp
      simp only at hokp
      have HI1 : Hid (Inc (ad s1)) := Lib.hid hokp.2.2.2.1.inc
      have HN1 : Hid (s1.length = n1 ∧ n1 ≤ 64) := Lib.hid ⟨hn1, by have := hokp.2.2.2.1.2.1; omega⟩
      have HV12 : Hid (isI v1 ∧ isI v2) := Lib.hid ⟨hpt.2.1.2.1, hpt.2.1.2.2⟩
      have hlf := hokp.2.2.2.1.left
      have HTB : Hid ((1 ≤ la ∧ la ≤ 1000000) ∧ (0 ≤ kp ∧ kp ≤ 1000000) ∧ (0 ≤ left ∧ left ≤ 1000000) ∧ (0 ≤ rg ∧ rg ≤ 4294967295)) := Lib.hid (by have h1 := HM.out; have h2 := HG.out; unfold mayP at h1; omega)
      have hgw : g < w.heap.size := by
        rcases HCN.out.2.2 with ⟨g', e, h⟩ | e
        · cases e; exact h
        · cases e
      have HNE : Hid (∀ g' o, some (⟨g, 0, none⟩ : Addr) = some ⟨g', o, none⟩ → g' ≠ w.heap.size + 1 + 1) := Lib.hid (by intro g' o e; cases e; omega)
      have hk0 : (0 : Int) ≤ (k : Int) := by omega
      have hk1 : (k : Int) < (n : Int) := by omega
      have hk2 : (k : Int) ≤ (n : Int) := by omega
      have hk3 : k < c := by omega
      obtain ⟨x0, x1, x2, x3, x4, x5, x6, z0, z1, z2, z3, z4, z5, z6⟩ := V24.out.cells
      clear hp0 hdr htk hat hpt hokp hn1 hkey hkl hlf
      by_cases hcc : c = k + 1
      · subst hcc
        go_wp2_with fail
        go_region
        clear c0 c1 c2 c3 x0 x1 x2 x3 x4 x5 x6 z0 z1 z2 z3 z4 z5 z6 d0 d1 d2 d3 d4 d5 d6
        have BX0 := V24.out.store_but po v1 v2 rg ex left a1 n1 c1'
        have V25q := V24.out.store po v1 v2 rg ex left a1 n1 c1'
        generalize (((((((w9.setCell ⟨w.heap.size + 1 + 1, 0, none⟩ (.int .i64 po)).setCell ⟨w.heap.size + 1 + 1, 1, none⟩ (.int .i64 v1)).setCell ⟨w.heap.size + 1 + 1, 2, none⟩ (.int .i64 v2)).setCell ⟨w.heap.size + 1 + 1, 3, none⟩ (.int .u32 rg)).setCell ⟨w.heap.size + 1 + 1, 4, none⟩ (.bool ex)).setCell ⟨w.heap.size + 1 + 1, 5, none⟩ (.int .i64 left)).setCell ⟨w.heap.size + 1 + 1, 6, none⟩ (.slice a1 n1 c1')) = wq at *
        have BX : But1 (w.heap.size + 1 + 1) w9 (wq.drewN 1) := BX0.drewN 1
        rw [show wq.drew = wq.drewN 1 from rfl]
        have hx4 : w9.heap[w.heap.size + 1 + 1]? = some (.cells _ 77 (0, 0)) := V24.out
        have V25 : Hid (PV (wq.drewN 1) (w.heap.size + 1 + 1) po v1 v2 rg ex left a1 n1 c1') := Lib.hid V25q
        generalize wq.drewN 1 = w5 at *
        have V05 := Lib.hid (V04.out.but BX (by omega))
        have V15 := Lib.hid (V14.out.but BX (by omega))
        have HOW5 := Lib.hid (own_but_any HOW4.out BX HNE.out)
        have HPT5 : Hid (∀ p ∈ l, PT w5 p) := Lib.hid (fun p hp => (HPT4.out p hp).ty hx4 (by decide) BX)
        have HT1 := Lib.hid (HPT1.out.1.ty hx4 (by decide) BX)
        have HA5 := Lib.hid ((HA0.out.below HB4.out).but BX (fun b' o' e' hx => by have := HAB.out b' o' e' hx; omega))
        have HB5 := Lib.hid (HB4.out.trans (BX.below (by omega) HB4.out.size))
        clear BX BX0 V25q hx4 V04 V14 V24 HOW4 HPT4 HPT1 HA4 HPL4 HB4
        obtain ⟨c0, c1, c2, c3, -⟩ := V05.out.cells
        obtain ⟨r0, r1, r2, -⟩ := V15.out.cells
        obtain ⟨x0, x1, x2, x3, x4, x5, x6, -⟩ := V25.out.cells
        go_wp2_with fail
        clear c0 c1 c2 c3 r0 r1 r2 x0 x1 x2 x3 x4 x5 x6
        refine (dHear92 kp la po v1 v2 rg ex left a1 n1 c1' s1 ty rg b ln lc xs w5 HN1.out.1 HN1.out.2 HT1.out HI1.out HLX.out hln HA5.out HFLB.out HTB.out).mono ?_
        rintro e w6 ⟨⟨a5, c5, aa, cc, rs, rfl, h5, m5, q5⟩, hb6⟩
        obtain ⟨r, hr⟩ : ∃ r, hrP kp la v1 v2 rg ex left s1 ty xs = r := ⟨_, rfl⟩
        rw [hr] at h5 m5 ⊢
        have HRR := Lib.hid hr
        have hleft := hrP_left v1 v2 rg ex s1 ty xs (left := left) HTB.out.1 HTB.out.2.1 HTB.out.2.2.1
        rw [hr] at hleft
        obtain ⟨rex, rleft, s5, rq, rer⟩ := r
        simp only at h5 m5 hleft ⊢
        obtain ⟨n5, hn5⟩ : ∃ n5, s5.length = n5 := ⟨_, rfl⟩
        rw [hn5]
        have HN5 := Lib.hid hn5
        have V06 := Lib.hid (V05.out.below hb6 V05.out.lt)
        have V26 := Lib.hid (V25.out.below hb6 V25.out.lt)
        have HZ5 : Hid (w.heap.size ≤ w5.heap.size) := Lib.hid HB5.out.size
        have HB6 := Lib.hid (HB5.out.trans (hb6.mono HB5.out.size))
        have B7 := V26.out.store_but po v1 v2 rg rex rleft a5 n5 c5
        have hx6 : w6.heap[w.heap.size + 1 + 1]? = some (.cells _ 77 (0, 0)) := V26.out
        have V27 := Lib.hid (V26.out.store po v1 v2 rg rex rleft a5 n5 c5)
        have V07 := Lib.hid (V06.out.but B7 (by omega))
        have HP57 := Lib.hid (show PT _ ⟨po, v1, v2, rg, rex, rleft, s5, a5, c5⟩ from ⟨h5.ty hx6 (by decide) B7, ⟨⟨HPO.out, HV12.out.1, HV12.out.2⟩, HG.out, by unfold isI; simp only; omega⟩⟩)
        have Q57 := Lib.hid ((q5.ty hx6 (by decide) (by decide) B7).le HZ5.out)
        have HB7 := Lib.hid (HB6.out.trans (B7.below (by omega) HB6.out.size))
        have HOW7 := Lib.hid (own_but_any (own_grown HOW5.out hb6 (Nat.le_refl _)) B7 HNE.out)
        have HPT7 : Hid (∀ p ∈ l, PT _ p) := Lib.hid (fun p hp => ((HPT5.out p hp).below hb6).ty hx6 (by decide) B7)
        have M5 := Lib.hid m5
        have HZ7 := Lib.hid (Nat.le_trans HZ5.out (Nat.le_trans hb6.size B7.size))
        obtain ⟨p0, p1, p2, p3, p4, p5, p6, q0, q1, q2, q3, q4, q5', q6⟩ := V26.out.cells
        obtain ⟨c0, c1, c2, c3, -⟩ := V06.out.cells
        clear h5 m5 q5 hb6 hn5 hr hx6
        by_cases her : rer = 0
        · subst her
          go_wp2_with fail
          clear p0 p1 p2 p3 p4 p5 p6 q0 q1 q2 q3 q4 q5' q6 c0 c1 c2 c3 B7
          generalize (((((((w6.setCell ⟨w.heap.size + 1 + 1, 0, none⟩ (.int .i64 po)).setCell ⟨w.heap.size + 1 + 1, 1, none⟩ (.int .i64 v1)).setCell ⟨w.heap.size + 1 + 1, 2, none⟩ (.int .i64 v2)).setCell ⟨w.heap.size + 1 + 1, 3, none⟩ (.int .u32 rg)).setCell ⟨w.heap.size + 1 + 1, 4, none⟩ (.bool rex)).setCell ⟨w.heap.size + 1 + 1, 5, none⟩ (.int .i64 rleft)).setCell ⟨w.heap.size + 1 + 1, 6, none⟩ (.slice a5 n5 c5)) = w7 at *
          have HPLT := Lib.hid (own_pls HOW7.out HX.out (fun p hp => (HPT7.out p hp).ok))
          have HPLR : Hid (Pls w7 ((some ⟨g, k * 7, none⟩)) (l.drop (k + 1))) := Lib.hid (by rw [List.drop_eq_nil_of_le (by rw [HX.out]; omega)]; exact Pls.nil _ _)
          have HNIL : Hid ((some (⟨g, 0, none⟩ : Addr) : Option Addr) = none → (k + 1) = 0) := Lib.hid (fun e => (HCN.out.2.1 e).2)
          have HNIR : Hid (((some ⟨g, k * 7, none⟩) : Option Addr) = none → 0 = 0) := Lib.hid (fun e => rfl)
          have HLT : Hid ((l.take k).length = k) := Lib.hid (by rw [List.length_take, HX.out]; omega)
          have HLR : Hid ((l.drop (k + 1)).length = n - k - 1) := Lib.hid (by have := HX.out; rw [List.length_drop]; omega)
          obtain ⟨mid, hmid⟩ : ∃ mid, [(⟨po, v1, v2, rg, rex, rleft, s5, a5, c5⟩ : Plc)].filter sm = mid := ⟨_, rfl⟩
          obtain ⟨F, hF⟩ : ∃ F, l.take k ++ (mid ++ l.drop (k + 1)) = F := ⟨_, rfl⟩
          have HMID := Lib.hid hmid
          have HFF := Lib.hid hF
          have HP5 := HP57
          have hmp : ∀ p ∈ mid, PT w7 p := by
            intro p hp
            rw [← hmid] at hp
            obtain rfl : p = _ := by simpa using (List.mem_filter.1 hp).1
            exact HP5.out
          have HMP := Lib.hid hmp
          have HFL : Hid (F.length ≤ 100000) := Lib.hid (by
            rw [← hF, List.length_append, List.length_append, HLT.out, HLR.out, ← hmid]
            have := List.length_filter_le sm [(⟨po, v1, v2, rg, rex, rleft, s5, a5, c5⟩ : Plc)]
            simp only [List.length_cons, List.length_nil] at this
            have := hn
            omega)
          have HFP : Hid (∀ p ∈ F, PT w7 p) := Lib.hid (by
            intro p hp
            rw [← hF] at hp
            rcases List.mem_append.1 hp with h1 | h1
            · exact HPT7.out p (List.mem_of_mem_take h1)
            · rcases List.mem_append.1 h1 with h1 | h1
              · exact hmp p h1
              · exact HPT7.out p (List.mem_of_mem_drop h1))
          have hM : (if sm ⟨po, v1, v2, rg, rex, rleft, s5, none, 0⟩ then [(⟨po, v1, v2, rg, rex, rleft, s5, none, 0⟩ : Plc)] else []) = mid.map Plc.nm := by
            rw [← hmid, List.filter_cons]
            have e : sm (⟨po, v1, v2, rg, rex, rleft, s5, a5, c5⟩ : Plc) = sm ⟨po, v1, v2, rg, rex, rleft, s5, none, 0⟩ := rfl
            rw [e]
            split <;> rfl
          have hFN : F.map Plc.nm = (ltK (po * 4294967296 + rg) l).map Plc.nm ++ (mid.map Plc.nm ++ (gtK (po * 4294967296 + rg) l).map Plc.nm) := by
            rw [← hF, List.map_append, List.map_append, HTK.out, HDR.out]
          have HRES : Hid (hd9 kp la lim l po ty rg xs = if lim < (F.length : Int) then none else some (F.map Plc.nm, rq)) := Lib.hid (by
            have hlen : (F.length : Int) = (((ltK (po * 4294967296 + rg) l).map Plc.nm ++ (mid.map Plc.nm ++ (gtK (po * 4294967296 + rg) l).map Plc.nm)).length : Int) := by rw [← hFN, List.length_map]
            rw [hlen, hFN]
            by_cases hc : lim < (((ltK (po * 4294967296 + rg) l).map Plc.nm ++ (mid.map Plc.nm ++ (gtK (po * 4294967296 + rg) l).map Plc.nm)).length : Int)
            · rw [if_pos hc]
              exact hd9_full (p := ⟨po, v1, v2, rg, ex, left, s1, a1, c1'⟩) (by rw [HAT.out]; rfl) HRR.out rfl hM hc
            · rw [if_neg hc]
              exact hd9_ok (p := ⟨po, v1, v2, rg, ex, left, s1, a1, c1'⟩) (by rw [HAT.out]; rfl) HRR.out rfl hM hc)
          clear hmid hF hmp hM hFN hleft
          refine wp_region_each5 (hgV w.heap.size (some ⟨g, 0, none⟩) n (k + 1) k po v1 v2 rg rex rleft s5 a5 n5 c5 ((some ⟨g, k * 7, none⟩)) (n - k - 1) 0 mid F w7.heap.size) (fun W => Below w7.heap.size w7 W) (fun i A B => i ≠ 6 → Below A.heap.size A B) hgD hgK [51, 52, 53, 54, 55, 56, 57, 58, 59, 60, 15] (by kernel_rfl) (by kernel_rfl) (by kernel_rfl) (by kernel_rfl) (by kernel_rfl) (Below.refl _ w7).drew ?hst
            ⟨?_, ?_, ?_, ?_, ?_, ?_, ?_, ?_, ?_, ?_, ?_, trivial⟩ ?hend
          case hst =>
            intro i j oi oj v us A B hoi hoj hij hw hK hSA hr hv
            by_cases hj : j = 6
            · subst hj
              have hi : i < 11 := (Array.getElem?_eq_some_iff.1 hoi).1
              have hc : i = 0 ∨ i = 1 ∨ i = 2 ∨ i = 3 ∨ i = 4 ∨ i = 5 ∨ i = 6 ∨ i = 7 ∨ i = 8 ∨ i = 9 ∨ i = 10 := by omega
              rcases hc with rfl | rfl | rfl | rfl | rfl | rfl | rfl | rfl | rfl | rfl | rfl
              all_goals first
                | exact hg_st _ _ _ _ _ _ _ _ _ _ _ _ _ _ _ _ _ _ _ _ _ (.inl (by omega)) hv
                | exact absurd (by decide) hK
                | exact absurd rfl hij
                | (cases hoi; exact absurd hw (by decide))
            · exact hg_st _ _ _ _ _ _ _ _ _ _ _ _ _ _ _ _ _ _ _ _ _ (.inr (hr hj)) hv
          case refine_1 =>
            intro a' w9 hS h0 hd
            have e3 : a'.tmps[3]?.getD undef = .pointer (some ⟨w.heap.size, 0, none⟩) := vev (h0 3 (by kernel_rfl))
            refine Does2.value (.pointer (some ⟨w.heap.size, 3, none⟩)) (w' := w9) ?_ ⟨rfl, hS, fun _ => Below.refl _ _⟩
            clear hS h0 hd
            go_simp
          case refine_2 =>
            intro a' w9 hS h0 hd
            have e51 : a'.tmps[51]?.getD undef = .pointer (some ⟨w.heap.size, 3, none⟩) := vev (hd 0 List.mem_cons_self)
            obtain ⟨y0, y1, y2, y3, -⟩ := (V07.out.below hS V07.out.lt).cells
            refine Does2.value (.slice (some ⟨g, 0, none⟩) n (k + 1)) (w' := w9) ?_ ⟨rfl, hS, fun _ => Below.refl _ _⟩
            clear hS h0 hd
            go_simp
          case refine_3 =>
            intro a' w9 hS h0 hd
            have e10 : a'.tmps[10]?.getD undef = .int .i64 (k : Int) := vev (h0 10 (by kernel_rfl))
            refine Does2.value (.int .i64 (k : Int)) (w' := w9) ?_ ⟨rfl, hS, fun _ => Below.refl _ _⟩
            clear hS h0 hd
            go_simp
          case refine_4 =>
            intro a' w9 hS h0 hd
            have e52 : a'.tmps[52]?.getD undef = .slice (some ⟨g, 0, none⟩) n (k + 1) := vev (hd 1 List.mem_cons_self)
            have e53 : a'.tmps[53]?.getD undef = .int .i64 (k : Int) := vev (hd 2 (List.mem_cons_of_mem _ List.mem_cons_self))
            refine Does2.value (.slice (some ⟨g, 0, none⟩) k (k + 1)) (w' := w9) ?_ ⟨rfl, hS, fun _ => Below.refl _ _⟩
            clear hS h0 hd
            first | (go_simp; done) | (go_simp; intro hh; exfalso; omega)
          case refine_5 =>
            intro a' w9 hS h0 hd
            have e9 : a'.tmps[9]?.getD undef = .pointer (some ⟨w.heap.size + 1 + 1, 0, none⟩) := vev (h0 9 (by kernel_rfl))
            obtain ⟨y0, y1, y2, y3, y4, y5, y6, -⟩ := (V27.out.below hS V27.out.lt).cells
            refine Does2.value (.agg #[.int .i64 po, .int .i64 v1, .int .i64 v2, .int .u32 rg, .bool rex, .int .i64 rleft, .slice a5 n5 c5]) (w' := w9) ?_ ⟨rfl, hS, fun _ => Below.refl _ _⟩
            clear hS h0 hd
            go_simp
          case refine_6 =>
            intro a' w9 hS h0 hd
            have e55 : a'.tmps[55]?.getD undef = .agg #[.int .i64 po, .int .i64 v1, .int .i64 v2, .int .u32 rg, .bool rex, .int .i64 rleft, .slice a5 n5 c5] := vev (hd 4 List.mem_cons_self)
            refine Does2.value (.slice (some ⟨w9.heap.size, 0, none⟩) 1 1) (w' := w9.alloc (.cells #[.int .i64 po, .int .i64 v1, .int .i64 v2, .int .u32 rg, .bool rex, .int .i64 rleft, .slice a5 n5 c5] 77)) ?_ ⟨⟨_, rfl, plc_row w9 po v1 v2 rg rex rleft s5 a5 n5 c5 w7.heap.size HN5.out hS.size⟩, hS.alloc hS.size _, fun _ => bel1 w9 _⟩
            clear hS h0 hd
            go_simp
          case refine_7 =>
            intro a' w9 hS h0 hd
            obtain ⟨g56, e56, h56⟩ := hd 5 List.mem_cons_self
            replace e56 := vev e56
            have hone : ∀ p ∈ [(⟨po, v1, v2, rg, rex, rleft, s5, a5, c5⟩ : Plc)], PT w9 p := by
              intro p hp
              obtain rfl : p = _ := by simpa using hp
              exact HP5.out.below hS
            refine Does2.call 70 #[.slice (some ⟨g56, 0, none⟩) 1 1] (w' := w9) ?_ ((dSomes w7.heap.size (some ⟨g56, 0, none⟩) 1 1 [⟨po, v1, v2, rg, rex, rleft, s5, a5, c5⟩] w9 hS.size rfl (by omega) h56 hone).mono ?_)
            · clear hS h0 hd h56 hone
              go_simp
            · rintro e w8 ⟨⟨rfl, ho, ht⟩, hb⟩
              rw [HMID.out] at ho ⊢
              exact ⟨_, rfl, ⟨_, _, rfl, ho⟩, hS.trans hb, fun h => absurd rfl h⟩
          case refine_8 =>
            intro a' w9 hS h0 hd
            have e12 : a'.tmps[12]?.getD undef = .slice ((some ⟨g, k * 7, none⟩)) (n - k - 1) 0 := vev (h0 12 (by kernel_rfl))
            refine Does2.value (.slice ((some ⟨g, k * 7, none⟩)) (n - k - 1) 0) (w' := w9) ?_ ⟨rfl, hS, fun _ => Below.refl _ _⟩
            clear hS h0 hd
            go_simp
          case refine_9 =>
            intro a' w9 hS h0 hd
            have e54 : a'.tmps[54]?.getD undef = .slice (some ⟨g, 0, none⟩) k (k + 1) := vev (hd 3 List.mem_cons_self)
            obtain ⟨a57, c57, e57, h57⟩ := hd 6 (List.mem_cons_of_mem _ List.mem_cons_self)
            replace e57 := vev e57
            have e58 : a'.tmps[58]?.getD undef = .slice ((some ⟨g, k * 7, none⟩)) (n - k - 1) 0 := vev (hd 7 (List.mem_cons_of_mem _ (List.mem_cons_of_mem _ List.mem_cons_self)))
            have hm := own_pls h57 rfl (fun p hp => (HMP.out p hp).ok.below hS)
            have hfl := (own_sl h57)
            obtain ⟨a57', c57', e57, hfl⟩ := hfl
            cases e57
            have hr := rows3 w9 (l.take k, some ⟨g, 0, none⟩, (k + 1)) (mid, a57, c57) (l.drop (k + 1), ((some ⟨g, k * 7, none⟩)), 0) ⟨(HPLT.out.take k).below hS, HNIL.out⟩ ⟨hm, flat_nil hfl⟩ ⟨HPLR.out.below hS, HNIR.out⟩
            simp only [HLT.out, HLR.out] at hr
            have hal : alls9 [(l.take k, some ⟨g, 0, none⟩, (k + 1)), (mid, a57, c57), (l.drop (k + 1), ((some ⟨g, k * 7, none⟩)), 0)] = F := by rw [← HFF.out]; simp [alls9]
            refine Does2.value (.slice (some ⟨w9.heap.size, 0, none⟩) 3 3) (w' := w9.alloc (.cells #[.slice (some ⟨g, 0, none⟩) k (k + 1), .slice a57 mid.length c57, .slice ((some ⟨g, k * 7, none⟩)) (n - k - 1) 0] 44)) ?_ ⟨⟨_, _, _, rfl, rfl, hr, hal⟩, hS.alloc hS.size _, fun _ => bel1 w9 _⟩
            clear hS h0 hd h57 hm hfl hr hal
            go_simp
          case refine_10 =>
            intro a' w9 hS h0 hd
            obtain ⟨A59, c59, R59, e59, l59, h59, q59⟩ := hd 8 List.mem_cons_self
            replace e59 := vev e59
            refine Does2.call 93 #[.slice A59 3 c59] (w' := w9) ?_ ((lConcatP A59 3 c59 R59 w9 l59 (by omega) (by rw [q59]; exact HFL.out) h59).mono ?_)
            · clear hS h0 hd h59
              go_simp
            · rintro e w8 ⟨a8, c8, rfl, ho, hb⟩
              rw [q59] at ho ⊢
              exact ⟨_, rfl, ⟨_, _, rfl, vown_le ho hS.size⟩, hS.trans (hb.mono hS.size), fun _ => hb⟩
          case refine_11 =>
            intro a' w9 hS h0 hd
            obtain ⟨a60, c60, e60, h60⟩ := hd 9 List.mem_cons_self
            replace e60 := vev e60
            refine Does2.value (.slice a60 F.length c60) (w' := w9) ?_ ⟨⟨_, _, rfl, h60⟩, hS, fun _ => Below.refl _ _⟩
            clear hS h0 hd h60
            go_simp
          case hend =>
            intro fz wz hS hv
            obtain ⟨a60, c60, v15, h60⟩ := hv 10 (by decide) (fun k hk => (by cases hk))
            replace v15 : fz 15 = .slice a60 F.length c60 := v15
            simp only [putAll, Act.put, List.setIfInBounds_toArray, List.set_cons_zero, List.set_cons_succ, v15]
            have HB9 := Lib.hid (HB7.out.trans (hS.mono HB7.out.size))
            have V09 := Lib.hid (V07.out.below hS V07.out.lt)
            have HOF : Hid (wz.ownsRow w.heap.size 77 7 (.slice a60 F.length c60) F.length (pv F)) := Lib.hid (vown_le h60 HZ7.out)
            have Q59 := Lib.hid (Q57.out.below hS)
            have HFP9 : Hid (∀ p ∈ F, PT wz p) := Lib.hid (fun p hp => (HFP.out p hp).below hS)
            clear hS hv h60 v15
            obtain ⟨c0, c1, c2, c3, -⟩ := V09.out.cells
            by_cases hc : lim < (F.length : Int)
            · have hd : decide (lim < (F.length : Int)) = true := decide_eq_true hc
              have HRES2 : Hid (hd9 kp la lim l po ty rg xs = none) := Lib.hid (by rw [HRES.out, if_pos hc])
              clear hc
              go_wp2_with fail
              refine ret_t3 (u := 6) (v := 7) (x := 8) rfl rfl ?_
              rw [HRES2.out]
              exact ⟨⟨7, by decide, rfl⟩, HB9.out⟩
            · have hd : decide (lim < (F.length : Int)) = false := decide_eq_false hc
              have HRES2 : Hid (hd9 kp la lim l po ty rg xs = some (F.map Plc.nm, rq)) := Lib.hid (by rw [HRES.out, if_neg hc])
              clear hc
              go_wp2_with fail
              refine ret_t3 (u := 6) (v := 7) (x := 8) rfl rfl ?_
              rw [HRES2.out]
              exact ⟨⟨a60, c60, F, aa, cc, rs, rfl, rfl, HOF.out, HFP9.out, M5.out, Q59.out⟩, HB9.out⟩
        · have he' : (rer != 0) = true := by simpa using her
          have HER := Lib.hid her
          clear her
          go_wp2_with fail
          refine ret_t3 (u := 6) (v := 7) (x := 8) rfl rfl ?_
          rw [hd9_er (p := ⟨po, v1, v2, rg, ex, left, s1, a1, c1'⟩) (by rw [HAT.out]; rfl) HRR.out HER.out]
          exact ⟨⟨rer, HER.out, rfl⟩, HB7.out⟩
      · have hcc1 : ¬ c - k - 1 = 0 := by omega
        have hcc2 : ¬ c - k = 1 := by omega
        go_wp2_with fail
        go_region
        clear c0 c1 c2 c3 x0 x1 x2 x3 x4 x5 x6 z0 z1 z2 z3 z4 z5 z6 d0 d1 d2 d3 d4 d5 d6
        have BX0 := V24.out.store_but po v1 v2 rg ex left a1 n1 c1'
        have V25q := V24.out.store po v1 v2 rg ex left a1 n1 c1'
        generalize (((((((w9.setCell ⟨w.heap.size + 1 + 1, 0, none⟩ (.int .i64 po)).setCell ⟨w.heap.size + 1 + 1, 1, none⟩ (.int .i64 v1)).setCell ⟨w.heap.size + 1 + 1, 2, none⟩ (.int .i64 v2)).setCell ⟨w.heap.size + 1 + 1, 3, none⟩ (.int .u32 rg)).setCell ⟨w.heap.size + 1 + 1, 4, none⟩ (.bool ex)).setCell ⟨w.heap.size + 1 + 1, 5, none⟩ (.int .i64 left)).setCell ⟨w.heap.size + 1 + 1, 6, none⟩ (.slice a1 n1 c1')) = wq at *
        have BX : But1 (w.heap.size + 1 + 1) w9 (wq.drewN 1) := BX0.drewN 1
        rw [show wq.drew = wq.drewN 1 from rfl]
        have hx4 : w9.heap[w.heap.size + 1 + 1]? = some (.cells _ 77 (0, 0)) := V24.out
        have V25 : Hid (PV (wq.drewN 1) (w.heap.size + 1 + 1) po v1 v2 rg ex left a1 n1 c1') := Lib.hid V25q
        generalize wq.drewN 1 = w5 at *
        have V05 := Lib.hid (V04.out.but BX (by omega))
        have V15 := Lib.hid (V14.out.but BX (by omega))
        have HOW5 := Lib.hid (own_but_any HOW4.out BX HNE.out)
        have HPT5 : Hid (∀ p ∈ l, PT w5 p) := Lib.hid (fun p hp => (HPT4.out p hp).ty hx4 (by decide) BX)
        have HT1 := Lib.hid (HPT1.out.1.ty hx4 (by decide) BX)
        have HA5 := Lib.hid ((HA0.out.below HB4.out).but BX (fun b' o' e' hx => by have := HAB.out b' o' e' hx; omega))
        have HB5 := Lib.hid (HB4.out.trans (BX.below (by omega) HB4.out.size))
        clear BX BX0 V25q hx4 V04 V14 V24 HOW4 HPT4 HPT1 HA4 HPL4 HB4
        obtain ⟨c0, c1, c2, c3, -⟩ := V05.out.cells
        obtain ⟨r0, r1, r2, -⟩ := V15.out.cells
        obtain ⟨x0, x1, x2, x3, x4, x5, x6, -⟩ := V25.out.cells
        go_wp2_with fail
        clear c0 c1 c2 c3 r0 r1 r2 x0 x1 x2 x3 x4 x5 x6
        refine (dHear92 kp la po v1 v2 rg ex left a1 n1 c1' s1 ty rg b ln lc xs w5 HN1.out.1 HN1.out.2 HT1.out HI1.out HLX.out hln HA5.out HFLB.out HTB.out).mono ?_
        rintro e w6 ⟨⟨a5, c5, aa, cc, rs, rfl, h5, m5, q5⟩, hb6⟩
        obtain ⟨r, hr⟩ : ∃ r, hrP kp la v1 v2 rg ex left s1 ty xs = r := ⟨_, rfl⟩
        rw [hr] at h5 m5 ⊢
        have HRR := Lib.hid hr
        have hleft := hrP_left v1 v2 rg ex s1 ty xs (left := left) HTB.out.1 HTB.out.2.1 HTB.out.2.2.1
        rw [hr] at hleft
        obtain ⟨rex, rleft, s5, rq, rer⟩ := r
        simp only at h5 m5 hleft ⊢
        obtain ⟨n5, hn5⟩ : ∃ n5, s5.length = n5 := ⟨_, rfl⟩
        rw [hn5]
        have HN5 := Lib.hid hn5
        have V06 := Lib.hid (V05.out.below hb6 V05.out.lt)
        have V26 := Lib.hid (V25.out.below hb6 V25.out.lt)
        have HZ5 : Hid (w.heap.size ≤ w5.heap.size) := Lib.hid HB5.out.size
        have HB6 := Lib.hid (HB5.out.trans (hb6.mono HB5.out.size))
        have B7 := V26.out.store_but po v1 v2 rg rex rleft a5 n5 c5
        have hx6 : w6.heap[w.heap.size + 1 + 1]? = some (.cells _ 77 (0, 0)) := V26.out
        have V27 := Lib.hid (V26.out.store po v1 v2 rg rex rleft a5 n5 c5)
        have V07 := Lib.hid (V06.out.but B7 (by omega))
        have HP57 := Lib.hid (show PT _ ⟨po, v1, v2, rg, rex, rleft, s5, a5, c5⟩ from ⟨h5.ty hx6 (by decide) B7, ⟨⟨HPO.out, HV12.out.1, HV12.out.2⟩, HG.out, by unfold isI; simp only; omega⟩⟩)
        have Q57 := Lib.hid ((q5.ty hx6 (by decide) (by decide) B7).le HZ5.out)
        have HB7 := Lib.hid (HB6.out.trans (B7.below (by omega) HB6.out.size))
        have HOW7 := Lib.hid (own_but_any (own_grown HOW5.out hb6 (Nat.le_refl _)) B7 HNE.out)
        have HPT7 : Hid (∀ p ∈ l, PT _ p) := Lib.hid (fun p hp => ((HPT5.out p hp).below hb6).ty hx6 (by decide) B7)
        have M5 := Lib.hid m5
        have HZ7 := Lib.hid (Nat.le_trans HZ5.out (Nat.le_trans hb6.size B7.size))
        obtain ⟨p0, p1, p2, p3, p4, p5, p6, q0, q1, q2, q3, q4, q5', q6⟩ := V26.out.cells
        obtain ⟨c0, c1, c2, c3, -⟩ := V06.out.cells
        clear h5 m5 q5 hb6 hn5 hr hx6
        by_cases her : rer = 0
        · subst her
          go_wp2_with fail
          clear p0 p1 p2 p3 p4 p5 p6 q0 q1 q2 q3 q4 q5' q6 c0 c1 c2 c3 B7
          generalize (((((((w6.setCell ⟨w.heap.size + 1 + 1, 0, none⟩ (.int .i64 po)).setCell ⟨w.heap.size + 1 + 1, 1, none⟩ (.int .i64 v1)).setCell ⟨w.heap.size + 1 + 1, 2, none⟩ (.int .i64 v2)).setCell ⟨w.heap.size + 1 + 1, 3, none⟩ (.int .u32 rg)).setCell ⟨w.heap.size + 1 + 1, 4, none⟩ (.bool rex)).setCell ⟨w.heap.size + 1 + 1, 5, none⟩ (.int .i64 rleft)).setCell ⟨w.heap.size + 1 + 1, 6, none⟩ (.slice a5 n5 c5)) = w7 at *
          have HPLT := Lib.hid (own_pls HOW7.out HX.out (fun p hp => (HPT7.out p hp).ok))
          have HPLR : Hid (Pls w7 ((some ⟨g, k * 7 + 7, none⟩)) (l.drop (k + 1))) := Lib.hid (by have h := HPLT.out.drop (k + 1); rwa [show 0 + (k + 1) * 7 = k * 7 + 7 by omega] at h)
          have HNIL : Hid ((some (⟨g, 0, none⟩ : Addr) : Option Addr) = none → c = 0) := Lib.hid (fun e => (HCN.out.2.1 e).2)
          have HNIR : Hid (((some ⟨g, k * 7 + 7, none⟩) : Option Addr) = none → c - k - 1 = 0) := Lib.hid (fun e => (by cases e))
          have HLT : Hid ((l.take k).length = k) := Lib.hid (by rw [List.length_take, HX.out]; omega)
          have HLR : Hid ((l.drop (k + 1)).length = n - k - 1) := Lib.hid (by have := HX.out; rw [List.length_drop]; omega)
          obtain ⟨mid, hmid⟩ : ∃ mid, [(⟨po, v1, v2, rg, rex, rleft, s5, a5, c5⟩ : Plc)].filter sm = mid := ⟨_, rfl⟩
          obtain ⟨F, hF⟩ : ∃ F, l.take k ++ (mid ++ l.drop (k + 1)) = F := ⟨_, rfl⟩
          have HMID := Lib.hid hmid
          have HFF := Lib.hid hF
          have HP5 := HP57
          have hmp : ∀ p ∈ mid, PT w7 p := by
            intro p hp
            rw [← hmid] at hp
            obtain rfl : p = _ := by simpa using (List.mem_filter.1 hp).1
            exact HP5.out
          have HMP := Lib.hid hmp
          have HFL : Hid (F.length ≤ 100000) := Lib.hid (by
            rw [← hF, List.length_append, List.length_append, HLT.out, HLR.out, ← hmid]
            have := List.length_filter_le sm [(⟨po, v1, v2, rg, rex, rleft, s5, a5, c5⟩ : Plc)]
            simp only [List.length_cons, List.length_nil] at this
            have := hn
            omega)
          have HFP : Hid (∀ p ∈ F, PT w7 p) := Lib.hid (by
            intro p hp
            rw [← hF] at hp
            rcases List.mem_append.1 hp with h1 | h1
            · exact HPT7.out p (List.mem_of_mem_take h1)
            · rcases List.mem_append.1 h1 with h1 | h1
              · exact hmp p h1
              · exact HPT7.out p (List.mem_of_mem_drop h1))
          have hM : (if sm ⟨po, v1, v2, rg, rex, rleft, s5, none, 0⟩ then [(⟨po, v1, v2, rg, rex, rleft, s5, none, 0⟩ : Plc)] else []) = mid.map Plc.nm := by
            rw [← hmid, List.filter_cons]
            have e : sm (⟨po, v1, v2, rg, rex, rleft, s5, a5, c5⟩ : Plc) = sm ⟨po, v1, v2, rg, rex, rleft, s5, none, 0⟩ := rfl
            rw [e]
            split <;> rfl
          have hFN : F.map Plc.nm = (ltK (po * 4294967296 + rg) l).map Plc.nm ++ (mid.map Plc.nm ++ (gtK (po * 4294967296 + rg) l).map Plc.nm) := by
            rw [← hF, List.map_append, List.map_append, HTK.out, HDR.out]
          have HRES : Hid (hd9 kp la lim l po ty rg xs = if lim < (F.length : Int) then none else some (F.map Plc.nm, rq)) := Lib.hid (by
            have hlen : (F.length : Int) = (((ltK (po * 4294967296 + rg) l).map Plc.nm ++ (mid.map Plc.nm ++ (gtK (po * 4294967296 + rg) l).map Plc.nm)).length : Int) := by rw [← hFN, List.length_map]
            rw [hlen, hFN]
            by_cases hc : lim < (((ltK (po * 4294967296 + rg) l).map Plc.nm ++ (mid.map Plc.nm ++ (gtK (po * 4294967296 + rg) l).map Plc.nm)).length : Int)
            · rw [if_pos hc]
              exact hd9_full (p := ⟨po, v1, v2, rg, ex, left, s1, a1, c1'⟩) (by rw [HAT.out]; rfl) HRR.out rfl hM hc
            · rw [if_neg hc]
              exact hd9_ok (p := ⟨po, v1, v2, rg, ex, left, s1, a1, c1'⟩) (by rw [HAT.out]; rfl) HRR.out rfl hM hc)
          clear hmid hF hmp hM hFN hleft
          refine wp_region_each5 (hgV w.heap.size (some ⟨g, 0, none⟩) n c k po v1 v2 rg rex rleft s5 a5 n5 c5 ((some ⟨g, k * 7 + 7, none⟩)) (n - k - 1) (c - k - 1) mid F w7.heap.size) (fun W => Below w7.heap.size w7 W) (fun i A B => i ≠ 6 → Below A.heap.size A B) hgD hgK [51, 52, 53, 54, 55, 56, 57, 58, 59, 60, 15] (by kernel_rfl) (by kernel_rfl) (by kernel_rfl) (by kernel_rfl) (by kernel_rfl) (Below.refl _ w7).drew ?hst
            ⟨?_, ?_, ?_, ?_, ?_, ?_, ?_, ?_, ?_, ?_, ?_, trivial⟩ ?hend
          case hst =>
            intro i j oi oj v us A B hoi hoj hij hw hK hSA hr hv
            by_cases hj : j = 6
            · subst hj
              have hi : i < 11 := (Array.getElem?_eq_some_iff.1 hoi).1
              have hc : i = 0 ∨ i = 1 ∨ i = 2 ∨ i = 3 ∨ i = 4 ∨ i = 5 ∨ i = 6 ∨ i = 7 ∨ i = 8 ∨ i = 9 ∨ i = 10 := by omega
              rcases hc with rfl | rfl | rfl | rfl | rfl | rfl | rfl | rfl | rfl | rfl | rfl
              all_goals first
                | exact hg_st _ _ _ _ _ _ _ _ _ _ _ _ _ _ _ _ _ _ _ _ _ (.inl (by omega)) hv
                | exact absurd (by decide) hK
                | exact absurd rfl hij
                | (cases hoi; exact absurd hw (by decide))
            · exact hg_st _ _ _ _ _ _ _ _ _ _ _ _ _ _ _ _ _ _ _ _ _ (.inr (hr hj)) hv
          case refine_1 =>
            intro a' w9 hS h0 hd
            have e3 : a'.tmps[3]?.getD undef = .pointer (some ⟨w.heap.size, 0, none⟩) := vev (h0 3 (by kernel_rfl))
            refine Does2.value (.pointer (some ⟨w.heap.size, 3, none⟩)) (w' := w9) ?_ ⟨rfl, hS, fun _ => Below.refl _ _⟩
            clear hS h0 hd
            go_simp
          case refine_2 =>
            intro a' w9 hS h0 hd
            have e51 : a'.tmps[51]?.getD undef = .pointer (some ⟨w.heap.size, 3, none⟩) := vev (hd 0 List.mem_cons_self)
            obtain ⟨y0, y1, y2, y3, -⟩ := (V07.out.below hS V07.out.lt).cells
            refine Does2.value (.slice (some ⟨g, 0, none⟩) n c) (w' := w9) ?_ ⟨rfl, hS, fun _ => Below.refl _ _⟩
            clear hS h0 hd
            go_simp
          case refine_3 =>
            intro a' w9 hS h0 hd
            have e10 : a'.tmps[10]?.getD undef = .int .i64 (k : Int) := vev (h0 10 (by kernel_rfl))
            refine Does2.value (.int .i64 (k : Int)) (w' := w9) ?_ ⟨rfl, hS, fun _ => Below.refl _ _⟩
            clear hS h0 hd
            go_simp
          case refine_4 =>
            intro a' w9 hS h0 hd
            have e52 : a'.tmps[52]?.getD undef = .slice (some ⟨g, 0, none⟩) n c := vev (hd 1 List.mem_cons_self)
            have e53 : a'.tmps[53]?.getD undef = .int .i64 (k : Int) := vev (hd 2 (List.mem_cons_of_mem _ List.mem_cons_self))
            refine Does2.value (.slice (some ⟨g, 0, none⟩) k c) (w' := w9) ?_ ⟨rfl, hS, fun _ => Below.refl _ _⟩
            clear hS h0 hd
            first | (go_simp; done) | (go_simp; intro hh; exfalso; omega)
          case refine_5 =>
            intro a' w9 hS h0 hd
            have e9 : a'.tmps[9]?.getD undef = .pointer (some ⟨w.heap.size + 1 + 1, 0, none⟩) := vev (h0 9 (by kernel_rfl))
            obtain ⟨y0, y1, y2, y3, y4, y5, y6, -⟩ := (V27.out.below hS V27.out.lt).cells
            refine Does2.value (.agg #[.int .i64 po, .int .i64 v1, .int .i64 v2, .int .u32 rg, .bool rex, .int .i64 rleft, .slice a5 n5 c5]) (w' := w9) ?_ ⟨rfl, hS, fun _ => Below.refl _ _⟩
            clear hS h0 hd
            go_simp
          case refine_6 =>
            intro a' w9 hS h0 hd
            have e55 : a'.tmps[55]?.getD undef = .agg #[.int .i64 po, .int .i64 v1, .int .i64 v2, .int .u32 rg, .bool rex, .int .i64 rleft, .slice a5 n5 c5] := vev (hd 4 List.mem_cons_self)
            refine Does2.value (.slice (some ⟨w9.heap.size, 0, none⟩) 1 1) (w' := w9.alloc (.cells #[.int .i64 po, .int .i64 v1, .int .i64 v2, .int .u32 rg, .bool rex, .int .i64 rleft, .slice a5 n5 c5] 77)) ?_ ⟨⟨_, rfl, plc_row w9 po v1 v2 rg rex rleft s5 a5 n5 c5 w7.heap.size HN5.out hS.size⟩, hS.alloc hS.size _, fun _ => bel1 w9 _⟩
            clear hS h0 hd
            go_simp
          case refine_7 =>
            intro a' w9 hS h0 hd
            obtain ⟨g56, e56, h56⟩ := hd 5 List.mem_cons_self
            replace e56 := vev e56
            have hone : ∀ p ∈ [(⟨po, v1, v2, rg, rex, rleft, s5, a5, c5⟩ : Plc)], PT w9 p := by
              intro p hp
              obtain rfl : p = _ := by simpa using hp
              exact HP5.out.below hS
            refine Does2.call 70 #[.slice (some ⟨g56, 0, none⟩) 1 1] (w' := w9) ?_ ((dSomes w7.heap.size (some ⟨g56, 0, none⟩) 1 1 [⟨po, v1, v2, rg, rex, rleft, s5, a5, c5⟩] w9 hS.size rfl (by omega) h56 hone).mono ?_)
            · clear hS h0 hd h56 hone
              go_simp
            · rintro e w8 ⟨⟨rfl, ho, ht⟩, hb⟩
              rw [HMID.out] at ho ⊢
              exact ⟨_, rfl, ⟨_, _, rfl, ho⟩, hS.trans hb, fun h => absurd rfl h⟩
          case refine_8 =>
            intro a' w9 hS h0 hd
            have e12 : a'.tmps[12]?.getD undef = .slice ((some ⟨g, k * 7 + 7, none⟩)) (n - k - 1) (c - k - 1) := vev (h0 12 (by kernel_rfl))
            refine Does2.value (.slice ((some ⟨g, k * 7 + 7, none⟩)) (n - k - 1) (c - k - 1)) (w' := w9) ?_ ⟨rfl, hS, fun _ => Below.refl _ _⟩
            clear hS h0 hd
            go_simp
          case refine_9 =>
            intro a' w9 hS h0 hd
            have e54 : a'.tmps[54]?.getD undef = .slice (some ⟨g, 0, none⟩) k c := vev (hd 3 List.mem_cons_self)
            obtain ⟨a57, c57, e57, h57⟩ := hd 6 (List.mem_cons_of_mem _ List.mem_cons_self)
            replace e57 := vev e57
            have e58 : a'.tmps[58]?.getD undef = .slice ((some ⟨g, k * 7 + 7, none⟩)) (n - k - 1) (c - k - 1) := vev (hd 7 (List.mem_cons_of_mem _ (List.mem_cons_of_mem _ List.mem_cons_self)))
            have hm := own_pls h57 rfl (fun p hp => (HMP.out p hp).ok.below hS)
            have hfl := (own_sl h57)
            obtain ⟨a57', c57', e57, hfl⟩ := hfl
            cases e57
            have hr := rows3 w9 (l.take k, some ⟨g, 0, none⟩, c) (mid, a57, c57) (l.drop (k + 1), ((some ⟨g, k * 7 + 7, none⟩)), (c - k - 1)) ⟨(HPLT.out.take k).below hS, HNIL.out⟩ ⟨hm, flat_nil hfl⟩ ⟨HPLR.out.below hS, HNIR.out⟩
            simp only [HLT.out, HLR.out] at hr
            have hal : alls9 [(l.take k, some ⟨g, 0, none⟩, c), (mid, a57, c57), (l.drop (k + 1), ((some ⟨g, k * 7 + 7, none⟩)), (c - k - 1))] = F := by rw [← HFF.out]; simp [alls9]
            refine Does2.value (.slice (some ⟨w9.heap.size, 0, none⟩) 3 3) (w' := w9.alloc (.cells #[.slice (some ⟨g, 0, none⟩) k c, .slice a57 mid.length c57, .slice ((some ⟨g, k * 7 + 7, none⟩)) (n - k - 1) (c - k - 1)] 44)) ?_ ⟨⟨_, _, _, rfl, rfl, hr, hal⟩, hS.alloc hS.size _, fun _ => bel1 w9 _⟩
            clear hS h0 hd h57 hm hfl hr hal
            go_simp
          case refine_10 =>
            intro a' w9 hS h0 hd
            obtain ⟨A59, c59, R59, e59, l59, h59, q59⟩ := hd 8 List.mem_cons_self
            replace e59 := vev e59
            refine Does2.call 93 #[.slice A59 3 c59] (w' := w9) ?_ ((lConcatP A59 3 c59 R59 w9 l59 (by omega) (by rw [q59]; exact HFL.out) h59).mono ?_)
            · clear hS h0 hd h59
              go_simp
            · rintro e w8 ⟨a8, c8, rfl, ho, hb⟩
              rw [q59] at ho ⊢
              exact ⟨_, rfl, ⟨_, _, rfl, vown_le ho hS.size⟩, hS.trans (hb.mono hS.size), fun _ => hb⟩
          case refine_11 =>
            intro a' w9 hS h0 hd
            obtain ⟨a60, c60, e60, h60⟩ := hd 9 List.mem_cons_self
            replace e60 := vev e60
            refine Does2.value (.slice a60 F.length c60) (w' := w9) ?_ ⟨⟨_, _, rfl, h60⟩, hS, fun _ => Below.refl _ _⟩
            clear hS h0 hd h60
            go_simp
          case hend =>
            intro fz wz hS hv
            obtain ⟨a60, c60, v15, h60⟩ := hv 10 (by decide) (fun k hk => (by cases hk))
            replace v15 : fz 15 = .slice a60 F.length c60 := v15
            simp only [putAll, Act.put, List.setIfInBounds_toArray, List.set_cons_zero, List.set_cons_succ, v15]
            have HB9 := Lib.hid (HB7.out.trans (hS.mono HB7.out.size))
            have V09 := Lib.hid (V07.out.below hS V07.out.lt)
            have HOF : Hid (wz.ownsRow w.heap.size 77 7 (.slice a60 F.length c60) F.length (pv F)) := Lib.hid (vown_le h60 HZ7.out)
            have Q59 := Lib.hid (Q57.out.below hS)
            have HFP9 : Hid (∀ p ∈ F, PT wz p) := Lib.hid (fun p hp => (HFP.out p hp).below hS)
            clear hS hv h60 v15
            obtain ⟨c0, c1, c2, c3, -⟩ := V09.out.cells
            by_cases hc : lim < (F.length : Int)
            · have hd : decide (lim < (F.length : Int)) = true := decide_eq_true hc
              have HRES2 : Hid (hd9 kp la lim l po ty rg xs = none) := Lib.hid (by rw [HRES.out, if_pos hc])
              clear hc
              go_wp2_with fail
              refine ret_t3 (u := 6) (v := 7) (x := 8) rfl rfl ?_
              rw [HRES2.out]
              exact ⟨⟨7, by decide, rfl⟩, HB9.out⟩
            · have hd : decide (lim < (F.length : Int)) = false := decide_eq_false hc
              have HRES2 : Hid (hd9 kp la lim l po ty rg xs = some (F.map Plc.nm, rq)) := Lib.hid (by rw [HRES.out, if_neg hc])
              clear hc
              go_wp2_with fail
              refine ret_t3 (u := 6) (v := 7) (x := 8) rfl rfl ?_
              rw [HRES2.out]
              exact ⟨⟨a60, c60, F, aa, cc, rs, rfl, rfl, HOF.out, HFP9.out, M5.out, Q59.out⟩, HB9.out⟩
        · have he' : (rer != 0) = true := by simpa using her
          have HER := Lib.hid her
          clear her
          go_wp2_with fail
          refine ret_t3 (u := 6) (v := 7) (x := 8) rfl rfl ?_
          rw [hd9_er (p := ⟨po, v1, v2, rg, ex, left, s1, a1, c1'⟩) (by rw [HAT.out]; rfl) HRR.out HER.out]
          exact ⟨⟨rer, HER.out, rfl⟩, HB7.out⟩
    · obtain rfl : false = bb := by rw [← HBB.out, hat]; rfl
      have HDR := Lib.hid hdr
      have HTK := Lib.hid htk
      have HAT := Lib.hid hat
      have hk0 : (0 : Int) ≤ (k : Int) := by omega
      have hkn : k ≤ n := by rw [← HX.out]; exact hkl
      have hk2 : (k : Int) ≤ (n : Int) := by omega
      have hnc := HCN.out.1
      clear hdr htk hat hkl
      by_cases hkk : k < c
      · have hck : ¬ c - k = 0 := by omega
        rcases HCN.out.2.2 with ⟨g, rfl, hgw⟩ | rfl
        · have HT1 : Hid (HT w9 none []) := Lib.hid ⟨Hs.nil _ _, .inl rfl⟩
          have HI1 : Hid (Inc (ad [])) := Lib.hid (by simp [ad, Inc])
          have HN1 : Hid (([] : List Hd).length = 0 ∧ 0 ≤ 64) := Lib.hid ⟨rfl, by omega⟩
          have HV12 : Hid (isI 0 ∧ isI 0) := Lib.hid (by unfold isI; omega)
          have HTB : Hid ((1 ≤ la ∧ la ≤ 1000000) ∧ (0 ≤ kp ∧ kp ≤ 1000000) ∧ ((0 : Int) ≤ 0 ∧ (0 : Int) ≤ 1000000) ∧ (0 ≤ rg ∧ rg ≤ 4294967295)) := Lib.hid (by have h1 := HM.out; have h2 := HG.out; unfold mayP at h1; omega)
          have HNE : Hid (∀ g' o, (some (⟨g, 0, none⟩ : Addr) : Option Addr) = some ⟨g', o, none⟩ → g' ≠ w.heap.size + 1 + 1) := Lib.hid (by
            intro g' o e
            first | (cases e; omega) | cases e)
          obtain ⟨r0, r1, r2, -⟩ := V14.out.cells
          obtain ⟨x0, x1, x2, x3, x4, x5, x6, -⟩ := V24.out.cells
          have V05 := V04
          have V25 := V24
          have HOW5 := HOW4
          have HPT5 := HPT4
          have HB5 := HB4
          have HA5 := HA4
          clear V04 V24 HOW4 HPT4 HB4 HA4 HPL4
          go_wp2_with fail
          clear c0 c1 c2 c3 r0 r1 r2 x0 x1 x2 x3 x4 x5 x6
          refine (dHear92 kp la po 0 0 rg false 0 none 0 0 [] ty rg b ln lc xs w9 HN1.out.1 HN1.out.2 HT1.out HI1.out HLX.out hln HA5.out HFLB.out HTB.out).mono ?_
          rintro e w6 ⟨⟨a5, c5, aa, cc, rs, rfl, h5, m5, q5⟩, hb6⟩
          obtain ⟨r, hr⟩ : ∃ r, hrP kp la 0 0 rg false 0 [] ty xs = r := ⟨_, rfl⟩
          rw [hr] at h5 m5 ⊢
          have HRR := Lib.hid hr
          have hleft := hrP_left 0 0 rg false [] ty xs (left := 0) HTB.out.1 HTB.out.2.1 HTB.out.2.2.1
          rw [hr] at hleft
          obtain ⟨rex, rleft, s5, rq, rer⟩ := r
          simp only at h5 m5 hleft ⊢
          obtain ⟨n5, hn5⟩ : ∃ n5, s5.length = n5 := ⟨_, rfl⟩
          rw [hn5]
          have HN5 := Lib.hid hn5
          have V06 := Lib.hid (V05.out.below hb6 V05.out.lt)
          have V26 := Lib.hid (V25.out.below hb6 V25.out.lt)
          have HZ5 : Hid (w.heap.size ≤ w9.heap.size) := Lib.hid HB5.out.size
          have HB6 := Lib.hid (HB5.out.trans (hb6.mono HB5.out.size))
          have B7 := V26.out.store_but po 0 0 rg rex rleft a5 n5 c5
          have hx6 : w6.heap[w.heap.size + 1 + 1]? = some (.cells _ 77 (0, 0)) := V26.out
          have V27 := Lib.hid (V26.out.store po 0 0 rg rex rleft a5 n5 c5)
          have V07 := Lib.hid (V06.out.but B7 (by omega))
          have HP57 := Lib.hid (show PT _ ⟨po, 0, 0, rg, rex, rleft, s5, a5, c5⟩ from ⟨h5.ty hx6 (by decide) B7, ⟨⟨HPO.out, HV12.out.1, HV12.out.2⟩, HG.out, by unfold isI; simp only; omega⟩⟩)
          have Q57 := Lib.hid ((q5.ty hx6 (by decide) (by decide) B7).le HZ5.out)
          have HB7 := Lib.hid (HB6.out.trans (B7.below (by omega) HB6.out.size))
          have HOW7 := Lib.hid (own_but_any (own_grown HOW5.out hb6 (Nat.le_refl _)) B7 HNE.out)
          have HPT7 : Hid (∀ p ∈ l, PT _ p) := Lib.hid (fun p hp => ((HPT5.out p hp).below hb6).ty hx6 (by decide) B7)
          have M5 := Lib.hid m5
          have HZ7 := Lib.hid (Nat.le_trans HZ5.out (Nat.le_trans hb6.size B7.size))
          obtain ⟨p0, p1, p2, p3, p4, p5, p6, q0, q1, q2, q3, q4, q5', q6⟩ := V26.out.cells
          obtain ⟨c0, c1, c2, c3, -⟩ := V06.out.cells
          clear h5 m5 q5 hb6 hn5 hr hx6
          by_cases her : rer = 0
          · subst her
            go_wp2_with fail
            clear p0 p1 p2 p3 p4 p5 p6 q0 q1 q2 q3 q4 q5' q6 c0 c1 c2 c3 B7
            generalize (((((((w6.setCell ⟨w.heap.size + 1 + 1, 0, none⟩ (.int .i64 po)).setCell ⟨w.heap.size + 1 + 1, 1, none⟩ (.int .i64 0)).setCell ⟨w.heap.size + 1 + 1, 2, none⟩ (.int .i64 0)).setCell ⟨w.heap.size + 1 + 1, 3, none⟩ (.int .u32 rg)).setCell ⟨w.heap.size + 1 + 1, 4, none⟩ (.bool rex)).setCell ⟨w.heap.size + 1 + 1, 5, none⟩ (.int .i64 rleft)).setCell ⟨w.heap.size + 1 + 1, 6, none⟩ (.slice a5 n5 c5)) = w7 at *
            have HPLT := Lib.hid (own_pls HOW7.out HX.out (fun p hp => (HPT7.out p hp).ok))
            have HPLR : Hid (Pls w7 ((some ⟨g, k * 7, none⟩)) (l.drop k)) := Lib.hid (by have h := HPLT.out.drop k; rwa [Nat.zero_add] at h)
            have HNIL : Hid ((some (⟨g, 0, none⟩ : Addr) : Option Addr) = none → c = 0) := Lib.hid (fun e => (HCN.out.2.1 e).2)
            have HNIR : Hid (((some ⟨g, k * 7, none⟩) : Option Addr) = none → c - k = 0) := Lib.hid (fun e => (by cases e))
            have HLT : Hid ((l.take k).length = k) := Lib.hid (by rw [List.length_take, HX.out]; omega)
            have HLR : Hid ((l.drop k).length = n - k) := Lib.hid (by have := HX.out; rw [List.length_drop]; omega)
            obtain ⟨mid, hmid⟩ : ∃ mid, [(⟨po, 0, 0, rg, rex, rleft, s5, a5, c5⟩ : Plc)].filter sm = mid := ⟨_, rfl⟩
            obtain ⟨F, hF⟩ : ∃ F, l.take k ++ (mid ++ l.drop k) = F := ⟨_, rfl⟩
            have HMID := Lib.hid hmid
            have HFF := Lib.hid hF
            have HP5 := HP57
            have hmp : ∀ p ∈ mid, PT w7 p := by
              intro p hp
              rw [← hmid] at hp
              obtain rfl : p = _ := by simpa using (List.mem_filter.1 hp).1
              exact HP5.out
            have HMP := Lib.hid hmp
            have HFL : Hid (F.length ≤ 100000) := Lib.hid (by
              rw [← hF, List.length_append, List.length_append, HLT.out, HLR.out, ← hmid]
              have := List.length_filter_le sm [(⟨po, 0, 0, rg, rex, rleft, s5, a5, c5⟩ : Plc)]
              simp only [List.length_cons, List.length_nil] at this
              have := hn
              omega)
            have HFP : Hid (∀ p ∈ F, PT w7 p) := Lib.hid (by
              intro p hp
              rw [← hF] at hp
              rcases List.mem_append.1 hp with h1 | h1
              · exact HPT7.out p (List.mem_of_mem_take h1)
              · rcases List.mem_append.1 h1 with h1 | h1
                · exact hmp p h1
                · exact HPT7.out p (List.mem_of_mem_drop h1))
            have hM : (if sm ⟨po, 0, 0, rg, rex, rleft, s5, none, 0⟩ then [(⟨po, 0, 0, rg, rex, rleft, s5, none, 0⟩ : Plc)] else []) = mid.map Plc.nm := by
              rw [← hmid, List.filter_cons]
              have e : sm (⟨po, 0, 0, rg, rex, rleft, s5, a5, c5⟩ : Plc) = sm ⟨po, 0, 0, rg, rex, rleft, s5, none, 0⟩ := rfl
              rw [e]
              split <;> rfl
            have hFN : F.map Plc.nm = (ltK (po * 4294967296 + rg) l).map Plc.nm ++ (mid.map Plc.nm ++ (gtK (po * 4294967296 + rg) l).map Plc.nm) := by
              rw [← hF, List.map_append, List.map_append, HTK.out, HDR.out]
            have HRES : Hid (hd9 kp la lim l po ty rg xs = if lim < (F.length : Int) then none else some (F.map Plc.nm, rq)) := Lib.hid (by
              have hlen : (F.length : Int) = (((ltK (po * 4294967296 + rg) l).map Plc.nm ++ (mid.map Plc.nm ++ (gtK (po * 4294967296 + rg) l).map Plc.nm)).length : Int) := by rw [← hFN, List.length_map]
              rw [hlen, hFN]
              by_cases hc : lim < (((ltK (po * 4294967296 + rg) l).map Plc.nm ++ (mid.map Plc.nm ++ (gtK (po * 4294967296 + rg) l).map Plc.nm)).length : Int)
              · rw [if_pos hc]
                exact hd9_full (p := ⟨po, 0, 0, rg, false, 0, [], none, 0⟩) (by rw [HAT.out]; rfl) HRR.out rfl hM hc
              · rw [if_neg hc]
                exact hd9_ok (p := ⟨po, 0, 0, rg, false, 0, [], none, 0⟩) (by rw [HAT.out]; rfl) HRR.out rfl hM hc)
            clear hmid hF hmp hM hFN hleft
            refine wp_region_each5 (hgV w.heap.size (some ⟨g, 0, none⟩) n c k po 0 0 rg rex rleft s5 a5 n5 c5 ((some ⟨g, k * 7, none⟩)) (n - k) (c - k) mid F w7.heap.size) (fun W => Below w7.heap.size w7 W) (fun i A B => i ≠ 6 → Below A.heap.size A B) hgD hgK [51, 52, 53, 54, 55, 56, 57, 58, 59, 60, 15] (by kernel_rfl) (by kernel_rfl) (by kernel_rfl) (by kernel_rfl) (by kernel_rfl) (Below.refl _ w7).drew ?hst
              ⟨?_, ?_, ?_, ?_, ?_, ?_, ?_, ?_, ?_, ?_, ?_, trivial⟩ ?hend
            case hst =>
              intro i j oi oj v us A B hoi hoj hij hw hK hSA hr hv
              by_cases hj : j = 6
              · subst hj
                have hi : i < 11 := (Array.getElem?_eq_some_iff.1 hoi).1
                have hc : i = 0 ∨ i = 1 ∨ i = 2 ∨ i = 3 ∨ i = 4 ∨ i = 5 ∨ i = 6 ∨ i = 7 ∨ i = 8 ∨ i = 9 ∨ i = 10 := by omega
                rcases hc with rfl | rfl | rfl | rfl | rfl | rfl | rfl | rfl | rfl | rfl | rfl
                all_goals first
                  | exact hg_st _ _ _ _ _ _ _ _ _ _ _ _ _ _ _ _ _ _ _ _ _ (.inl (by omega)) hv
                  | exact absurd (by decide) hK
                  | exact absurd rfl hij
                  | (cases hoi; exact absurd hw (by decide))
              · exact hg_st _ _ _ _ _ _ _ _ _ _ _ _ _ _ _ _ _ _ _ _ _ (.inr (hr hj)) hv
            case refine_1 =>
              intro a' w9 hS h0 hd
              have e3 : a'.tmps[3]?.getD undef = .pointer (some ⟨w.heap.size, 0, none⟩) := vev (h0 3 (by kernel_rfl))
              refine Does2.value (.pointer (some ⟨w.heap.size, 3, none⟩)) (w' := w9) ?_ ⟨rfl, hS, fun _ => Below.refl _ _⟩
              clear hS h0 hd
              go_simp
            case refine_2 =>
              intro a' w9 hS h0 hd
              have e51 : a'.tmps[51]?.getD undef = .pointer (some ⟨w.heap.size, 3, none⟩) := vev (hd 0 List.mem_cons_self)
              obtain ⟨y0, y1, y2, y3, -⟩ := (V07.out.below hS V07.out.lt).cells
              refine Does2.value (.slice (some ⟨g, 0, none⟩) n c) (w' := w9) ?_ ⟨rfl, hS, fun _ => Below.refl _ _⟩
              clear hS h0 hd
              go_simp
            case refine_3 =>
              intro a' w9 hS h0 hd
              have e10 : a'.tmps[10]?.getD undef = .int .i64 (k : Int) := vev (h0 10 (by kernel_rfl))
              refine Does2.value (.int .i64 (k : Int)) (w' := w9) ?_ ⟨rfl, hS, fun _ => Below.refl _ _⟩
              clear hS h0 hd
              go_simp
            case refine_4 =>
              intro a' w9 hS h0 hd
              have e52 : a'.tmps[52]?.getD undef = .slice (some ⟨g, 0, none⟩) n c := vev (hd 1 List.mem_cons_self)
              have e53 : a'.tmps[53]?.getD undef = .int .i64 (k : Int) := vev (hd 2 (List.mem_cons_of_mem _ List.mem_cons_self))
              refine Does2.value (.slice (some ⟨g, 0, none⟩) k c) (w' := w9) ?_ ⟨rfl, hS, fun _ => Below.refl _ _⟩
              clear hS h0 hd
              first | (go_simp; done) | (go_simp; intro hh; exfalso; omega)
            case refine_5 =>
              intro a' w9 hS h0 hd
              have e9 : a'.tmps[9]?.getD undef = .pointer (some ⟨w.heap.size + 1 + 1, 0, none⟩) := vev (h0 9 (by kernel_rfl))
              obtain ⟨y0, y1, y2, y3, y4, y5, y6, -⟩ := (V27.out.below hS V27.out.lt).cells
              refine Does2.value (.agg #[.int .i64 po, .int .i64 0, .int .i64 0, .int .u32 rg, .bool rex, .int .i64 rleft, .slice a5 n5 c5]) (w' := w9) ?_ ⟨rfl, hS, fun _ => Below.refl _ _⟩
              clear hS h0 hd
              go_simp
            case refine_6 =>
              intro a' w9 hS h0 hd
              have e55 : a'.tmps[55]?.getD undef = .agg #[.int .i64 po, .int .i64 0, .int .i64 0, .int .u32 rg, .bool rex, .int .i64 rleft, .slice a5 n5 c5] := vev (hd 4 List.mem_cons_self)
              refine Does2.value (.slice (some ⟨w9.heap.size, 0, none⟩) 1 1) (w' := w9.alloc (.cells #[.int .i64 po, .int .i64 0, .int .i64 0, .int .u32 rg, .bool rex, .int .i64 rleft, .slice a5 n5 c5] 77)) ?_ ⟨⟨_, rfl, plc_row w9 po 0 0 rg rex rleft s5 a5 n5 c5 w7.heap.size HN5.out hS.size⟩, hS.alloc hS.size _, fun _ => bel1 w9 _⟩
              clear hS h0 hd
              go_simp
            case refine_7 =>
              intro a' w9 hS h0 hd
              obtain ⟨g56, e56, h56⟩ := hd 5 List.mem_cons_self
              replace e56 := vev e56
              have hone : ∀ p ∈ [(⟨po, 0, 0, rg, rex, rleft, s5, a5, c5⟩ : Plc)], PT w9 p := by
                intro p hp
                obtain rfl : p = _ := by simpa using hp
                exact HP5.out.below hS
              refine Does2.call 70 #[.slice (some ⟨g56, 0, none⟩) 1 1] (w' := w9) ?_ ((dSomes w7.heap.size (some ⟨g56, 0, none⟩) 1 1 [⟨po, 0, 0, rg, rex, rleft, s5, a5, c5⟩] w9 hS.size rfl (by omega) h56 hone).mono ?_)
              · clear hS h0 hd h56 hone
                go_simp
              · rintro e w8 ⟨⟨rfl, ho, ht⟩, hb⟩
                rw [HMID.out] at ho ⊢
                exact ⟨_, rfl, ⟨_, _, rfl, ho⟩, hS.trans hb, fun h => absurd rfl h⟩
            case refine_8 =>
              intro a' w9 hS h0 hd
              have e12 : a'.tmps[12]?.getD undef = .slice ((some ⟨g, k * 7, none⟩)) (n - k) (c - k) := vev (h0 12 (by kernel_rfl))
              refine Does2.value (.slice ((some ⟨g, k * 7, none⟩)) (n - k) (c - k)) (w' := w9) ?_ ⟨rfl, hS, fun _ => Below.refl _ _⟩
              clear hS h0 hd
              go_simp
            case refine_9 =>
              intro a' w9 hS h0 hd
              have e54 : a'.tmps[54]?.getD undef = .slice (some ⟨g, 0, none⟩) k c := vev (hd 3 List.mem_cons_self)
              obtain ⟨a57, c57, e57, h57⟩ := hd 6 (List.mem_cons_of_mem _ List.mem_cons_self)
              replace e57 := vev e57
              have e58 : a'.tmps[58]?.getD undef = .slice ((some ⟨g, k * 7, none⟩)) (n - k) (c - k) := vev (hd 7 (List.mem_cons_of_mem _ (List.mem_cons_of_mem _ List.mem_cons_self)))
              have hm := own_pls h57 rfl (fun p hp => (HMP.out p hp).ok.below hS)
              have hfl := (own_sl h57)
              obtain ⟨a57', c57', e57, hfl⟩ := hfl
              cases e57
              have hr := rows3 w9 (l.take k, some ⟨g, 0, none⟩, c) (mid, a57, c57) (l.drop k, ((some ⟨g, k * 7, none⟩)), (c - k)) ⟨(HPLT.out.take k).below hS, HNIL.out⟩ ⟨hm, flat_nil hfl⟩ ⟨HPLR.out.below hS, HNIR.out⟩
              simp only [HLT.out, HLR.out] at hr
              have hal : alls9 [(l.take k, some ⟨g, 0, none⟩, c), (mid, a57, c57), (l.drop k, ((some ⟨g, k * 7, none⟩)), (c - k))] = F := by rw [← HFF.out]; simp [alls9]
              refine Does2.value (.slice (some ⟨w9.heap.size, 0, none⟩) 3 3) (w' := w9.alloc (.cells #[.slice (some ⟨g, 0, none⟩) k c, .slice a57 mid.length c57, .slice ((some ⟨g, k * 7, none⟩)) (n - k) (c - k)] 44)) ?_ ⟨⟨_, _, _, rfl, rfl, hr, hal⟩, hS.alloc hS.size _, fun _ => bel1 w9 _⟩
              clear hS h0 hd h57 hm hfl hr hal
              go_simp
            case refine_10 =>
              intro a' w9 hS h0 hd
              obtain ⟨A59, c59, R59, e59, l59, h59, q59⟩ := hd 8 List.mem_cons_self
              replace e59 := vev e59
              refine Does2.call 93 #[.slice A59 3 c59] (w' := w9) ?_ ((lConcatP A59 3 c59 R59 w9 l59 (by omega) (by rw [q59]; exact HFL.out) h59).mono ?_)
              · clear hS h0 hd h59
                go_simp
              · rintro e w8 ⟨a8, c8, rfl, ho, hb⟩
                rw [q59] at ho ⊢
                exact ⟨_, rfl, ⟨_, _, rfl, vown_le ho hS.size⟩, hS.trans (hb.mono hS.size), fun _ => hb⟩
            case refine_11 =>
              intro a' w9 hS h0 hd
              obtain ⟨a60, c60, e60, h60⟩ := hd 9 List.mem_cons_self
              replace e60 := vev e60
              refine Does2.value (.slice a60 F.length c60) (w' := w9) ?_ ⟨⟨_, _, rfl, h60⟩, hS, fun _ => Below.refl _ _⟩
              clear hS h0 hd h60
              go_simp
            case hend =>
              intro fz wz hS hv
              obtain ⟨a60, c60, v15, h60⟩ := hv 10 (by decide) (fun k hk => (by cases hk))
              replace v15 : fz 15 = .slice a60 F.length c60 := v15
              simp only [putAll, Act.put, List.setIfInBounds_toArray, List.set_cons_zero, List.set_cons_succ, v15]
              have HB9 := Lib.hid (HB7.out.trans (hS.mono HB7.out.size))
              have V09 := Lib.hid (V07.out.below hS V07.out.lt)
              have HOF : Hid (wz.ownsRow w.heap.size 77 7 (.slice a60 F.length c60) F.length (pv F)) := Lib.hid (vown_le h60 HZ7.out)
              have Q59 := Lib.hid (Q57.out.below hS)
              have HFP9 : Hid (∀ p ∈ F, PT wz p) := Lib.hid (fun p hp => (HFP.out p hp).below hS)
              clear hS hv h60 v15
              obtain ⟨c0, c1, c2, c3, -⟩ := V09.out.cells
              by_cases hc : lim < (F.length : Int)
              · have hd : decide (lim < (F.length : Int)) = true := decide_eq_true hc
                have HRES2 : Hid (hd9 kp la lim l po ty rg xs = none) := Lib.hid (by rw [HRES.out, if_pos hc])
                clear hc
                go_wp2_with fail
                refine ret_t3 (u := 6) (v := 7) (x := 8) rfl rfl ?_
                rw [HRES2.out]
                exact ⟨⟨7, by decide, rfl⟩, HB9.out⟩
              · have hd : decide (lim < (F.length : Int)) = false := decide_eq_false hc
                have HRES2 : Hid (hd9 kp la lim l po ty rg xs = some (F.map Plc.nm, rq)) := Lib.hid (by rw [HRES.out, if_neg hc])
                clear hc
                go_wp2_with fail
                refine ret_t3 (u := 6) (v := 7) (x := 8) rfl rfl ?_
                rw [HRES2.out]
                exact ⟨⟨a60, c60, F, aa, cc, rs, rfl, rfl, HOF.out, HFP9.out, M5.out, Q59.out⟩, HB9.out⟩
          · have he' : (rer != 0) = true := by simpa using her
            have HER := Lib.hid her
            clear her
            go_wp2_with fail
            refine ret_t3 (u := 6) (v := 7) (x := 8) rfl rfl ?_
            rw [hd9_er (p := ⟨po, 0, 0, rg, false, 0, [], none, 0⟩) (by rw [HAT.out]; rfl) HRR.out HER.out]
            exact ⟨⟨rer, HER.out, rfl⟩, HB7.out⟩
        · exfalso
          have := (HCN.out.2.1 rfl).2
          omega
      · obtain rfl : k = n := by omega
        obtain rfl : c = k := by omega
        rcases HCN.out.2.2 with ⟨g, rfl, hgw⟩ | rfl
        · have HT1 : Hid (HT w9 none []) := Lib.hid ⟨Hs.nil _ _, .inl rfl⟩
          have HI1 : Hid (Inc (ad [])) := Lib.hid (by simp [ad, Inc])
          have HN1 : Hid (([] : List Hd).length = 0 ∧ 0 ≤ 64) := Lib.hid ⟨rfl, by omega⟩
          have HV12 : Hid (isI 0 ∧ isI 0) := Lib.hid (by unfold isI; omega)
          have HTB : Hid ((1 ≤ la ∧ la ≤ 1000000) ∧ (0 ≤ kp ∧ kp ≤ 1000000) ∧ ((0 : Int) ≤ 0 ∧ (0 : Int) ≤ 1000000) ∧ (0 ≤ rg ∧ rg ≤ 4294967295)) := Lib.hid (by have h1 := HM.out; have h2 := HG.out; unfold mayP at h1; omega)
          have HNE : Hid (∀ g' o, (some (⟨g, 0, none⟩ : Addr) : Option Addr) = some ⟨g', o, none⟩ → g' ≠ w.heap.size + 1 + 1) := Lib.hid (by
            intro g' o e
            first | (cases e; omega) | cases e)
          obtain ⟨r0, r1, r2, -⟩ := V14.out.cells
          obtain ⟨x0, x1, x2, x3, x4, x5, x6, -⟩ := V24.out.cells
          have V05 := V04
          have V25 := V24
          have HOW5 := HOW4
          have HPT5 := HPT4
          have HB5 := HB4
          have HA5 := HA4
          clear V04 V24 HOW4 HPT4 HB4 HA4 HPL4
          go_wp2_with fail
          clear c0 c1 c2 c3 r0 r1 r2 x0 x1 x2 x3 x4 x5 x6
          refine (dHear92 kp la po 0 0 rg false 0 none 0 0 [] ty rg b ln lc xs w9 HN1.out.1 HN1.out.2 HT1.out HI1.out HLX.out hln HA5.out HFLB.out HTB.out).mono ?_
          rintro e w6 ⟨⟨a5, c5, aa, cc, rs, rfl, h5, m5, q5⟩, hb6⟩
          obtain ⟨r, hr⟩ : ∃ r, hrP kp la 0 0 rg false 0 [] ty xs = r := ⟨_, rfl⟩
          rw [hr] at h5 m5 ⊢
          have HRR := Lib.hid hr
          have hleft := hrP_left 0 0 rg false [] ty xs (left := 0) HTB.out.1 HTB.out.2.1 HTB.out.2.2.1
          rw [hr] at hleft
          obtain ⟨rex, rleft, s5, rq, rer⟩ := r
          simp only at h5 m5 hleft ⊢
          obtain ⟨n5, hn5⟩ : ∃ n5, s5.length = n5 := ⟨_, rfl⟩
          rw [hn5]
          have HN5 := Lib.hid hn5
          have V06 := Lib.hid (V05.out.below hb6 V05.out.lt)
          have V26 := Lib.hid (V25.out.below hb6 V25.out.lt)
          have HZ5 : Hid (w.heap.size ≤ w9.heap.size) := Lib.hid HB5.out.size
          have HB6 := Lib.hid (HB5.out.trans (hb6.mono HB5.out.size))
          have B7 := V26.out.store_but po 0 0 rg rex rleft a5 n5 c5
          have hx6 : w6.heap[w.heap.size + 1 + 1]? = some (.cells _ 77 (0, 0)) := V26.out
          have V27 := Lib.hid (V26.out.store po 0 0 rg rex rleft a5 n5 c5)
          have V07 := Lib.hid (V06.out.but B7 (by omega))
          have HP57 := Lib.hid (show PT _ ⟨po, 0, 0, rg, rex, rleft, s5, a5, c5⟩ from ⟨h5.ty hx6 (by decide) B7, ⟨⟨HPO.out, HV12.out.1, HV12.out.2⟩, HG.out, by unfold isI; simp only; omega⟩⟩)
          have Q57 := Lib.hid ((q5.ty hx6 (by decide) (by decide) B7).le HZ5.out)
          have HB7 := Lib.hid (HB6.out.trans (B7.below (by omega) HB6.out.size))
          have HOW7 := Lib.hid (own_but_any (own_grown HOW5.out hb6 (Nat.le_refl _)) B7 HNE.out)
          have HPT7 : Hid (∀ p ∈ l, PT _ p) := Lib.hid (fun p hp => ((HPT5.out p hp).below hb6).ty hx6 (by decide) B7)
          have M5 := Lib.hid m5
          have HZ7 := Lib.hid (Nat.le_trans HZ5.out (Nat.le_trans hb6.size B7.size))
          obtain ⟨p0, p1, p2, p3, p4, p5, p6, q0, q1, q2, q3, q4, q5', q6⟩ := V26.out.cells
          obtain ⟨c0, c1, c2, c3, -⟩ := V06.out.cells
          clear h5 m5 q5 hb6 hn5 hr hx6
          by_cases her : rer = 0
          · subst her
            go_wp2_with fail
            clear p0 p1 p2 p3 p4 p5 p6 q0 q1 q2 q3 q4 q5' q6 c0 c1 c2 c3 B7
            generalize (((((((w6.setCell ⟨w.heap.size + 1 + 1, 0, none⟩ (.int .i64 po)).setCell ⟨w.heap.size + 1 + 1, 1, none⟩ (.int .i64 0)).setCell ⟨w.heap.size + 1 + 1, 2, none⟩ (.int .i64 0)).setCell ⟨w.heap.size + 1 + 1, 3, none⟩ (.int .u32 rg)).setCell ⟨w.heap.size + 1 + 1, 4, none⟩ (.bool rex)).setCell ⟨w.heap.size + 1 + 1, 5, none⟩ (.int .i64 rleft)).setCell ⟨w.heap.size + 1 + 1, 6, none⟩ (.slice a5 n5 c5)) = w7 at *
            have HPLT := Lib.hid (own_pls HOW7.out HX.out (fun p hp => (HPT7.out p hp).ok))
            have HPLR : Hid (Pls w7 ((some ⟨g, 0, none⟩)) (l.drop c)) := Lib.hid (by rw [List.drop_eq_nil_of_le (by rw [HX.out]; omega)]; exact Pls.nil _ _)
            have HNIL : Hid ((some (⟨g, 0, none⟩ : Addr) : Option Addr) = none → c = 0) := Lib.hid (fun e => (HCN.out.2.1 e).2)
            have HNIR : Hid (((some ⟨g, 0, none⟩) : Option Addr) = none → 0 = 0) := Lib.hid (fun e => (by cases e))
            have HLT : Hid ((l.take c).length = c) := Lib.hid (by rw [List.length_take, HX.out]; omega)
            have HLR : Hid ((l.drop c).length = 0) := Lib.hid (by have := HX.out; rw [List.length_drop]; omega)
            obtain ⟨mid, hmid⟩ : ∃ mid, [(⟨po, 0, 0, rg, rex, rleft, s5, a5, c5⟩ : Plc)].filter sm = mid := ⟨_, rfl⟩
            obtain ⟨F, hF⟩ : ∃ F, l.take c ++ (mid ++ l.drop c) = F := ⟨_, rfl⟩
            have HMID := Lib.hid hmid
            have HFF := Lib.hid hF
            have HP5 := HP57
            have hmp : ∀ p ∈ mid, PT w7 p := by
              intro p hp
              rw [← hmid] at hp
              obtain rfl : p = _ := by simpa using (List.mem_filter.1 hp).1
              exact HP5.out
            have HMP := Lib.hid hmp
            have HFL : Hid (F.length ≤ 100000) := Lib.hid (by
              rw [← hF, List.length_append, List.length_append, HLT.out, HLR.out, ← hmid]
              have := List.length_filter_le sm [(⟨po, 0, 0, rg, rex, rleft, s5, a5, c5⟩ : Plc)]
              simp only [List.length_cons, List.length_nil] at this
              have := hn
              omega)
            have HFP : Hid (∀ p ∈ F, PT w7 p) := Lib.hid (by
              intro p hp
              rw [← hF] at hp
              rcases List.mem_append.1 hp with h1 | h1
              · exact HPT7.out p (List.mem_of_mem_take h1)
              · rcases List.mem_append.1 h1 with h1 | h1
                · exact hmp p h1
                · exact HPT7.out p (List.mem_of_mem_drop h1))
            have hM : (if sm ⟨po, 0, 0, rg, rex, rleft, s5, none, 0⟩ then [(⟨po, 0, 0, rg, rex, rleft, s5, none, 0⟩ : Plc)] else []) = mid.map Plc.nm := by
              rw [← hmid, List.filter_cons]
              have e : sm (⟨po, 0, 0, rg, rex, rleft, s5, a5, c5⟩ : Plc) = sm ⟨po, 0, 0, rg, rex, rleft, s5, none, 0⟩ := rfl
              rw [e]
              split <;> rfl
            have hFN : F.map Plc.nm = (ltK (po * 4294967296 + rg) l).map Plc.nm ++ (mid.map Plc.nm ++ (gtK (po * 4294967296 + rg) l).map Plc.nm) := by
              rw [← hF, List.map_append, List.map_append, HTK.out, HDR.out]
            have HRES : Hid (hd9 kp la lim l po ty rg xs = if lim < (F.length : Int) then none else some (F.map Plc.nm, rq)) := Lib.hid (by
              have hlen : (F.length : Int) = (((ltK (po * 4294967296 + rg) l).map Plc.nm ++ (mid.map Plc.nm ++ (gtK (po * 4294967296 + rg) l).map Plc.nm)).length : Int) := by rw [← hFN, List.length_map]
              rw [hlen, hFN]
              by_cases hc : lim < (((ltK (po * 4294967296 + rg) l).map Plc.nm ++ (mid.map Plc.nm ++ (gtK (po * 4294967296 + rg) l).map Plc.nm)).length : Int)
              · rw [if_pos hc]
                exact hd9_full (p := ⟨po, 0, 0, rg, false, 0, [], none, 0⟩) (by rw [HAT.out]; rfl) HRR.out rfl hM hc
              · rw [if_neg hc]
                exact hd9_ok (p := ⟨po, 0, 0, rg, false, 0, [], none, 0⟩) (by rw [HAT.out]; rfl) HRR.out rfl hM hc)
            clear hmid hF hmp hM hFN hleft
            refine wp_region_each5 (hgV w.heap.size (some ⟨g, 0, none⟩) c c c po 0 0 rg rex rleft s5 a5 n5 c5 ((some ⟨g, 0, none⟩)) 0 0 mid F w7.heap.size) (fun W => Below w7.heap.size w7 W) (fun i A B => i ≠ 6 → Below A.heap.size A B) hgD hgK [51, 52, 53, 54, 55, 56, 57, 58, 59, 60, 15] (by kernel_rfl) (by kernel_rfl) (by kernel_rfl) (by kernel_rfl) (by kernel_rfl) (Below.refl _ w7).drew ?hst
              ⟨?_, ?_, ?_, ?_, ?_, ?_, ?_, ?_, ?_, ?_, ?_, trivial⟩ ?hend
            case hst =>
              intro i j oi oj v us A B hoi hoj hij hw hK hSA hr hv
              by_cases hj : j = 6
              · subst hj
                have hi : i < 11 := (Array.getElem?_eq_some_iff.1 hoi).1
                have hc : i = 0 ∨ i = 1 ∨ i = 2 ∨ i = 3 ∨ i = 4 ∨ i = 5 ∨ i = 6 ∨ i = 7 ∨ i = 8 ∨ i = 9 ∨ i = 10 := by omega
                rcases hc with rfl | rfl | rfl | rfl | rfl | rfl | rfl | rfl | rfl | rfl | rfl
                all_goals first
                  | exact hg_st _ _ _ _ _ _ _ _ _ _ _ _ _ _ _ _ _ _ _ _ _ (.inl (by omega)) hv
                  | exact absurd (by decide) hK
                  | exact absurd rfl hij
                  | (cases hoi; exact absurd hw (by decide))
              · exact hg_st _ _ _ _ _ _ _ _ _ _ _ _ _ _ _ _ _ _ _ _ _ (.inr (hr hj)) hv
            case refine_1 =>
              intro a' w9 hS h0 hd
              have e3 : a'.tmps[3]?.getD undef = .pointer (some ⟨w.heap.size, 0, none⟩) := vev (h0 3 (by kernel_rfl))
              refine Does2.value (.pointer (some ⟨w.heap.size, 3, none⟩)) (w' := w9) ?_ ⟨rfl, hS, fun _ => Below.refl _ _⟩
              clear hS h0 hd
              go_simp
            case refine_2 =>
              intro a' w9 hS h0 hd
              have e51 : a'.tmps[51]?.getD undef = .pointer (some ⟨w.heap.size, 3, none⟩) := vev (hd 0 List.mem_cons_self)
              obtain ⟨y0, y1, y2, y3, -⟩ := (V07.out.below hS V07.out.lt).cells
              refine Does2.value (.slice (some ⟨g, 0, none⟩) c c) (w' := w9) ?_ ⟨rfl, hS, fun _ => Below.refl _ _⟩
              clear hS h0 hd
              go_simp
            case refine_3 =>
              intro a' w9 hS h0 hd
              have e10 : a'.tmps[10]?.getD undef = .int .i64 (c : Int) := vev (h0 10 (by kernel_rfl))
              refine Does2.value (.int .i64 (c : Int)) (w' := w9) ?_ ⟨rfl, hS, fun _ => Below.refl _ _⟩
              clear hS h0 hd
              go_simp
            case refine_4 =>
              intro a' w9 hS h0 hd
              have e52 : a'.tmps[52]?.getD undef = .slice (some ⟨g, 0, none⟩) c c := vev (hd 1 List.mem_cons_self)
              have e53 : a'.tmps[53]?.getD undef = .int .i64 (c : Int) := vev (hd 2 (List.mem_cons_of_mem _ List.mem_cons_self))
              refine Does2.value (.slice (some ⟨g, 0, none⟩) c c) (w' := w9) ?_ ⟨rfl, hS, fun _ => Below.refl _ _⟩
              clear hS h0 hd
              first | (go_simp; done) | (go_simp; intro hh; exfalso; omega)
            case refine_5 =>
              intro a' w9 hS h0 hd
              have e9 : a'.tmps[9]?.getD undef = .pointer (some ⟨w.heap.size + 1 + 1, 0, none⟩) := vev (h0 9 (by kernel_rfl))
              obtain ⟨y0, y1, y2, y3, y4, y5, y6, -⟩ := (V27.out.below hS V27.out.lt).cells
              refine Does2.value (.agg #[.int .i64 po, .int .i64 0, .int .i64 0, .int .u32 rg, .bool rex, .int .i64 rleft, .slice a5 n5 c5]) (w' := w9) ?_ ⟨rfl, hS, fun _ => Below.refl _ _⟩
              clear hS h0 hd
              go_simp
            case refine_6 =>
              intro a' w9 hS h0 hd
              have e55 : a'.tmps[55]?.getD undef = .agg #[.int .i64 po, .int .i64 0, .int .i64 0, .int .u32 rg, .bool rex, .int .i64 rleft, .slice a5 n5 c5] := vev (hd 4 List.mem_cons_self)
              refine Does2.value (.slice (some ⟨w9.heap.size, 0, none⟩) 1 1) (w' := w9.alloc (.cells #[.int .i64 po, .int .i64 0, .int .i64 0, .int .u32 rg, .bool rex, .int .i64 rleft, .slice a5 n5 c5] 77)) ?_ ⟨⟨_, rfl, plc_row w9 po 0 0 rg rex rleft s5 a5 n5 c5 w7.heap.size HN5.out hS.size⟩, hS.alloc hS.size _, fun _ => bel1 w9 _⟩
              clear hS h0 hd
              go_simp
            case refine_7 =>
              intro a' w9 hS h0 hd
              obtain ⟨g56, e56, h56⟩ := hd 5 List.mem_cons_self
              replace e56 := vev e56
              have hone : ∀ p ∈ [(⟨po, 0, 0, rg, rex, rleft, s5, a5, c5⟩ : Plc)], PT w9 p := by
                intro p hp
                obtain rfl : p = _ := by simpa using hp
                exact HP5.out.below hS
              refine Does2.call 70 #[.slice (some ⟨g56, 0, none⟩) 1 1] (w' := w9) ?_ ((dSomes w7.heap.size (some ⟨g56, 0, none⟩) 1 1 [⟨po, 0, 0, rg, rex, rleft, s5, a5, c5⟩] w9 hS.size rfl (by omega) h56 hone).mono ?_)
              · clear hS h0 hd h56 hone
                go_simp
              · rintro e w8 ⟨⟨rfl, ho, ht⟩, hb⟩
                rw [HMID.out] at ho ⊢
                exact ⟨_, rfl, ⟨_, _, rfl, ho⟩, hS.trans hb, fun h => absurd rfl h⟩
            case refine_8 =>
              intro a' w9 hS h0 hd
              have e12 : a'.tmps[12]?.getD undef = .slice ((some ⟨g, 0, none⟩)) 0 0 := vev (h0 12 (by kernel_rfl))
              refine Does2.value (.slice ((some ⟨g, 0, none⟩)) 0 0) (w' := w9) ?_ ⟨rfl, hS, fun _ => Below.refl _ _⟩
              clear hS h0 hd
              go_simp
            case refine_9 =>
              intro a' w9 hS h0 hd
              have e54 : a'.tmps[54]?.getD undef = .slice (some ⟨g, 0, none⟩) c c := vev (hd 3 List.mem_cons_self)
              obtain ⟨a57, c57, e57, h57⟩ := hd 6 (List.mem_cons_of_mem _ List.mem_cons_self)
              replace e57 := vev e57
              have e58 : a'.tmps[58]?.getD undef = .slice ((some ⟨g, 0, none⟩)) 0 0 := vev (hd 7 (List.mem_cons_of_mem _ (List.mem_cons_of_mem _ List.mem_cons_self)))
              have hm := own_pls h57 rfl (fun p hp => (HMP.out p hp).ok.below hS)
              have hfl := (own_sl h57)
              obtain ⟨a57', c57', e57, hfl⟩ := hfl
              cases e57
              have hr := rows3 w9 (l.take c, some ⟨g, 0, none⟩, c) (mid, a57, c57) (l.drop c, ((some ⟨g, 0, none⟩)), 0) ⟨(HPLT.out.take c).below hS, HNIL.out⟩ ⟨hm, flat_nil hfl⟩ ⟨HPLR.out.below hS, HNIR.out⟩
              simp only [HLT.out, HLR.out] at hr
              have hal : alls9 [(l.take c, some ⟨g, 0, none⟩, c), (mid, a57, c57), (l.drop c, ((some ⟨g, 0, none⟩)), 0)] = F := by rw [← HFF.out]; simp [alls9]
              refine Does2.value (.slice (some ⟨w9.heap.size, 0, none⟩) 3 3) (w' := w9.alloc (.cells #[.slice (some ⟨g, 0, none⟩) c c, .slice a57 mid.length c57, .slice ((some ⟨g, 0, none⟩)) 0 0] 44)) ?_ ⟨⟨_, _, _, rfl, rfl, hr, hal⟩, hS.alloc hS.size _, fun _ => bel1 w9 _⟩
              clear hS h0 hd h57 hm hfl hr hal
              go_simp
            case refine_10 =>
              intro a' w9 hS h0 hd
              obtain ⟨A59, c59, R59, e59, l59, h59, q59⟩ := hd 8 List.mem_cons_self
              replace e59 := vev e59
              refine Does2.call 93 #[.slice A59 3 c59] (w' := w9) ?_ ((lConcatP A59 3 c59 R59 w9 l59 (by omega) (by rw [q59]; exact HFL.out) h59).mono ?_)
              · clear hS h0 hd h59
                go_simp
              · rintro e w8 ⟨a8, c8, rfl, ho, hb⟩
                rw [q59] at ho ⊢
                exact ⟨_, rfl, ⟨_, _, rfl, vown_le ho hS.size⟩, hS.trans (hb.mono hS.size), fun _ => hb⟩
            case refine_11 =>
              intro a' w9 hS h0 hd
              obtain ⟨a60, c60, e60, h60⟩ := hd 9 List.mem_cons_self
              replace e60 := vev e60
              refine Does2.value (.slice a60 F.length c60) (w' := w9) ?_ ⟨⟨_, _, rfl, h60⟩, hS, fun _ => Below.refl _ _⟩
              clear hS h0 hd h60
              go_simp
            case hend =>
              intro fz wz hS hv
              obtain ⟨a60, c60, v15, h60⟩ := hv 10 (by decide) (fun kk hk => (by cases hk))
              replace v15 : fz 15 = .slice a60 F.length c60 := v15
              simp only [putAll, Act.put, List.setIfInBounds_toArray, List.set_cons_zero, List.set_cons_succ, v15]
              have HB9 := Lib.hid (HB7.out.trans (hS.mono HB7.out.size))
              have V09 := Lib.hid (V07.out.below hS V07.out.lt)
              have HOF : Hid (wz.ownsRow w.heap.size 77 7 (.slice a60 F.length c60) F.length (pv F)) := Lib.hid (vown_le h60 HZ7.out)
              have Q59 := Lib.hid (Q57.out.below hS)
              have HFP9 : Hid (∀ p ∈ F, PT wz p) := Lib.hid (fun p hp => (HFP.out p hp).below hS)
              clear hS hv h60 v15
              obtain ⟨c0, c1, c2, c3, -⟩ := V09.out.cells
              by_cases hc : lim < (F.length : Int)
              · have hd : decide (lim < (F.length : Int)) = true := decide_eq_true hc
                have HRES2 : Hid (hd9 kp la lim l po ty rg xs = none) := Lib.hid (by rw [HRES.out, if_pos hc])
                clear hc
                go_wp2_with fail
                refine ret_t3 (u := 6) (v := 7) (x := 8) rfl rfl ?_
                rw [HRES2.out]
                exact ⟨⟨7, by decide, rfl⟩, HB9.out⟩
              · have hd : decide (lim < (F.length : Int)) = false := decide_eq_false hc
                have HRES2 : Hid (hd9 kp la lim l po ty rg xs = some (F.map Plc.nm, rq)) := Lib.hid (by rw [HRES.out, if_neg hc])
                clear hc
                go_wp2_with fail
                refine ret_t3 (u := 6) (v := 7) (x := 8) rfl rfl ?_
                rw [HRES2.out]
                exact ⟨⟨a60, c60, F, aa, cc, rs, rfl, rfl, HOF.out, HFP9.out, M5.out, Q59.out⟩, HB9.out⟩
          · have he' : (rer != 0) = true := by simpa using her
            have HER := Lib.hid her
            clear her
            go_wp2_with fail
            refine ret_t3 (u := 6) (v := 7) (x := 8) rfl rfl ?_
            rw [hd9_er (p := ⟨po, 0, 0, rg, false, 0, [], none, 0⟩) (by rw [HAT.out]; rfl) HRR.out HER.out]
            exact ⟨⟨rer, HER.out, rfl⟩, HB7.out⟩
        · obtain rfl : c = 0 := (HCN.out.2.1 rfl).2
          have HT1 : Hid (HT w9 none []) := Lib.hid ⟨Hs.nil _ _, .inl rfl⟩
          have HI1 : Hid (Inc (ad [])) := Lib.hid (by simp [ad, Inc])
          have HN1 : Hid (([] : List Hd).length = 0 ∧ 0 ≤ 64) := Lib.hid ⟨rfl, by omega⟩
          have HV12 : Hid (isI 0 ∧ isI 0) := Lib.hid (by unfold isI; omega)
          have HTB : Hid ((1 ≤ la ∧ la ≤ 1000000) ∧ (0 ≤ kp ∧ kp ≤ 1000000) ∧ ((0 : Int) ≤ 0 ∧ (0 : Int) ≤ 1000000) ∧ (0 ≤ rg ∧ rg ≤ 4294967295)) := Lib.hid (by have h1 := HM.out; have h2 := HG.out; unfold mayP at h1; omega)
          have HNE : Hid (∀ g' o, (none : Option Addr) = some ⟨g', o, none⟩ → g' ≠ w.heap.size + 1 + 1) := Lib.hid (by
            intro g' o e
            first | (cases e; omega) | cases e)
          obtain ⟨r0, r1, r2, -⟩ := V14.out.cells
          obtain ⟨x0, x1, x2, x3, x4, x5, x6, -⟩ := V24.out.cells
          have V05 := V04
          have V25 := V24
          have HOW5 := HOW4
          have HPT5 := HPT4
          have HB5 := HB4
          have HA5 := HA4
          clear V04 V24 HOW4 HPT4 HB4 HA4 HPL4
          go_wp2_with fail
          clear c0 c1 c2 c3 r0 r1 r2 x0 x1 x2 x3 x4 x5 x6
          refine (dHear92 kp la po 0 0 rg false 0 none 0 0 [] ty rg b ln lc xs w9 HN1.out.1 HN1.out.2 HT1.out HI1.out HLX.out hln HA5.out HFLB.out HTB.out).mono ?_
          rintro e w6 ⟨⟨a5, c5, aa, cc, rs, rfl, h5, m5, q5⟩, hb6⟩
          obtain ⟨r, hr⟩ : ∃ r, hrP kp la 0 0 rg false 0 [] ty xs = r := ⟨_, rfl⟩
          rw [hr] at h5 m5 ⊢
          have HRR := Lib.hid hr
          have hleft := hrP_left 0 0 rg false [] ty xs (left := 0) HTB.out.1 HTB.out.2.1 HTB.out.2.2.1
          rw [hr] at hleft
          obtain ⟨rex, rleft, s5, rq, rer⟩ := r
          simp only at h5 m5 hleft ⊢
          obtain ⟨n5, hn5⟩ : ∃ n5, s5.length = n5 := ⟨_, rfl⟩
          rw [hn5]
          have HN5 := Lib.hid hn5
          have V06 := Lib.hid (V05.out.below hb6 V05.out.lt)
          have V26 := Lib.hid (V25.out.below hb6 V25.out.lt)
          have HZ5 : Hid (w.heap.size ≤ w9.heap.size) := Lib.hid HB5.out.size
          have HB6 := Lib.hid (HB5.out.trans (hb6.mono HB5.out.size))
          have B7 := V26.out.store_but po 0 0 rg rex rleft a5 n5 c5
          have hx6 : w6.heap[w.heap.size + 1 + 1]? = some (.cells _ 77 (0, 0)) := V26.out
          have V27 := Lib.hid (V26.out.store po 0 0 rg rex rleft a5 n5 c5)
          have V07 := Lib.hid (V06.out.but B7 (by omega))
          have HP57 := Lib.hid (show PT _ ⟨po, 0, 0, rg, rex, rleft, s5, a5, c5⟩ from ⟨h5.ty hx6 (by decide) B7, ⟨⟨HPO.out, HV12.out.1, HV12.out.2⟩, HG.out, by unfold isI; simp only; omega⟩⟩)
          have Q57 := Lib.hid ((q5.ty hx6 (by decide) (by decide) B7).le HZ5.out)
          have HB7 := Lib.hid (HB6.out.trans (B7.below (by omega) HB6.out.size))
          have HOW7 := Lib.hid (own_but_any (own_grown HOW5.out hb6 (Nat.le_refl _)) B7 HNE.out)
          have HPT7 : Hid (∀ p ∈ l, PT _ p) := Lib.hid (fun p hp => ((HPT5.out p hp).below hb6).ty hx6 (by decide) B7)
          have M5 := Lib.hid m5
          have HZ7 := Lib.hid (Nat.le_trans HZ5.out (Nat.le_trans hb6.size B7.size))
          obtain ⟨p0, p1, p2, p3, p4, p5, p6, q0, q1, q2, q3, q4, q5', q6⟩ := V26.out.cells
          obtain ⟨c0, c1, c2, c3, -⟩ := V06.out.cells
          clear h5 m5 q5 hb6 hn5 hr hx6
          by_cases her : rer = 0
          · subst her
            go_wp2_with fail
            clear p0 p1 p2 p3 p4 p5 p6 q0 q1 q2 q3 q4 q5' q6 c0 c1 c2 c3 B7
            generalize (((((((w6.setCell ⟨w.heap.size + 1 + 1, 0, none⟩ (.int .i64 po)).setCell ⟨w.heap.size + 1 + 1, 1, none⟩ (.int .i64 0)).setCell ⟨w.heap.size + 1 + 1, 2, none⟩ (.int .i64 0)).setCell ⟨w.heap.size + 1 + 1, 3, none⟩ (.int .u32 rg)).setCell ⟨w.heap.size + 1 + 1, 4, none⟩ (.bool rex)).setCell ⟨w.heap.size + 1 + 1, 5, none⟩ (.int .i64 rleft)).setCell ⟨w.heap.size + 1 + 1, 6, none⟩ (.slice a5 n5 c5)) = w7 at *
            have HPLT := Lib.hid (own_pls HOW7.out HX.out (fun p hp => (HPT7.out p hp).ok))
            have HPLR : Hid (Pls w7 none (l.drop 0)) := Lib.hid (by rw [List.drop_eq_nil_of_le (by rw [HX.out]; omega)]; exact Pls.nil _ _)
            have HNIL : Hid ((none : Option Addr) = none → 0 = 0) := Lib.hid (fun _ => rfl)
            have HNIR : Hid ((none : Option Addr) = none → 0 = 0) := Lib.hid (fun e => rfl)
            have HLT : Hid ((l.take 0).length = 0) := Lib.hid (by rw [List.length_take, HX.out]; omega)
            have HLR : Hid ((l.drop 0).length = 0) := Lib.hid (by have := HX.out; rw [List.length_drop]; omega)
            obtain ⟨mid, hmid⟩ : ∃ mid, [(⟨po, 0, 0, rg, rex, rleft, s5, a5, c5⟩ : Plc)].filter sm = mid := ⟨_, rfl⟩
            obtain ⟨F, hF⟩ : ∃ F, l.take 0 ++ (mid ++ l.drop 0) = F := ⟨_, rfl⟩
            have HMID := Lib.hid hmid
            have HFF := Lib.hid hF
            have HP5 := HP57
            have hmp : ∀ p ∈ mid, PT w7 p := by
              intro p hp
              rw [← hmid] at hp
              obtain rfl : p = _ := by simpa using (List.mem_filter.1 hp).1
              exact HP5.out
            have HMP := Lib.hid hmp
            have HFL : Hid (F.length ≤ 100000) := Lib.hid (by
              rw [← hF, List.length_append, List.length_append, HLT.out, HLR.out, ← hmid]
              have := List.length_filter_le sm [(⟨po, 0, 0, rg, rex, rleft, s5, a5, c5⟩ : Plc)]
              simp only [List.length_cons, List.length_nil] at this
              have := hn
              omega)
            have HFP : Hid (∀ p ∈ F, PT w7 p) := Lib.hid (by
              intro p hp
              rw [← hF] at hp
              rcases List.mem_append.1 hp with h1 | h1
              · exact HPT7.out p (List.mem_of_mem_take h1)
              · rcases List.mem_append.1 h1 with h1 | h1
                · exact hmp p h1
                · exact HPT7.out p (List.mem_of_mem_drop h1))
            have hM : (if sm ⟨po, 0, 0, rg, rex, rleft, s5, none, 0⟩ then [(⟨po, 0, 0, rg, rex, rleft, s5, none, 0⟩ : Plc)] else []) = mid.map Plc.nm := by
              rw [← hmid, List.filter_cons]
              have e : sm (⟨po, 0, 0, rg, rex, rleft, s5, a5, c5⟩ : Plc) = sm ⟨po, 0, 0, rg, rex, rleft, s5, none, 0⟩ := rfl
              rw [e]
              split <;> rfl
            have hFN : F.map Plc.nm = (ltK (po * 4294967296 + rg) l).map Plc.nm ++ (mid.map Plc.nm ++ (gtK (po * 4294967296 + rg) l).map Plc.nm) := by
              rw [← hF, List.map_append, List.map_append, HTK.out, HDR.out]
            have HRES : Hid (hd9 kp la lim l po ty rg xs = if lim < (F.length : Int) then none else some (F.map Plc.nm, rq)) := Lib.hid (by
              have hlen : (F.length : Int) = (((ltK (po * 4294967296 + rg) l).map Plc.nm ++ (mid.map Plc.nm ++ (gtK (po * 4294967296 + rg) l).map Plc.nm)).length : Int) := by rw [← hFN, List.length_map]
              rw [hlen, hFN]
              by_cases hc : lim < (((ltK (po * 4294967296 + rg) l).map Plc.nm ++ (mid.map Plc.nm ++ (gtK (po * 4294967296 + rg) l).map Plc.nm)).length : Int)
              · rw [if_pos hc]
                exact hd9_full (p := ⟨po, 0, 0, rg, false, 0, [], none, 0⟩) (by rw [HAT.out]; rfl) HRR.out rfl hM hc
              · rw [if_neg hc]
                exact hd9_ok (p := ⟨po, 0, 0, rg, false, 0, [], none, 0⟩) (by rw [HAT.out]; rfl) HRR.out rfl hM hc)
            clear hmid hF hmp hM hFN hleft
            refine wp_region_each5 (hgV w.heap.size none 0 0 0 po 0 0 rg rex rleft s5 a5 n5 c5 none 0 0 mid F w7.heap.size) (fun W => Below w7.heap.size w7 W) (fun i A B => i ≠ 6 → Below A.heap.size A B) hgD hgK [51, 52, 53, 54, 55, 56, 57, 58, 59, 60, 15] (by kernel_rfl) (by kernel_rfl) (by kernel_rfl) (by kernel_rfl) (by kernel_rfl) (Below.refl _ w7).drew ?hst
              ⟨?_, ?_, ?_, ?_, ?_, ?_, ?_, ?_, ?_, ?_, ?_, trivial⟩ ?hend
            case hst =>
              intro i j oi oj v us A B hoi hoj hij hw hK hSA hr hv
              by_cases hj : j = 6
              · subst hj
                have hi : i < 11 := (Array.getElem?_eq_some_iff.1 hoi).1
                have hc : i = 0 ∨ i = 1 ∨ i = 2 ∨ i = 3 ∨ i = 4 ∨ i = 5 ∨ i = 6 ∨ i = 7 ∨ i = 8 ∨ i = 9 ∨ i = 10 := by omega
                rcases hc with rfl | rfl | rfl | rfl | rfl | rfl | rfl | rfl | rfl | rfl | rfl
                all_goals first
                  | exact hg_st _ _ _ _ _ _ _ _ _ _ _ _ _ _ _ _ _ _ _ _ _ (.inl (by omega)) hv
                  | exact absurd (by decide) hK
                  | exact absurd rfl hij
                  | (cases hoi; exact absurd hw (by decide))
              · exact hg_st _ _ _ _ _ _ _ _ _ _ _ _ _ _ _ _ _ _ _ _ _ (.inr (hr hj)) hv
            case refine_1 =>
              intro a' w9 hS h0 hd
              have e3 : a'.tmps[3]?.getD undef = .pointer (some ⟨w.heap.size, 0, none⟩) := vev (h0 3 (by kernel_rfl))
              refine Does2.value (.pointer (some ⟨w.heap.size, 3, none⟩)) (w' := w9) ?_ ⟨rfl, hS, fun _ => Below.refl _ _⟩
              clear hS h0 hd
              go_simp
            case refine_2 =>
              intro a' w9 hS h0 hd
              have e51 : a'.tmps[51]?.getD undef = .pointer (some ⟨w.heap.size, 3, none⟩) := vev (hd 0 List.mem_cons_self)
              obtain ⟨y0, y1, y2, y3, -⟩ := (V07.out.below hS V07.out.lt).cells
              refine Does2.value (.slice none 0 0) (w' := w9) ?_ ⟨rfl, hS, fun _ => Below.refl _ _⟩
              clear hS h0 hd
              go_simp
            case refine_3 =>
              intro a' w9 hS h0 hd
              have e10 : a'.tmps[10]?.getD undef = .int .i64 (0 : Int) := vev (h0 10 (by kernel_rfl))
              refine Does2.value (.int .i64 (0 : Int)) (w' := w9) ?_ ⟨rfl, hS, fun _ => Below.refl _ _⟩
              clear hS h0 hd
              go_simp
            case refine_4 =>
              intro a' w9 hS h0 hd
              have e52 : a'.tmps[52]?.getD undef = .slice none 0 0 := vev (hd 1 List.mem_cons_self)
              have e53 : a'.tmps[53]?.getD undef = .int .i64 (0 : Int) := vev (hd 2 (List.mem_cons_of_mem _ List.mem_cons_self))
              refine Does2.value (.slice none 0 0) (w' := w9) ?_ ⟨rfl, hS, fun _ => Below.refl _ _⟩
              clear hS h0 hd
              first | (go_simp; done) | (go_simp; intro hh; exfalso; omega)
            case refine_5 =>
              intro a' w9 hS h0 hd
              have e9 : a'.tmps[9]?.getD undef = .pointer (some ⟨w.heap.size + 1 + 1, 0, none⟩) := vev (h0 9 (by kernel_rfl))
              obtain ⟨y0, y1, y2, y3, y4, y5, y6, -⟩ := (V27.out.below hS V27.out.lt).cells
              refine Does2.value (.agg #[.int .i64 po, .int .i64 0, .int .i64 0, .int .u32 rg, .bool rex, .int .i64 rleft, .slice a5 n5 c5]) (w' := w9) ?_ ⟨rfl, hS, fun _ => Below.refl _ _⟩
              clear hS h0 hd
              go_simp
            case refine_6 =>
              intro a' w9 hS h0 hd
              have e55 : a'.tmps[55]?.getD undef = .agg #[.int .i64 po, .int .i64 0, .int .i64 0, .int .u32 rg, .bool rex, .int .i64 rleft, .slice a5 n5 c5] := vev (hd 4 List.mem_cons_self)
              refine Does2.value (.slice (some ⟨w9.heap.size, 0, none⟩) 1 1) (w' := w9.alloc (.cells #[.int .i64 po, .int .i64 0, .int .i64 0, .int .u32 rg, .bool rex, .int .i64 rleft, .slice a5 n5 c5] 77)) ?_ ⟨⟨_, rfl, plc_row w9 po 0 0 rg rex rleft s5 a5 n5 c5 w7.heap.size HN5.out hS.size⟩, hS.alloc hS.size _, fun _ => bel1 w9 _⟩
              clear hS h0 hd
              go_simp
            case refine_7 =>
              intro a' w9 hS h0 hd
              obtain ⟨g56, e56, h56⟩ := hd 5 List.mem_cons_self
              replace e56 := vev e56
              have hone : ∀ p ∈ [(⟨po, 0, 0, rg, rex, rleft, s5, a5, c5⟩ : Plc)], PT w9 p := by
                intro p hp
                obtain rfl : p = _ := by simpa using hp
                exact HP5.out.below hS
              refine Does2.call 70 #[.slice (some ⟨g56, 0, none⟩) 1 1] (w' := w9) ?_ ((dSomes w7.heap.size (some ⟨g56, 0, none⟩) 1 1 [⟨po, 0, 0, rg, rex, rleft, s5, a5, c5⟩] w9 hS.size rfl (by omega) h56 hone).mono ?_)
              · clear hS h0 hd h56 hone
                go_simp
              · rintro e w8 ⟨⟨rfl, ho, ht⟩, hb⟩
                rw [HMID.out] at ho ⊢
                exact ⟨_, rfl, ⟨_, _, rfl, ho⟩, hS.trans hb, fun h => absurd rfl h⟩
            case refine_8 =>
              intro a' w9 hS h0 hd
              have e12 : a'.tmps[12]?.getD undef = .slice none 0 0 := vev (h0 12 (by kernel_rfl))
              refine Does2.value (.slice none 0 0) (w' := w9) ?_ ⟨rfl, hS, fun _ => Below.refl _ _⟩
              clear hS h0 hd
              go_simp
            case refine_9 =>
              intro a' w9 hS h0 hd
              have e54 : a'.tmps[54]?.getD undef = .slice none 0 0 := vev (hd 3 List.mem_cons_self)
              obtain ⟨a57, c57, e57, h57⟩ := hd 6 (List.mem_cons_of_mem _ List.mem_cons_self)
              replace e57 := vev e57
              have e58 : a'.tmps[58]?.getD undef = .slice none 0 0 := vev (hd 7 (List.mem_cons_of_mem _ (List.mem_cons_of_mem _ List.mem_cons_self)))
              have hm := own_pls h57 rfl (fun p hp => (HMP.out p hp).ok.below hS)
              have hfl := (own_sl h57)
              obtain ⟨a57', c57', e57, hfl⟩ := hfl
              cases e57
              have hr := rows3 w9 (l.take 0, none, 0) (mid, a57, c57) (l.drop 0, none, 0) ⟨(HPLT.out.take 0).below hS, HNIL.out⟩ ⟨hm, flat_nil hfl⟩ ⟨HPLR.out.below hS, HNIR.out⟩
              simp only [HLT.out, HLR.out] at hr
              have hal : alls9 [(l.take 0, none, 0), (mid, a57, c57), (l.drop 0, none, 0)] = F := by rw [← HFF.out]; simp [alls9]
              refine Does2.value (.slice (some ⟨w9.heap.size, 0, none⟩) 3 3) (w' := w9.alloc (.cells #[.slice none 0 0, .slice a57 mid.length c57, .slice none 0 0] 44)) ?_ ⟨⟨_, _, _, rfl, rfl, hr, hal⟩, hS.alloc hS.size _, fun _ => bel1 w9 _⟩
              clear hS h0 hd h57 hm hfl hr hal
              go_simp
            case refine_10 =>
              intro a' w9 hS h0 hd
              obtain ⟨A59, c59, R59, e59, l59, h59, q59⟩ := hd 8 List.mem_cons_self
              replace e59 := vev e59
              refine Does2.call 93 #[.slice A59 3 c59] (w' := w9) ?_ ((lConcatP A59 3 c59 R59 w9 l59 (by omega) (by rw [q59]; exact HFL.out) h59).mono ?_)
              · clear hS h0 hd h59
                go_simp
              · rintro e w8 ⟨a8, c8, rfl, ho, hb⟩
                rw [q59] at ho ⊢
                exact ⟨_, rfl, ⟨_, _, rfl, vown_le ho hS.size⟩, hS.trans (hb.mono hS.size), fun _ => hb⟩
            case refine_11 =>
              intro a' w9 hS h0 hd
              obtain ⟨a60, c60, e60, h60⟩ := hd 9 List.mem_cons_self
              replace e60 := vev e60
              refine Does2.value (.slice a60 F.length c60) (w' := w9) ?_ ⟨⟨_, _, rfl, h60⟩, hS, fun _ => Below.refl _ _⟩
              clear hS h0 hd h60
              go_simp
            case hend =>
              intro fz wz hS hv
              obtain ⟨a60, c60, v15, h60⟩ := hv 10 (by decide) (fun kk hk => (by cases hk))
              replace v15 : fz 15 = .slice a60 F.length c60 := v15
              simp only [putAll, Act.put, List.setIfInBounds_toArray, List.set_cons_zero, List.set_cons_succ, v15]
              have HB9 := Lib.hid (HB7.out.trans (hS.mono HB7.out.size))
              have V09 := Lib.hid (V07.out.below hS V07.out.lt)
              have HOF : Hid (wz.ownsRow w.heap.size 77 7 (.slice a60 F.length c60) F.length (pv F)) := Lib.hid (vown_le h60 HZ7.out)
              have Q59 := Lib.hid (Q57.out.below hS)
              have HFP9 : Hid (∀ p ∈ F, PT wz p) := Lib.hid (fun p hp => (HFP.out p hp).below hS)
              clear hS hv h60 v15
              obtain ⟨c0, c1, c2, c3, -⟩ := V09.out.cells
              by_cases hc : lim < (F.length : Int)
              · have hd : decide (lim < (F.length : Int)) = true := decide_eq_true hc
                have HRES2 : Hid (hd9 kp la lim l po ty rg xs = none) := Lib.hid (by rw [HRES.out, if_pos hc])
                clear hc
                go_wp2_with fail
                refine ret_t3 (u := 6) (v := 7) (x := 8) rfl rfl ?_
                rw [HRES2.out]
                exact ⟨⟨7, by decide, rfl⟩, HB9.out⟩
              · have hd : decide (lim < (F.length : Int)) = false := decide_eq_false hc
                have HRES2 : Hid (hd9 kp la lim l po ty rg xs = some (F.map Plc.nm, rq)) := Lib.hid (by rw [HRES.out, if_neg hc])
                clear hc
                go_wp2_with fail
                refine ret_t3 (u := 6) (v := 7) (x := 8) rfl rfl ?_
                rw [HRES2.out]
                exact ⟨⟨a60, c60, F, aa, cc, rs, rfl, rfl, HOF.out, HFP9.out, M5.out, Q59.out⟩, HB9.out⟩
          · have he' : (rer != 0) = true := by simpa using her
            have HER := Lib.hid her
            clear her
            go_wp2_with fail
            refine ret_t3 (u := 6) (v := 7) (x := 8) rfl rfl ?_
            rw [hd9_er (p := ⟨po, 0, 0, rg, false, 0, [], none, 0⟩) (by rw [HAT.out]; rfl) HRR.out HER.out]
            exact ⟨⟨rer, HER.out, rfl⟩, HB7.out⟩
end Go.Proofs.YtiabbkjmgaemaaaGreat
