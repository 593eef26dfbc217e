/- Variables: what is known, and a record that is heard. -/
import Derived.Test.YtiabbkjmgaemaaaGreatDB0
import Derived.Test.YtiabbkjmgaemaaaGreatDB1
import Derived.Test.YtiabbkjmgaemaaaGreatDB2
import Derived.Test.YtiabbkjmgaemaaaGreatDB3
import Derived.Test.YtiabbkjmgaemaaaGreatDB4
import Derived.Test.YtiabbkjmgaemaaaGreatDB5
import Derived.Test.YtiabbkjmgaemaaaGreatDB6
import Derived.Test.YtiabbkjmgaemaaaGreatDB7
namespace Go.Proofs.YtiabbkjmgaemaaaGreat
set_option linter.unusedVariables false
open Go.RowKit

theorem v_set {w : World} {R j : Nat} {cs : Array Value} {T : TypeId} {v : Value} (h : w.heap[R]? = some (.cells cs T (0, 0))) : (w.setCell ⟨R, j, none⟩ v).heap[R]? = some (.cells (cs.setIfInBounds j v) T (0, 0)) := by
  simp [World.setCell, Array.getElem?_modify, h]
theorem v_blk {w : World} {g : Nat} {o : Obj} (h : w.heap[g]? = some o) (o' : Obj) : (w.alloc o').heap[g]? = some o := (((Below.refl w.heap.size w).alloc (Nat.le_refl _) o').block g (Array.getElem?_eq_some_iff.1 h).1).trans h
/-- Block X is a variable of that type. -/
def HV (w : World) (X : Nat) (g : Int) (ex : Bool) (left : Int) (a : Option Addr) (n : Nat) (c : Nat) (k : Int) (la : Int) (aq : Option Addr) (nq : Nat) (cq : Nat) : Prop := w.heap[X]? = some (.cells #[.int .u32 g, .bool ex, .int .i64 left, .slice a n c, .int .i64 k, .int .i64 la, .slice aq nq cq] 95 (0, 0))
namespace HV
variable {w w' : World} {X R : Nat} {g : Int} {ex : Bool} {left : Int} {a : Option Addr} {n : Nat} {c : Nat} {k : Int} {la : Int} {aq : Option Addr} {nq : Nat} {cq : Nat}
theorem lt (h : HV w X g ex left a n c k la aq nq cq) : X < w.heap.size := (Array.getElem?_eq_some_iff.1 h).1
theorem cells (h : HV w X g ex left a n c k la aq nq cq) : w.cell? ⟨X, 0, none⟩ = some (.int .u32 g) ∧ w.cell? ⟨X, 1, none⟩ = some (.bool ex) ∧ w.cell? ⟨X, 2, none⟩ = some (.int .i64 left) ∧ w.cell? ⟨X, 3, none⟩ = some (.slice a n c) ∧ w.cell? ⟨X, 4, none⟩ = some (.int .i64 k) ∧ w.cell? ⟨X, 5, none⟩ = some (.int .i64 la) ∧ w.cell? ⟨X, 6, none⟩ = some (.slice aq nq cq) ∧ w.frozen? ⟨X, 0, none⟩ = false ∧ w.frozen? ⟨X, 1, none⟩ = false ∧ w.frozen? ⟨X, 2, none⟩ = false ∧ w.frozen? ⟨X, 3, none⟩ = false ∧ w.frozen? ⟨X, 4, none⟩ = false ∧ w.frozen? ⟨X, 5, none⟩ = false ∧ w.frozen? ⟨X, 6, none⟩ = false := by
  have h' : w.heap[X]? = some (.cells #[.int .u32 g, .bool ex, .int .i64 left, .slice a n c, .int .i64 k, .int .i64 la, .slice aq nq cq] 95 (0, 0)) := h
  refine ⟨?_, ?_, ?_, ?_, ?_, ?_, ?_, ?_, ?_, ?_, ?_, ?_, ?_, ?_⟩
  all_goals first
    | (simp [World.cell?, h'])
    | (simp [World.frozen?, h'])
theorem below (h : HV w X g ex left a n c k la aq nq cq) {B : Nat} (hb : Below B w w') (hX : X < B) : HV w' X g ex left a n c k la aq nq cq := (hb.block X hX).trans h
theorem but (h : HV w X g ex left a n c k la aq nq cq) (hb : But1 R w w') (hne : X ≠ R) : HV w' X g ex left a n c k la aq nq cq := (hb.block X h.lt hne).trans h
theorem new (w : World) (g : Int) (ex : Bool) (left : Int) (a : Option Addr) (n : Nat) (c : Nat) (k : Int) (la : Int) (aq : Option Addr) (nq : Nat) (cq : Nat) : HV (w.alloc (.cells #[.int .u32 g, .bool ex, .int .i64 left, .slice a n c, .int .i64 k, .int .i64 la, .slice aq nq cq] 95)) w.heap.size g ex left a n c k la aq nq cq := Go.Deep.blk_alloc_new _ _
theorem keep (h : HV w X g ex left a n c k la aq nq cq) (o : Obj) : HV (w.alloc o) X g ex left a n c k la aq nq cq := h.below (bel1 w o) h.lt
theorem set0 (h : HV w X g ex left a n c k la aq nq cq) (g' : Int) : HV (w.setCell ⟨X, 0, none⟩ (.int .u32 g')) X g' ex left a n c k la aq nq cq := v_set (j := 0) h
theorem set1 (h : HV w X g ex left a n c k la aq nq cq) (ex' : Bool) : HV (w.setCell ⟨X, 1, none⟩ (.bool ex')) X g ex' left a n c k la aq nq cq := v_set (j := 1) h
theorem set2 (h : HV w X g ex left a n c k la aq nq cq) (left' : Int) : HV (w.setCell ⟨X, 2, none⟩ (.int .i64 left')) X g ex left' a n c k la aq nq cq := v_set (j := 2) h
theorem set3 (h : HV w X g ex left a n c k la aq nq cq) (a' : Option Addr) (n' : Nat) (c' : Nat) : HV (w.setCell ⟨X, 3, none⟩ (.slice a' n' c')) X g ex left a' n' c' k la aq nq cq := v_set (j := 3) h
theorem set4 (h : HV w X g ex left a n c k la aq nq cq) (k' : Int) : HV (w.setCell ⟨X, 4, none⟩ (.int .i64 k')) X g ex left a n c k' la aq nq cq := v_set (j := 4) h
theorem set5 (h : HV w X g ex left a n c k la aq nq cq) (la' : Int) : HV (w.setCell ⟨X, 5, none⟩ (.int .i64 la')) X g ex left a n c k la' aq nq cq := v_set (j := 5) h
theorem set6 (h : HV w X g ex left a n c k la aq nq cq) (aq' : Option Addr) (nq' : Nat) (cq' : Nat) : HV (w.setCell ⟨X, 6, none⟩ (.slice aq' nq' cq')) X g ex left a n c k la aq' nq' cq' := v_set (j := 6) h
theorem store (h : HV w X g ex left a n c k la aq nq cq) (g' : Int) (ex' : Bool) (left' : Int) (a' : Option Addr) (n' : Nat) (c' : Nat) (k' : Int) (la' : Int) (aq' : Option Addr) (nq' : Nat) (cq' : Nat) : HV (((((((w.setCell ⟨X, 0, none⟩ (.int .u32 g')).setCell ⟨X, 1, none⟩ (.bool ex')).setCell ⟨X, 2, none⟩ (.int .i64 left')).setCell ⟨X, 3, none⟩ (.slice a' n' c')).setCell ⟨X, 4, none⟩ (.int .i64 k')).setCell ⟨X, 5, none⟩ (.int .i64 la')).setCell ⟨X, 6, none⟩ (.slice aq' nq' cq')) X g' ex' left' a' n' c' k' la' aq' nq' cq' := (((((((h.set0 g').set1 ex').set2 left').set3 a' n' c').set4 k').set5 la').set6 aq' nq' cq')
theorem store_but (h : HV w X g ex left a n c k la aq nq cq) (g' : Int) (ex' : Bool) (left' : Int) (a' : Option Addr) (n' : Nat) (c' : Nat) (k' : Int) (la' : Int) (aq' : Option Addr) (nq' : Nat) (cq' : Nat) : But1 X w (((((((w.setCell ⟨X, 0, none⟩ (.int .u32 g')).setCell ⟨X, 1, none⟩ (.bool ex')).setCell ⟨X, 2, none⟩ (.int .i64 left')).setCell ⟨X, 3, none⟩ (.slice a' n' c')).setCell ⟨X, 4, none⟩ (.int .i64 k')).setCell ⟨X, 5, none⟩ (.int .i64 la')).setCell ⟨X, 6, none⟩ (.slice aq' nq' cq')) := ((((((((But1.refl X w).trans (But1.set _ X 0 _)).trans (But1.set _ X 1 _)).trans (But1.set _ X 2 _)).trans (But1.set _ X 3 _)).trans (But1.set _ X 4 _)).trans (But1.set _ X 5 _)).trans (But1.set _ X 6 _))
theorem load (h : HV w X g ex left a n c k la aq nq cq) : (loadVar 95 ⟨X, 0, none⟩).run Tryz.prog w = .ok (.agg #[.int .u32 g, .bool ex, .int .i64 left, .slice a n c, .int .i64 k, .int .i64 la, .slice aq nq cq]) w := by
  obtain ⟨c0, c1, c2, c3, c4, c5, c6, -⟩ := h.cells
  clear h
  go_simp
end HV
/-- Block X is a variable of that type. -/
def MV (w : World) (X : Nat) (g : Int) (ex : Bool) (left : Int) (a : Option Addr) (n : Nat) (c : Nat) : Prop := w.heap[X]? = some (.cells #[.int .u32 g, .bool ex, .int .i64 left, .slice a n c] 28 (0, 0))
namespace MV
variable {w w' : World} {X R : Nat} {g : Int} {ex : Bool} {left : Int} {a : Option Addr} {n : Nat} {c : Nat}
theorem lt (h : MV w X g ex left a n c) : X < w.heap.size := (Array.getElem?_eq_some_iff.1 h).1
theorem cells (h : MV w X g ex left a n c) : w.cell? ⟨X, 0, none⟩ = some (.int .u32 g) ∧ w.cell? ⟨X, 1, none⟩ = some (.bool ex) ∧ w.cell? ⟨X, 2, none⟩ = some (.int .i64 left) ∧ w.cell? ⟨X, 3, none⟩ = some (.slice a n c) ∧ w.frozen? ⟨X, 0, none⟩ = false ∧ w.frozen? ⟨X, 1, none⟩ = false ∧ w.frozen? ⟨X, 2, none⟩ = false ∧ w.frozen? ⟨X, 3, none⟩ = false := by
  have h' : w.heap[X]? = some (.cells #[.int .u32 g, .bool ex, .int .i64 left, .slice a n c] 28 (0, 0)) := h
  refine ⟨?_, ?_, ?_, ?_, ?_, ?_, ?_, ?_⟩
  all_goals first
    | (simp [World.cell?, h'])
    | (simp [World.frozen?, h'])
theorem below (h : MV w X g ex left a n c) {B : Nat} (hb : Below B w w') (hX : X < B) : MV w' X g ex left a n c := (hb.block X hX).trans h
theorem but (h : MV w X g ex left a n c) (hb : But1 R w w') (hne : X ≠ R) : MV w' X g ex left a n c := (hb.block X h.lt hne).trans h
theorem new (w : World) (g : Int) (ex : Bool) (left : Int) (a : Option Addr) (n : Nat) (c : Nat) : MV (w.alloc (.cells #[.int .u32 g, .bool ex, .int .i64 left, .slice a n c] 28)) w.heap.size g ex left a n c := Go.Deep.blk_alloc_new _ _
theorem keep (h : MV w X g ex left a n c) (o : Obj) : MV (w.alloc o) X g ex left a n c := h.below (bel1 w o) h.lt
theorem set0 (h : MV w X g ex left a n c) (g' : Int) : MV (w.setCell ⟨X, 0, none⟩ (.int .u32 g')) X g' ex left a n c := v_set (j := 0) h
theorem set1 (h : MV w X g ex left a n c) (ex' : Bool) : MV (w.setCell ⟨X, 1, none⟩ (.bool ex')) X g ex' left a n c := v_set (j := 1) h
theorem set2 (h : MV w X g ex left a n c) (left' : Int) : MV (w.setCell ⟨X, 2, none⟩ (.int .i64 left')) X g ex left' a n c := v_set (j := 2) h
theorem set3 (h : MV w X g ex left a n c) (a' : Option Addr) (n' : Nat) (c' : Nat) : MV (w.setCell ⟨X, 3, none⟩ (.slice a' n' c')) X g ex left a' n' c' := v_set (j := 3) h
theorem store (h : MV w X g ex left a n c) (g' : Int) (ex' : Bool) (left' : Int) (a' : Option Addr) (n' : Nat) (c' : Nat) : MV ((((w.setCell ⟨X, 0, none⟩ (.int .u32 g')).setCell ⟨X, 1, none⟩ (.bool ex')).setCell ⟨X, 2, none⟩ (.int .i64 left')).setCell ⟨X, 3, none⟩ (.slice a' n' c')) X g' ex' left' a' n' c' := ((((h.set0 g').set1 ex').set2 left').set3 a' n' c')
theorem store_but (h : MV w X g ex left a n c) (g' : Int) (ex' : Bool) (left' : Int) (a' : Option Addr) (n' : Nat) (c' : Nat) : But1 X w ((((w.setCell ⟨X, 0, none⟩ (.int .u32 g')).setCell ⟨X, 1, none⟩ (.bool ex')).setCell ⟨X, 2, none⟩ (.int .i64 left')).setCell ⟨X, 3, none⟩ (.slice a' n' c')) := (((((But1.refl X w).trans (But1.set _ X 0 _)).trans (But1.set _ X 1 _)).trans (But1.set _ X 2 _)).trans (But1.set _ X 3 _))
theorem load (h : MV w X g ex left a n c) : (loadVar 28 ⟨X, 0, none⟩).run Tryz.prog w = .ok (.agg #[.int .u32 g, .bool ex, .int .i64 left, .slice a n c]) w := by
  obtain ⟨c0, c1, c2, c3, -⟩ := h.cells
  clear h
  go_simp
end MV
theorem HV.noH {w : World} {X : Nat} {g : Int} {ex : Bool} {left : Int} {a : Option Addr} {n c : Nat} {k la : Int} {aq : Option Addr} {nq cq : Nat} (h : HV w X g ex left a n c k la aq nq cq) : ∀ o x y, w.cell? ⟨X, o, none⟩ = some (.int .u32 x) → w.cell? ⟨X, o + 1, none⟩ ≠ some (.int .i64 y) := by
  intro o x y h0 h1
  have h' : w.heap[X]? = some (.cells #[.int .u32 g, .bool ex, .int .i64 left, .slice a n c, .int .i64 k, .int .i64 la, .slice aq nq cq] 95 (0, 0)) := h
  simp only [World.cell?, h'] at h0 h1
  match o with
  | 0 => simp at h1
  | 1 => simp at h0
  | 2 => simp at h0
  | 3 => simp at h0
  | 4 => simp at h0
  | 5 => simp at h0
  | 6 => simp at h0
  | o + 7 => simp at h0
theorem MV.noH {w : World} {X : Nat} {g : Int} {ex : Bool} {left : Int} {a : Option Addr} {n c : Nat} (h : MV w X g ex left a n c) : ∀ o x y, w.cell? ⟨X, o, none⟩ = some (.int .u32 x) → w.cell? ⟨X, o + 1, none⟩ ≠ some (.int .i64 y) := by
  intro o x y h0 h1
  have h' : w.heap[X]? = some (.cells #[.int .u32 g, .bool ex, .int .i64 left, .slice a n c] 28 (0, 0)) := h
  simp only [World.cell?, h'] at h0 h1
  match o with
  | 0 => simp at h1
  | 1 => simp at h0
  | 2 => simp at h0
  | 3 => simp at h0
  | o + 4 => simp at h0
theorem As.but {w w' : World} {X : Nat} {a : Option Addr} {xs : List Int} (h : As w a xs) (hb : But1 X w w') (hn : ∀ b off, a = some ⟨b, off, none⟩ → xs ≠ [] → b ≠ X) : As w' a xs := by
  refine ⟨?_, h.2⟩
  rcases h.1 with h1 | ⟨b, off, e, hc⟩
  · exact .inl h1
  · by_cases h0 : xs = []
    · exact .inl h0
    · exact .inr ⟨b, off, e, fun k hk => (hb.cell (cell_lt (hc k hk)) (hn b off e h0)).trans (hc k hk)⟩
theorem vown_but {w w' : World} {X B n size : Nat} {e : TypeId} {v : Value} {xs : List Value} (h : w.ownsRow B e size v n xs) (hb : But1 X w w') (hX : X < B) : w'.ownsRow B e size v n xs := by
  refine ⟨h.1, ?_⟩
  rcases h.2 with h1 | ⟨g, cap, cur, e1, hB, hg, h3⟩
  · exact .inl h1
  · exact .inr ⟨g, cap, cur, e1, hB, (hb.block g (Array.getElem?_eq_some_iff.1 hg).1 (by omega)).trans hg, h3⟩
/-- By the types of their elements: a row isn't the variable. -/
theorem vown_ty {w w' : World} {X B n size : Nat} {e T : TypeId} {v : Value} {xs : List Value} {cs : Array Value} {p : Nat × Nat} (h : w.ownsRow B e size v n xs) (hX : w.heap[X]? = some (.cells cs T p)) (hne : T ≠ e) (hb : But1 X w w') : w'.ownsRow B e size v n xs := by
  refine ⟨h.1, ?_⟩
  rcases h.2 with h1 | ⟨g, cap, cur, e1, hB, hg, h3⟩
  · exact .inl h1
  · refine .inr ⟨g, cap, cur, e1, hB, (hb.block g (Array.getElem?_eq_some_iff.1 hg).1 ?_).trans hg, h3⟩
    intro e2
    subst e2
    rw [hX] at hg
    simp only [Option.some.injEq, Obj.cells.injEq] at hg
    exact hne hg.2.1
end Go.Proofs.YtiabbkjmgaemaaaGreat
/- Sets in memory of the call's own; the first variables of a record that is heard; keep. -/
namespace Go.Proofs.YtiabbkjmgaemaaaGreat
set_option linter.unusedVariables false
open Go.RowKit

theorem vInter (a b : Option Addr) (la lb ca cb : Nat) (xs ys : List Int) (w : World) (hx : xs.length = la) (hy : ys.length = lb) (hla : la ≤ 400000) (hlb : lb ≤ 400000) (h1 : As w a xs) (h2 : As w b ys) :
    Calls Tryz.prog 117 #[.slice a la ca, .slice b lb cb] w fun e w' => OutV w e w' (int xs ys) := by
  have H : ∀ w', Below w.heap.size w w' → Calls Tryz.prog 134 #[.slice a la ca, .slice b lb cb, .func (.func 137) #[] #[]] w' fun e w2 => OutV w' e w2 (int xs ys) := fun w' hb =>
    ((callsIn_wide (n := 5)).1 (thoseI_in a b la lb ca cb xs ys w' hx hy hla hlb (h1.below hb) (h2.below hb))).mono fun e w2 ⟨v, e1, e2, e3⟩ => by subst e1; exact outv_of e2 (those_isA h1.2 h2.2) e3
  have HH := Lib.hid H
  clear H h1 h2
  go_enter Tryz.func117, Tryz.ntmps117
  go_wp2_with (go_at_call 134; refine (HH.out _ (Below.refl _ _)).mono ?_; rintro e w2 ⟨⟨a', c', rfl, hA, hnil, hfr⟩, hB⟩; have HA := Lib.hid hA; have HB := Lib.hid hB; have HN := Lib.hid hnil; have HR := Lib.hid hfr; clear hA hB hnil hfr)
  go_ret
  exact ⟨⟨a', c', rfl, HA.out, HN.out, HR.out⟩, HB.out⟩
theorem vMinus (a b : Option Addr) (la lb ca cb : Nat) (xs ys : List Int) (w : World) (hx : xs.length = la) (hy : ys.length = lb) (hla : la ≤ 400000) (hlb : lb ≤ 400000) (h1 : As w a xs) (h2 : As w b ys) :
    Calls Tryz.prog 114 #[.slice a la ca, .slice b lb cb] w fun e w' => OutV w e w' (dif xs ys) := by
  have H : ∀ w', Below w.heap.size w w' → Calls Tryz.prog 134 #[.slice a la ca, .slice b lb cb, .func (.func 135) #[] #[]] w' fun e w2 => OutV w' e w2 (dif xs ys) := fun w' hb =>
    ((callsIn_wide (n := 5)).1 (thoseM_in a b la lb ca cb xs ys w' hx hy hla hlb (h1.below hb) (h2.below hb))).mono fun e w2 ⟨v, e1, e2, e3⟩ => by subst e1; exact outv_of e2 (those_isA h1.2 h2.2) e3
  have HH := Lib.hid H
  clear H h1 h2
  go_enter Tryz.func114, Tryz.ntmps114
  go_wp2_with (go_at_call 134; refine (HH.out _ (Below.refl _ _)).mono ?_; rintro e w2 ⟨⟨a', c', rfl, hA, hnil, hfr⟩, hB⟩; have HA := Lib.hid hA; have HB := Lib.hid hB; have HN := Lib.hid hnil; have HR := Lib.hid hfr; clear hA hB hnil hfr)
  go_ret
  exact ⟨⟨a', c', rfl, HA.out, HN.out, HR.out⟩, HB.out⟩
theorem mk3 (w : World) (g : Int) (ex : Bool) (left : Int) (a : Option Addr) (n c : Nat) (k la : Int) (aq : Option Addr) (nq cq : Nat) (b : Option Addr) (ln lc : Nat) (W : World)
    (hW : W = ((w.alloc (.cells #[.int .u32 g, .bool ex, .int .i64 left, .slice a n c, .int .i64 k, .int .i64 la, .slice aq nq cq] 95)).alloc (.cells #[.slice b ln lc] 29)).alloc (.cells #[.int .u32 0, .bool false, .int .i64 0, .slice none 0 0, .int .i64 0, .int .i64 0, .slice none 0 0] 95)) :
    W.heap.size = w.heap.size + 3 ∧ HV W w.heap.size g ex left a n c k la aq nq cq ∧ W.cell? ⟨w.heap.size + 1, 0, none⟩ = some (.slice b ln lc) ∧ HV W (w.heap.size + 2) 0 false 0 none 0 0 0 0 none 0 0 ∧ Below w.heap.size w W := by
  subst hW
  have e1 : (w.alloc (.cells #[.int .u32 g, .bool ex, .int .i64 left, .slice a n c, .int .i64 k, .int .i64 la, .slice aq nq cq] 95)).heap.size = w.heap.size + 1 := World.size_alloc _ _
  have e2 : ((w.alloc (.cells #[.int .u32 g, .bool ex, .int .i64 left, .slice a n c, .int .i64 k, .int .i64 la, .slice aq nq cq] 95)).alloc (.cells #[.slice b ln lc] 29)).heap.size = w.heap.size + 2 := by rw [World.size_alloc, e1]
  have v0 := HV.new w g ex left a n c k la aq nq cq
  have v2 := HV.new ((w.alloc (.cells #[.int .u32 g, .bool ex, .int .i64 left, .slice a n c, .int .i64 k, .int .i64 la, .slice aq nq cq] 95)).alloc (.cells #[.slice b ln lc] 29)) 0 false 0 none 0 0 0 0 none 0 0
  rw [e2] at v2
  have l1 := Go.Deep.blk_alloc_new (w.alloc (.cells #[.int .u32 g, .bool ex, .int .i64 left, .slice a n c, .int .i64 k, .int .i64 la, .slice aq nq cq] 95)) (.cells #[.slice b ln lc] 29)
  rw [e1] at l1
  refine ⟨by rw [World.size_alloc, e2], (v0.keep _).keep _, ?_, v2, (((Below.refl _ w).alloc (Nat.le_refl _) _).alloc (by rw [e1]; omega) _).alloc (by rw [e2]; omega) _⟩
  have l2 := v_blk l1 (.cells #[.int .u32 0, .bool false, .int .i64 0, .slice none 0 0, .int .i64 0, .int .i64 0, .slice none 0 0] 95)
  simp only [World.cell?, l2]
  rfl
theorem mk2 (w : World) (g : Int) (ex : Bool) (left : Int) (a : Option Addr) (n c : Nat) (k la : Int) (aq : Option Addr) (nq cq : Nat) (W : World)
    (hW : W = (w.alloc (.cells #[.int .u32 g, .bool ex, .int .i64 left, .slice a n c, .int .i64 k, .int .i64 la, .slice aq nq cq] 95)).alloc (.cells #[.int .u32 0, .bool false, .int .i64 0, .slice none 0 0, .int .i64 0, .int .i64 0, .slice none 0 0] 95)) :
    W.heap.size = w.heap.size + 2 ∧ HV W w.heap.size g ex left a n c k la aq nq cq ∧ HV W (w.heap.size + 1) 0 false 0 none 0 0 0 0 none 0 0 ∧ Below w.heap.size w W := by
  subst hW
  have e1 : (w.alloc (.cells #[.int .u32 g, .bool ex, .int .i64 left, .slice a n c, .int .i64 k, .int .i64 la, .slice aq nq cq] 95)).heap.size = w.heap.size + 1 := World.size_alloc _ _
  have v0 := HV.new w g ex left a n c k la aq nq cq
  have v2 := HV.new (w.alloc (.cells #[.int .u32 g, .bool ex, .int .i64 left, .slice a n c, .int .i64 k, .int .i64 la, .slice aq nq cq] 95)) 0 false 0 none 0 0 0 0 none 0 0
  rw [e1] at v2
  exact ⟨by rw [World.size_alloc, e1], v0.keep _, v2, ((Below.refl _ w).alloc (Nat.le_refl _) _).alloc (by rw [e1]; omega) _⟩
theorem keepR_ins {s : List Hd} {xs : List Int} {T : Int} (h : InS s) (hx : ∀ x ∈ xs, 0 ≤ x ∧ x ≤ 4294967295) (hT : -9223372036854775808 ≤ T ∧ T ≤ 9223372036854775807) : InS (keepR s xs T) := by
  intro x hm
  unfold keepR at hm
  rcases List.mem_append.1 hm with h1 | h1
  · exact h x (List.mem_filter.1 h1).1
  · obtain ⟨a, ha, rfl⟩ := List.mem_map.1 h1
    exact ⟨hx a ha, hT⟩
theorem keepR_len (s : List Hd) (xs : List Int) (T : Int) : (keepR s xs T).length ≤ s.length + xs.length := by
  unfold keepR
  rw [List.length_append, List.length_map]
  have := List.length_filter_le (fun x : Hd => !decide (x.1 ∈ xs)) s
  omega
/-- What is handed back of a record that is heard: its sources anew. -/
def OutHr (w : World) (e : Ending) (w' : World) (g : Int) (ex : Bool) (left : Int) (s : List Hd) (k la : Int) (q : Value) : Prop :=
  (∃ a c, e = .returned (.agg #[.int .u32 g, .bool ex, .int .i64 left, .slice a s.length c, .int .i64 k, .int .i64 la, q]) ∧ HT w' a s) ∧ Below w.heap.size w w'
set_option maxRecDepth 100000 in
set_option maxHeartbeats 8000000 in
theorem mKeep (g : Int) (ex : Bool) (left : Int) (a : Option Addr) (n c : Nat) (kp la : Int) (aq : Option Addr) (nq cq : Nat) (s : List Hd) (b : Option Addr) (ln lc : Nat) (xs : List Int) (T : Int) (w : World)
    (hx : s.length = n) (hn : n ≤ 100000) (hH : Hs w a s) (hi : Inc (ad s)) (hl : xs.length = ln) (hln : ln ≤ 100000) (hA : As w b xs) (hxi : Inc xs) (hT : -9223372036854775808 ≤ T ∧ T ≤ 9223372036854775807) :
    Calls Tryz.prog 111 #[.agg #[.int .u32 g, .bool ex, .int .i64 left, .slice a n c, .int .i64 kp, .int .i64 la, .slice aq nq cq], .slice b ln lc, .int .i64 T] w fun e w' => OutHr w e w' g ex left (keepS s xs T) kp la (.slice aq nq cq) := by
  obtain ⟨i0, hi0, hz0, hz1, hz2⟩ := info_parts infoHd
  have HX := Lib.hid hx
  have HH := Lib.hid hH
  have HI := Lib.hid hi
  have HL := Lib.hid hl
  have HA := Lib.hid hA
  have HXI := Lib.hid hxi
  have HT := Lib.hid hT
  clear hx hH hi hl hA hxi hT
  go_enter Tryz.func111, Tryz.ntmps111
  go_wp2_with fail
  obtain ⟨w3, hw3⟩ : ∃ w3, w3 = ((w.alloc (.cells #[.int .u32 g, .bool ex, .int .i64 left, .slice a n c, .int .i64 kp, .int .i64 la, .slice aq nq cq] 95)).alloc (.cells #[.slice b ln lc] 29)).alloc (.cells #[.int .u32 0, .bool false, .int .i64 0, .slice none 0 0, .int .i64 0, .int .i64 0, .slice none 0 0] 95) := ⟨_, rfl⟩
  obtain ⟨hs3, v0, l1, v2, hB3⟩ := mk3 w g ex left a n c kp la aq nq cq b ln lc w3 hw3
  rw [← hw3]
  have HS3 := Lib.hid hs3
  have HB3 := Lib.hid hB3
  have V0 := Lib.hid v0
  have L1 := Lib.hid l1
  have V2 := Lib.hid v2
  clear hw3 hs3 v0 l1 v2 hB3
  refine (mThoseK (.pointer (some ⟨w.heap.size + 1, 0, none⟩)) (fun x => !decide (x.1 ∈ xs)) a n c s w3 HX.out hn (HH.out.below HB3.out) (fun w1 x hb _ => cKeep (w.heap.size + 1) b ln lc xs x w1 HL.out (by omega) ((hb.cell (cell_lt L1.out)).trans L1.out) ((HA.out.below HB3.out).below hb))).mono ?_
  rintro e w4 ⟨⟨a4, c4, rfl, ho4⟩, hb4⟩
  rw [HS3.out] at ho4 hb4
  have HO4 := Lib.hid ho4
  have HB4 := Lib.hid (HB3.out.trans (hb4.mono (by omega)))
  have V04 := Lib.hid (V0.out.below hb4 (by omega))
  have V24 := Lib.hid (V2.out.below hb4 (by omega))
  have L14 := Lib.hid ((hb4.cell (p := ⟨w.heap.size + 1, 0, none⟩) (by show w.heap.size + 1 < _; omega)).trans L1.out)
  have HZ4 : Hid (w.heap.size + 3 ≤ w4.heap.size) := Lib.hid (by have := hb4.size; rw [HS3.out] at this; exact this)
  clear ho4 hb4 V0 L1 V2 HB3
  obtain ⟨c0, c1, c2, c3, c4', c5, c6, f0, f1, f2, f3, f4, f5, f6⟩ := V04.out.cells
  have lb := L14.out
  go_wp2
  have VS := Lib.hid (V04.out.set3 a4 (s.filter fun x => !decide (x.1 ∈ xs)).length c4)
  have BS := But1.set w4 w.heap.size 3 (.slice a4 (s.filter fun x => !decide (x.1 ∈ xs)).length c4)
  have HOS := Lib.hid (vown_but HO4.out BS (by omega))
  have V2S := Lib.hid (V24.out.but BS (by omega))
  have HBS := Lib.hid (HB4.out.trans (BS.below (Nat.le_refl _) HB4.out.size))
  have HZS : Hid (w.heap.size + 3 ≤ (w4.setCell ⟨w.heap.size, 3, none⟩ (.slice a4 (s.filter fun x => !decide (x.1 ∈ xs)).length c4)).heap.size) := Lib.hid (Nat.le_trans HZ4.out BS.size)
  clear c0 c1 c2 c3 c4' c5 c6 f0 f1 f2 f3 f4 f5 f6 lb BS HO4 V04 V24 HB4 L14 HZ4
  generalize w4.setCell ⟨w.heap.size, 3, none⟩ (.slice a4 (s.filter fun x => !decide (x.1 ∈ xs)).length c4) = w5 at *
  go_loopw [18] (fun v18 wr => ∃ (k : Nat) (a5 : Option Addr) (n5 c5 : Nat), v18 = .int .i64 (k : Int) ∧ k ≤ ln ∧ n5 = (s.filter (fun x => !decide (x.1 ∈ xs)) ++ (xs.take k).map fun x => (x, T)).length ∧ wr.ownsRow (w.heap.size + 3) 86 2 (.slice a5 n5 c5) n5 (hv (s.filter (fun x => !decide (x.1 ∈ xs)) ++ (xs.take k).map fun x => (x, T))) ∧
    HV wr w.heap.size g ex left a5 n5 c5 kp la aq nq cq ∧ HV wr (w.heap.size + 2) 0 false 0 none 0 0 0 0 none 0 0 ∧ Below w.heap.size w wr ∧ w.heap.size + 3 ≤ wr.heap.size) (fun v _ => ln - (intOf v).toNat)
  case atStart => exact ⟨0, a4, _, c4, rfl, by omega, by simp, by simpa using HOS.out, VS.out, V2S.out, HBS.out, HZS.out⟩
  case round =>
    clear HOS VS V2S HBS HZS
    obtain ⟨k, a5, n5, c5, rfl, hk, hn5, ho, hv0, hv2, hB, hZ⟩ := hrel
    have HN5 := Lib.hid hn5
    have HO := Lib.hid ho
    have V0 := Lib.hid hv0
    have V2 := Lib.hid hv2
    have HB := Lib.hid hB
    have HZ := Lib.hid hZ
    have hol : n5 ≤ 200000 := by
      rw [hn5, List.length_append, List.length_map]
      have h1 := List.length_filter_le (fun x : Hd => !decide (x.1 ∈ xs)) s
      have h2 := List.length_take_le' k xs
      have h3 := HX.out
      have h4 := HL.out
      omega
    clear hn5 ho hv0 hv2 hB hZ
    obtain ⟨c0, c1, c2, c3, c4', c5', c6, f0, f1, f2, f3, f4, f5, f6⟩ := V0.out.cells
    by_cases hlt : k < ln
    · obtain ⟨b', off, rfl, hc⟩ := HA.out.at (k := k) (by rw [HL.out]; exact hlt)
      have d0 := (HB.out.cell (cell_lt (hc k (by rw [HL.out]; exact hlt)))).trans (hc k (by rw [HL.out]; exact hlt))
      have hkz : (k : Int) < (ln : Int) := by omega
      have HTK : Hid (xs.take (k + 1) = xs.take k ++ [xs.getD k 0]) := Lib.hid (takeH (by simp [List.getD_eq_getElem?_getD, HL.out, hlt]))
      clear hc
      generalize hy : xs.getD k 0 = y at *
      clear hy
      have hn1 := news_new wr [.int .u32 y, .int .i64 T] 86
      have HN1 := Lib.hid hn1
      clear hn1
      go_wp2_with ((refine wpList_app_cell rfl 26 86 i0 _ 2 16 Tryz.underlying26 hi0 hz0 hz1 hz2 rfl (by decide) (by omega) (.tmp 24) (.tmp 28) rfl (w.heap.size + 3) _ n5 (hv (s.filter (fun x => !decide (x.1 ∈ xs)) ++ (xs.take k).map fun x => (x, T))) rfl (HO.out.alloc _) ⟨wr.heap.size, 0, none⟩ 1 [.int .u32 y, .int .i64 T] rfl rfl HN1.out (by simp [Value.oneCell']) (by omega) (by have := HZ.out; simp; omega) ?_; intro a' cap' w' hown hg; have hbb : Hid (Below (w.heap.size + 3) wr w') := Lib.hid (((Below.refl _ wr).alloc HZ.out _).trans (grown_below (HO.out.alloc _) hg.out (by have := HZ.out; simp; omega))); have V0' := Lib.hid (V0.out.below hbb.out (by omega)); have V2' := Lib.hid (V2.out.below hbb.out (by omega)); clear c0 c1 c2 c3 c4' c5' c6 f0 f1 f2 f3 f4 f5 f6 d0; obtain ⟨c0, c1, c2, c3, c4', c5', c6, f0, f1, f2, f3, f4, f5, f6⟩ := V0'.out.cells))
      go_roundw
      case rel =>
        have BS := But1.set w' w.heap.size 3 (.slice a' (n5 + 1) cap')
        have e : s.filter (fun x => !decide (x.1 ∈ xs)) ++ (xs.take (k + 1)).map (fun x => (x, T)) = (s.filter (fun x => !decide (x.1 ∈ xs)) ++ (xs.take k).map fun x => (x, T)) ++ [(y, T)] := by rw [HTK.out]; simp
        refine ⟨k + 1, a', n5 + 1, cap', by go_num, by omega, by rw [e, List.length_append, ← HN5.out]; rfl, ?_, V0'.out.set3 a' (n5 + 1) cap', V2'.out.but BS (by omega), HB.out.trans ((hbb.out.mono (by omega)).trans (BS.below (Nat.le_refl _) (Nat.le_trans (by have := HB.out.size; omega) hbb.out.size))), Nat.le_trans (Nat.le_trans HZ.out hbb.out.size) BS.size⟩
        rw [e, hv_append, hv_one']
        exact vown_but hown.out BS (by omega)
      case measure => simp [intOf]; omega
    · obtain rfl : k = ln := by omega
      have htk : xs.take k = xs := List.take_of_length_le (by rw [HL.out]; exact Nat.le_refl _)
      have HN5' := HN5.out
      have HO' := HO.out
      rw [htk] at HN5' HO'
      obtain rfl : n5 = (keepR s xs T).length := HN5'
      have HO2 : Hid (wr.ownsRow (w.heap.size + 3) 86 2 (.slice a5 (keepR s xs T).length c5) (keepR s xs T).length (hv (keepR s xs T))) := Lib.hid HO'
      clear HO HN5 HO' htk
      go_wp2_with fail
      refine (mSort w.heap.size (w.heap.size + 3) c5 a5 (keepR s xs T) wr HO2.out HZ.out V0.out.cells.2.2.2.1 (by omega) (keepR_ins HH.out.2 (isA_iff.1 HA.out.2) HT.out) (keepR_nodup T HI.out HXI.out) (by omega)).mono ?_
      rintro e w6 ⟨rfl, d, hp, hinc, hHd, hb6⟩
      obtain rfl := keep_sorted HI.out HXI.out hp hinc
      have HLE := Lib.hid hp.length_eq
      have HD := Lib.hid hHd
      have HB6 := Lib.hid (HB.out.trans (hb6.mono (by omega)))
      have V06 := Lib.hid (V0.out.below hb6 (by omega))
      have V26 := Lib.hid (V2.out.below hb6 (by omega))
      clear c0 c1 c2 c3 c4' c5' c6 f0 f1 f2 f3 f4 f5 f6 hp hinc hHd hb6 V0 V2 HB HO2 HZ
      obtain ⟨c0, c1, c2, c3, c4', c5', c6, f0, f1, f2, f3, f4, f5, f6⟩ := V06.out.cells
      obtain ⟨d0, d1, d2, d3, d4, d5, d6, e0, e1, e2, e3, e4, e5, e6⟩ := V26.out.cells
      go_wp2_with fail
      refine ret_cell1 (p := 6) rfl rfl rfl (V26.out.store g ex left a5 (keepR s xs T).length c5 kp la aq nq cq).load ?_
      have BS := V26.out.store_but g ex left a5 (keepR s xs T).length c5 kp la aq nq cq
      refine ⟨⟨a5, c5, by rw [HLE.out], HD.out.other V26.out.noH BS⟩, HB6.out.trans (BS.below (by omega) HB6.out.size)⟩
end Go.Proofs.YtiabbkjmgaemaaaGreat
/- Exclude. -/
namespace Go.Proofs.YtiabbkjmgaemaaaGreat
set_option linter.unusedVariables false
open Go.RowKit

theorem vev {a : Act} {t : Nat} {v : Value} (h : a.eval (.tmp t) = v) : a.tmps[t]?.getD undef = v := by simpa [Act.eval] using h
theorem vown_as {w : World} {B : Nat} {a : Option Addr} {c : Nat} {xs : List Int} (h : w.ownsRow B 25 1 (.slice a xs.length c) xs.length (va xs)) (hA : IsA xs) : As w a xs := (AsO.of rfl h).as hA
def exV (N : Nat) (W0 : World) (a : Option Addr) (n c : Nat) (b : Option Addr) (ln lc : Nat) (s : List Hd) (xs : List Int) : Nat → Value → List Value → World → Prop
  | 0, v, _, _ => v = .slice b ln lc
  | 1, v, _, _ => v = .pointer (some ⟨N, 0, none⟩)
  | 2, v, _, _ => v = .pointer (some ⟨N, 3, none⟩)
  | 3, v, _, _ => v = .slice a n c
  | 4, v, _, w => ∃ (a12 : Option Addr) (c12 : Nat), v = .slice a12 (ad s).length c12 ∧ As w a12 (ad s)
  | 5, v, _, w => ∃ (a13 : Option Addr) (c13 : Nat), v = .slice a13 (dif xs (ad s)).length c13 ∧ w.ownsRow 0 25 1 (.slice a13 (dif xs (ad s)).length c13) (dif xs (ad s)).length (va (dif xs (ad s))) ∧ Below W0.heap.size W0 w
  | 6, v, _, w => ∃ (a13 : Option Addr) (c13 : Nat), v = .slice a13 (dif xs (ad s)).length c13 ∧ w.ownsRow 0 25 1 (.slice a13 (dif xs (ad s)).length c13) (dif xs (ad s)).length (va (dif xs (ad s))) ∧ Below W0.heap.size W0 w
  | _, _, _, _ => True
def exD : Nat → List Nat
  | 2 => [1]
  | 3 => [2]
  | 4 => [3]
  | 5 => [0, 4]
  | 6 => [5]
  | _ => []
theorem ex_st (N : Nat) (W0 : World) (a : Option Addr) (n c : Nat) (b : Option Addr) (ln lc : Nat) (s : List Hd) (xs : List Int) {i : Nat} {v : Value} {us : List Value} {w w' : World} (hr : Below w.heap.size w w') (hv : exV N W0 a n c b ln lc s xs i v us w) : exV N W0 a n c b ln lc s xs i v us w' := by
  unfold exV at hv ⊢
  split at hv
  all_goals first
    | exact hv
    | (obtain ⟨x, y, e, h⟩ := hv; exact ⟨x, y, e, h.below hr⟩)
    | (obtain ⟨x, y, e, h, k⟩ := hv; exact ⟨x, y, e, own_grown h hr (Nat.le_refl _), k.trans (hr.mono k.size)⟩)
set_option maxRecDepth 100000 in
set_option maxHeartbeats 16000000 in
theorem mExclude (g : Int) (ex : Bool) (left : Int) (a : Option Addr) (n c : Nat) (kp la : Int) (aq : Option Addr) (nq cq : Nat) (s : List Hd) (b : Option Addr) (ln lc : Nat) (xs : List Int) (T : Int) (w : World)
    (hx : s.length = n) (hn : n ≤ 10000) (hH : Hs w a s) (hi : Inc (ad s)) (hl : xs.length = ln) (hln : ln ≤ 10000) (hA : As w b xs) (hxi : Inc xs) (hT : -9223372036854775808 ≤ T ∧ T ≤ 9223372036854775807) :
    Calls Tryz.prog 112 #[.agg #[.int .u32 g, .bool ex, .int .i64 left, .slice a n c, .int .i64 kp, .int .i64 la, .slice aq nq cq], .slice b ln lc, .int .i64 T] w fun e w' =>
      OutHr w e w' g true kp (keepS (s.filter fun x => decide (x.1 ∈ xs)) (dif xs (ad s)) T) kp la (.slice aq nq cq) := by
  have hn : n ≤ 100000 := by omega
  have HX := Lib.hid hx
  have HH := Lib.hid hH
  have HI := Lib.hid hi
  have HL := Lib.hid hl
  have HA := Lib.hid hA
  have HXI := Lib.hid hxi
  have HT := Lib.hid hT
  clear hx hH hi hl hA hxi hT
  obtain ⟨w3, hw3⟩ : ∃ w3, w3 = ((w.alloc (.cells #[.int .u32 g, .bool ex, .int .i64 left, .slice a n c, .int .i64 kp, .int .i64 la, .slice aq nq cq] 95)).alloc (.cells #[.slice b ln lc] 29)).alloc (.cells #[.int .u32 0, .bool false, .int .i64 0, .slice none 0 0, .int .i64 0, .int .i64 0, .slice none 0 0] 95) := ⟨_, rfl⟩
  obtain ⟨hs3, v0, l1, v2, hB3⟩ := mk3 w g ex left a n c kp la aq nq cq b ln lc w3 hw3
  have HS3 := Lib.hid hs3
  have HB3 := Lib.hid hB3
  have V0 := Lib.hid v0
  have L1 := Lib.hid l1
  have V2 := Lib.hid v2
  have HH3 := Lib.hid (HH.out.below HB3.out)
  have HA3 := Lib.hid (HA.out.below HB3.out)
  clear hs3 v0 l1 v2 hB3
  go_enter Tryz.func112, Tryz.ntmps112
  go_wp2
  rw [← hw3]
  clear hw3
  refine wp_region_last (exV w.heap.size w3 a n c b ln lc s xs) (fun W => Below w3.heap.size w3 W) (fun _ A B => Below A.heap.size A B) exD [8, 9, 10, 11, 12, 13, 7] (by kernel_rfl) (by kernel_rfl) (by kernel_rfl) (by kernel_rfl) (by kernel_rfl) (by decide) (Below.refl _ w3).drew
    (fun i j oi oj v us A B hoi hoj hij hni hw hSA hr hv => ex_st _ _ _ _ _ _ _ _ _ _ hr hv)
    ⟨?_, ?_, ?_, ?_, ?_, ?_, ?_, trivial⟩ ?hend
  case refine_1 =>
    intro a' w9 hS h0 hd
    have e4 : a'.tmps[4]?.getD undef = .pointer (some ⟨w.heap.size + 1, 0, none⟩) := vev (h0 4 (by kernel_rfl))
    have c0 := (hS.cell (cell_lt L1.out)).trans L1.out
    refine Does2.value (.slice b ln lc) (w' := w9) ?_ ⟨rfl, fun _ => ⟨hS, Below.refl _ _⟩⟩
    clear hS h0 hd
    go_simp
  case refine_2 =>
    intro a' w9 hS h0 hd
    have e3 : a'.tmps[3]?.getD undef = .pointer (some ⟨w.heap.size, 0, none⟩) := vev (h0 3 (by kernel_rfl))
    refine Does2.value (.pointer (some ⟨w.heap.size, 0, none⟩)) (w' := w9) ?_ ⟨rfl, fun _ => ⟨hS, Below.refl _ _⟩⟩
    clear hS h0 hd
    go_simp
  case refine_3 =>
    intro a' w9 hS h0 hd
    have e9 : a'.tmps[9]?.getD undef = .pointer (some ⟨w.heap.size, 0, none⟩) := vev (hd 1 List.mem_cons_self)
    refine Does2.value (.pointer (some ⟨w.heap.size, 3, none⟩)) (w' := w9) ?_ ⟨rfl, fun _ => ⟨hS, Below.refl _ _⟩⟩
    clear hS h0 hd
    go_simp
  case refine_4 =>
    intro a' w9 hS h0 hd
    have e10 : a'.tmps[10]?.getD undef = .pointer (some ⟨w.heap.size, 3, none⟩) := vev (hd 2 List.mem_cons_self)
    obtain ⟨c0, c1, c2, c3, c4, c5, c6, f0, f1, f2, f3, f4, f5, f6⟩ := (V0.out.below hS V0.out.lt).cells
    refine Does2.value (.slice a n c) (w' := w9) ?_ ⟨rfl, fun _ => ⟨hS, Below.refl _ _⟩⟩
    clear hS h0 hd
    go_simp
  case refine_5 =>
    intro a' w9 hS h0 hd
    have e11 : a'.tmps[11]?.getD undef = .slice a n c := vev (hd 3 List.mem_cons_self)
    refine Does2.call 116 #[.slice a n c] (w' := w9) ?_ ((mAddrs a n c s w9 HX.out hn (HH3.out.below hS)).mono ?_)
    · clear hS h0 hd
      go_simp
    · rintro e w8 ⟨⟨a8, c8, rfl, hA8, hf8, ho8⟩, hb⟩
      exact ⟨_, rfl, ⟨a8, c8, rfl, hA8⟩, fun _ => ⟨hS.trans (hb.mono hS.size), hb⟩⟩
  case refine_6 =>
    intro a' w9 hS h0 hd
    have e8 : a'.tmps[8]?.getD undef = .slice b ln lc := vev (hd 0 List.mem_cons_self)
    obtain ⟨a12, c12, e12, h12⟩ := hd 4 (List.mem_cons_of_mem _ List.mem_cons_self)
    replace e12 := vev e12
    refine Does2.call 114 #[.slice b ln lc, .slice a12 (ad s).length c12] (w' := w9) ?_ ((vMinus b a12 ln _ lc c12 xs (ad s) w9 HL.out rfl (by omega) (by rw [ad_len, HX.out]; omega) (HA3.out.below hS) h12).mono ?_)
    · clear hS h0 hd
      go_simp
    · rintro e w8 ⟨⟨a8, c8, rfl, hA8, hf8, ho8⟩, hb⟩
      exact ⟨_, rfl, ⟨a8, c8, rfl, vown_le ho8 (Nat.zero_le _), hS.trans (hb.mono hS.size)⟩, fun _ => ⟨hS.trans (hb.mono hS.size), hb⟩⟩
  case refine_7 =>
    intro a' w9 hS h0 hd
    obtain ⟨a13, c13, e13, h13, h14⟩ := hd 5 List.mem_cons_self
    replace e13 := vev e13
    refine Does2.value (.slice a13 (dif xs (ad s)).length c13) (w' := w9) ?_ ⟨⟨a13, c13, rfl, h13, h14⟩, fun h => absurd rfl h⟩
    clear hS h0 hd h13 h14
    go_simp
  case hend =>
    intro f w9 hv
    obtain ⟨a7, c7, v7, h7, hB7⟩ := hv
    replace v7 : f 7 = .slice a7 (dif xs (ad s)).length c7 := v7
    simp only [putAll, Act.put, List.setIfInBounds_toArray, List.set_cons_zero, List.set_cons_succ, v7]
    have V09 := Lib.hid (V0.out.below hB7 V0.out.lt)
    have V29 := Lib.hid (V2.out.below hB7 V2.out.lt)
    have L19 := Lib.hid ((hB7.cell (cell_lt L1.out)).trans L1.out)
    have HB9 := Lib.hid (HB3.out.trans (hB7.mono HB3.out.size))
    have HO7 := Lib.hid h7
    have HZ9 : Hid (w.heap.size + 3 ≤ w9.heap.size) := Lib.hid (by have := hB7.size; have := HS3.out; omega)
    clear v7 h7 hB7 V0 V2 L1 HB3 HH3 HA3
    obtain ⟨c0, c1, c2, c3, c4, c5, c6, f0, f1, f2, f3, f4, f5, f6⟩ := V09.out.cells
    go_wp2_with fail
    have BS := (But1.set w9 w.heap.size 1 (.bool true)).trans (But1.set _ w.heap.size 2 (.int .i64 kp))
    have VS := Lib.hid ((V09.out.set1 true).set2 kp)
    have V2S := Lib.hid (V29.out.but BS (by omega))
    have L1S := Lib.hid ((BS.cell (cell_lt L19.out) (by show w.heap.size + 1 ≠ w.heap.size; omega)).trans L19.out)
    have HOS := Lib.hid (vown_ty HO7.out V09.out (by decide) BS)
    have HBS := Lib.hid (HB9.out.trans (BS.below (Nat.le_refl _) HB9.out.size))
    have HZS : Hid (w.heap.size + 3 ≤ ((w9.setCell ⟨w.heap.size, 1, none⟩ (.bool true)).setCell ⟨w.heap.size, 2, none⟩ (.int .i64 kp)).heap.size) := Lib.hid (Nat.le_trans HZ9.out BS.size)
    clear c0 c1 c2 c3 c4 c5 c6 f0 f1 f2 f3 f4 f5 f6 BS V09 V29 L19 HO7 HB9 HZ9
    generalize (w9.setCell ⟨w.heap.size, 1, none⟩ (.bool true)).setCell ⟨w.heap.size, 2, none⟩ (.int .i64 kp) = w10 at *
    refine (mThoseX (.pointer (some ⟨w.heap.size + 1, 0, none⟩)) (fun x => decide (x.1 ∈ xs)) a n c s w10 HX.out hn (HH.out.below HBS.out) (fun w1 x hb _ => cEx (w.heap.size + 1) b ln lc xs x w1 HL.out (by omega) ((hb.cell (cell_lt L1S.out)).trans L1S.out) ((HA.out.below HBS.out).below hb))).mono ?_
    rintro e w11 ⟨⟨a11, c11, rfl, ho11⟩, hb11⟩
    have HS11 := Lib.hid (own_hs ho11 rfl (ins_filter _ HH.out.2))
    have V011 := Lib.hid (VS.out.below hb11 VS.out.lt)
    have V211 := Lib.hid (V2S.out.below hb11 V2S.out.lt)
    have HO11 := Lib.hid (own_grown HOS.out hb11 (Nat.le_refl _))
    have HB11 := Lib.hid (HBS.out.trans (hb11.mono HBS.out.size))
    have hfl : (s.filter fun x => decide (x.1 ∈ xs)).length ≤ 100000 := Nat.le_trans (List.length_filter_le _ _) (by rw [HX.out]; exact hn)
    clear ho11 hb11 VS V2S HOS HBS HZS L1S
    obtain ⟨c0, c1, c2, c3, c4, c5, c6, f0, f1, f2, f3, f4, f5, f6⟩ := V011.out.cells
    go_wp2_with fail
    have BS := But1.set w11 w.heap.size 3 (.slice a11 (s.filter fun x => decide (x.1 ∈ xs)).length c11)
    have VS := Lib.hid (V011.out.set3 a11 (s.filter fun x => decide (x.1 ∈ xs)).length c11)
    have V2S := Lib.hid (V211.out.but BS (by omega))
    have HSS := Lib.hid (HS11.out.other V011.out.noH BS)
    have HOS := Lib.hid (vown_as (vown_ty HO11.out V011.out (by decide) BS) (those_isA HA.out.2 (isA_iff.2 (ins_ad HH.out.2))))
    have HBS := Lib.hid (HB11.out.trans (BS.below (Nat.le_refl _) HB11.out.size))
    clear c0 c1 c2 c3 c4 c5 c6 f0 f1 f2 f3 f4 f5 f6 BS V011 V211 HO11 HB11 HS11
    generalize w11.setCell ⟨w.heap.size, 3, none⟩ (.slice a11 (s.filter fun x => decide (x.1 ∈ xs)).length c11) = w12 at *
    refine (mKeep g true kp a11 _ c11 kp la aq nq cq _ a7 _ c7 (dif xs (ad s)) T w12 rfl hfl HSS.out (ad_filter_inc _ HI.out) rfl (Nat.le_trans (those_len _ _ _) (by rw [ad_len, HX.out, HL.out]; omega)) HOS.out (dif_inc HXI.out HI.out) HT.out).mono ?_
    rintro e w13 ⟨⟨a13, c13, rfl, hH13⟩, hb13⟩
    have H13 := Lib.hid hH13
    have V213 := Lib.hid (V2S.out.below hb13 V2S.out.lt)
    have HB13 := Lib.hid (HBS.out.trans (hb13.mono HBS.out.size))
    clear hH13 hb13 V2S HBS HSS HOS VS
    obtain ⟨c0, c1, c2, c3, c4, c5, c6, f0, f1, f2, f3, f4, f5, f6⟩ := V213.out.cells
    go_wp2_with fail
    refine ret_cell1 (p := 6) rfl rfl rfl (V213.out.store g true kp a13 _ c13 kp la aq nq cq).load ?_
    have BS := V213.out.store_but g true kp a13 (keepS (s.filter fun x => decide (x.1 ∈ xs)) (dif xs (ad s)) T).length c13 kp la aq nq cq
    exact ⟨⟨a13, c13, rfl, H13.out.other V213.out.noH BS⟩, HB13.out.trans (BS.below (by omega) HB13.out.size)⟩
end Go.Proofs.YtiabbkjmgaemaaaGreat
/- What is asked: rows of questions; ask. -/
namespace Go.Proofs.YtiabbkjmgaemaaaGreat
set_option linter.unusedVariables false
open Go.RowKit

/-- A question, and where its sources lie. -/
structure Qr where
  g : Int
  srcs : List Int
  a : Option Addr
  c : Nat
def Qr.sl (r : Qr) : Value := .slice r.a r.srcs.length r.c
def Qr.nm (r : Qr) : Int × List Int := (r.g, r.srcs)
def qv (rs : List Qr) : List Value := rs.flatMap fun r => [.int .u32 r.g, r.sl]
theorem qv_one (r : Qr) : qv [r] = [.int .u32 r.g, r.sl] := by simp [qv]
theorem qv_append (a b : List Qr) : qv (a ++ b) = qv a ++ qv b := by simp [qv]
def QOk (w : World) (r : Qr) : Prop := (0 ≤ r.g ∧ r.g ≤ 4294967295) ∧ IsA r.srcs ∧ w.ownsRow 0 25 1 (.slice r.a r.srcs.length r.c) r.srcs.length (va r.srcs)
def Qs (w : World) (B : Nat) (a : Option Addr) (c : Nat) (rs : List Qr) : Prop := w.ownsRow B 73 2 (.slice a rs.length c) rs.length (qv rs) ∧ ∀ r ∈ rs, QOk w r
theorem QOk.below {w w' : World} {r : Qr} (h : QOk w r) (hb : Below w.heap.size w w') : QOk w' r := ⟨h.1, h.2.1, own_grown h.2.2 hb (Nat.le_refl _)⟩
theorem Qs.below {w w' : World} {B : Nat} {a : Option Addr} {c : Nat} {rs : List Qr} (h : Qs w B a c rs) (hb : Below w.heap.size w w') : Qs w' B a c rs := ⟨own_grown h.1 hb (Nat.le_refl _), fun r hr => (h.2 r hr).below hb⟩
theorem Qs.le {w : World} {B B' : Nat} {a : Option Addr} {c : Nat} {rs : List Qr} (h : Qs w B a c rs) (hB : B' ≤ B) : Qs w B' a c rs := ⟨vown_le h.1 hB, h.2⟩
theorem QOk.hv {w w' : World} {r : Qr} (h : QOk w r) {X : Nat} {g : Int} {ex : Bool} {left : Int} {a : Option Addr} {n c : Nat} {k la : Int} {aq : Option Addr} {nq cq : Nat} (hX : HV w X g ex left a n c k la aq nq cq) (hb : But1 X w w') : QOk w' r := ⟨h.1, h.2.1, vown_ty h.2.2 hX (by decide) hb⟩
theorem Qs.hv {w w' : World} {B : Nat} {aa : Option Addr} {cc : Nat} {rs : List Qr} (h : Qs w B aa cc rs) {X : Nat} {g : Int} {ex : Bool} {left : Int} {a : Option Addr} {n c : Nat} {k la : Int} {aq : Option Addr} {nq cq : Nat} (hX : HV w X g ex left a n c k la aq nq cq) (hb : But1 X w w') : Qs w' B aa cc rs :=
  ⟨vown_ty h.1 hX (by decide) hb, fun r hr => (h.2 r hr).hv hX hb⟩
theorem Qs.mv {w w' : World} {B : Nat} {aa : Option Addr} {cc : Nat} {rs : List Qr} (h : Qs w B aa cc rs) {X : Nat} {g : Int} {ex : Bool} {left : Int} {a : Option Addr} {n c : Nat} (hX : MV w X g ex left a n c) (hb : But1 X w w') : Qs w' B aa cc rs :=
  ⟨vown_ty h.1 hX (by decide) hb, fun r hr => ⟨(h.2 r hr).1, (h.2 r hr).2.1, vown_ty (h.2 r hr).2.2 hX (by decide) hb⟩⟩
theorem Qs.nil (w : World) (B : Nat) : Qs w B none 0 [] := ⟨World.ownsRow_nil _ _ _ _, fun r h => absurd h (by simp)⟩
theorem infoQ : (Tryz.prog.info? 73).map (fun i => (i.zero, i.size, i.bytes)) = some (some (.agg #[.int .u32 0, .slice none 0 0]), 2, 32) := by kernel_rfl
/-- What is handed back of a record that is heard: its sources, and what is asked. -/
def OutA (w : World) (e : Ending) (w' : World) (g : Int) (ex : Bool) (left : Int) (s : List Hd) (k la : Int) (Q : List (Int × List Int)) : Prop :=
  (∃ a c aa cc rs, e = .returned (.agg #[.int .u32 g, .bool ex, .int .i64 left, .slice a s.length c, .int .i64 k, .int .i64 la, .slice aa (List.length rs) cc]) ∧ HT w' a s ∧ rs.map Qr.nm = Q ∧ Qs w' w.heap.size aa cc rs) ∧ Below w.heap.size w w'
def askS (s : List Hd) (la : Int) (xs : List Int) : List Hd := if xs = [] then s else keepS s (int xs (ad (s.filter fun x => decide (la < x.2)))) la
def askQ (g : Int) (xs : List Int) : List (Int × List Int) := if xs = [] then [] else [(g, xs)]
def akV (N : Nat) (g : Int) (ex : Bool) (left : Int) (a : Option Addr) (n c : Nat) (kp la : Int) (aq : Option Addr) (nq cq : Nat) (b : Option Addr) (ln lc : Nat) (b5 : Option Addr) (n5 d5 : Nat) (xs ls : List Int) (s : List Hd) (W0 : World) : Nat → Value → List Value → World → Prop
  | 0, v, _, _ => v = .agg #[.int .u32 g, .bool ex, .int .i64 left, .slice a n c, .int .i64 kp, .int .i64 la, .slice aq nq cq]
  | 1, v, _, _ => v = .slice b ln lc
  | 2, v, _, _ => v = .slice b5 n5 d5
  | 3, v, _, w => ∃ (a29 : Option Addr) (c29 : Nat), v = .slice a29 (int xs ls).length c29 ∧ As w a29 (int xs ls)
  | 4, v, _, _ => v = .pointer (some ⟨N, 4, none⟩)
  | 5, v, _, _ => v = .pointer (some ⟨N, 5, none⟩)
  | 6, v, _, _ => v = .int .i64 la
  | 7, v, _, w => ∃ (a33 : Option Addr) (c33 : Nat), v = .agg #[.int .u32 g, .bool ex, .int .i64 left, .slice a33 (keepS s (int xs ls) la).length c33, .int .i64 kp, .int .i64 la, .slice aq nq cq] ∧ HT w a33 (keepS s (int xs ls) la)
  | 8, v, us, w => ∃ a33 c33, HV w (N + 1) g ex left a33 (keepS s (int xs ls) la).length c33 kp la aq nq cq ∧ HT w a33 (keepS s (int xs ls) la) ∧ ∃ W, Below W0.heap.size W0 W ∧ But1 (N + 1) W w ∧ HV W (N + 1) 0 false 0 none 0 0 0 0 none 0 0
  | _, _, _, _ => True
def akD : Nat → List Nat
  | 3 => [1, 2]
  | 5 => [4]
  | 6 => [5]
  | 7 => [0, 3, 6]
  | 8 => [7]
  | _ => []
theorem ak_st (N : Nat) (g : Int) (ex : Bool) (left : Int) (a : Option Addr) (n c : Nat) (kp la : Int) (aq : Option Addr) (nq cq : Nat) (b : Option Addr) (ln lc : Nat) (b5 : Option Addr) (n5 d5 : Nat) (xs ls : List Int) (s : List Hd) (W0 : World) {i : Nat} {v : Value} {us : List Value} {w w' : World} (h8 : i ≠ 8) (hr : Below w.heap.size w w') (hv : akV N g ex left a n c kp la aq nq cq b ln lc b5 n5 d5 xs ls s W0 i v us w) : akV N g ex left a n c kp la aq nq cq b ln lc b5 n5 d5 xs ls s W0 i v us w' := by
  unfold akV at hv ⊢
  split at hv
  all_goals first
    | exact hv
    | (obtain ⟨x, y, e, h⟩ := hv; exact ⟨x, y, e, h.below hr⟩)
    | exact absurd rfl h8
set_option maxRecDepth 100000 in
set_option maxHeartbeats 16000000 in
theorem mAsk (g : Int) (ex : Bool) (left : Int) (a : Option Addr) (n c : Nat) (kp la : Int) (s : List Hd) (b : Option Addr) (ln lc : Nat) (xs : List Int) (w : World)
    (hx : s.length = n) (hn : n ≤ 20000) (hH : HT w a s) (hi : Inc (ad s)) (hl : xs.length = ln) (hln : ln ≤ 20000) (hA : IsA xs) (hO : w.ownsRow 0 25 1 (.slice b ln lc) ln (va xs)) (hxi : Inc xs) (hT : -9223372036854775808 ≤ la ∧ la ≤ 9223372036854775807) (hg : 0 ≤ g ∧ g ≤ 4294967295) :
    Calls Tryz.prog 113 #[.agg #[.int .u32 g, .bool ex, .int .i64 left, .slice a n c, .int .i64 kp, .int .i64 la, .slice none 0 0], .slice b ln lc] w fun e w' =>
      OutA w e w' g ex left (askS s la xs) kp la (askQ g xs) := by
  have hn : n ≤ 100000 := by omega
  obtain ⟨i0, hi0, hz0, hz1, hz2⟩ := info_parts infoQ
  subst hl
  have hAs := vown_as hO hA
  have HX := Lib.hid hx
  have HH := Lib.hid hH
  have HI := Lib.hid hi
  have HA := Lib.hid hAs
  have HO := Lib.hid hO
  have HIA := Lib.hid hA
  have HXI := Lib.hid hxi
  have HT := Lib.hid hT
  have HG := Lib.hid hg
  clear hx hH hi hA hAs hO hxi hT hg
  obtain ⟨ln, hl⟩ : ∃ ln, xs.length = ln := ⟨_, rfl⟩
  rw [hl] at hln HO ⊢
  have HL := Lib.hid hl
  clear hl
  obtain ⟨w2, hw2⟩ : ∃ w2, w2 = (w.alloc (.cells #[.int .u32 g, .bool ex, .int .i64 left, .slice a n c, .int .i64 kp, .int .i64 la, .slice none 0 0] 95)).alloc (.cells #[.int .u32 0, .bool false, .int .i64 0, .slice none 0 0, .int .i64 0, .int .i64 0, .slice none 0 0] 95) := ⟨_, rfl⟩
  obtain ⟨hs2, v0, v1, hB2⟩ := mk2 w g ex left a n c kp la none 0 0 w2 hw2
  have HS2 := Lib.hid hs2
  have HB2 := Lib.hid hB2
  have V0 := Lib.hid v0
  have V1 := Lib.hid v1
  clear hs2 v0 v1 hB2
  go_enter Tryz.func113, Tryz.ntmps113
  by_cases hz : ln = 0
  · subst hz
    have hxs : xs = [] := List.eq_nil_of_length_eq_zero HL.out
    subst hxs
    go_wp2
    clear hw2
    have e1 : (w.alloc (.cells #[.int .u32 g, .bool ex, .int .i64 left, .slice a n c, .int .i64 kp, .int .i64 la, .slice none 0 0] 95)).heap.size = w.heap.size + 1 := World.size_alloc _ _
    have v1 := HV.new (w.alloc (.cells #[.int .u32 g, .bool ex, .int .i64 left, .slice a n c, .int .i64 kp, .int .i64 la, .slice none 0 0] 95)) g ex left a n c kp la none 0 0
    rw [e1] at v1
    refine ret_cell1 (p := 4) rfl rfl rfl v1.load ?_
    have hb := bel2 w (.cells #[.int .u32 g, .bool ex, .int .i64 left, .slice a n c, .int .i64 kp, .int .i64 la, .slice none 0 0] 95) (.cells #[.int .u32 g, .bool ex, .int .i64 left, .slice a n c, .int .i64 kp, .int .i64 la, .slice none 0 0] 95)
    have hxl := HX.out
    subst hxl
    exact ⟨⟨a, c, none, 0, [], rfl, HH.out.below hb, rfl, Qs.nil _ _⟩, hb⟩
  · have hne : xs ≠ [] := fun e => hz (by rw [← HL.out, e]; rfl)
    have hz1' : ((ln : Int) == 0) = false := by simpa using hz
    have HKS : Hid (askS s la xs = keepS s (int xs (ad (s.filter fun x => decide (la < x.2)))) la) := Lib.hid (if_neg hne)
    have HAQ : Hid (askQ g xs = [(g, xs)]) := Lib.hid (if_neg hne)
    clear hne hz
    go_wp2_with fail
    rw [← hw2]
    clear hw2
    refine (mThoseA (.pointer (some ⟨w.heap.size, 0, none⟩)) (fun x => decide (la < x.2)) a n c s w2 HX.out hn (HH.out.1.below HB2.out) (fun w1 x hb _ => cAsk w.heap.size la x w1 (V0.out.below hb V0.out.lt).cells.2.2.2.2.2.1)).mono ?_
    rintro e w4 ⟨⟨a4, c4, rfl, ho4⟩, hb4⟩
    have HS4 := Lib.hid (own_hs ho4 rfl (ins_filter _ HH.out.1.2))
    have V04 := Lib.hid (V0.out.below hb4 V0.out.lt)
    have V14 := Lib.hid (V1.out.below hb4 V1.out.lt)
    have HB4 := Lib.hid (HB2.out.trans (hb4.mono HB2.out.size))
    have hfl : (s.filter fun x => decide (la < x.2)).length ≤ 20000 := Nat.le_trans (List.length_filter_le _ _) (by rw [HX.out]; omega)
    clear ho4 hb4 V0 V1 HB2
    go_wp2_with fail
    refine (mAddrs a4 _ c4 _ _ rfl (by omega) HS4.out).mono ?_
    rintro e w5 ⟨⟨b5, d5, rfl, hA5, hf5, ho5⟩, hb5⟩
    have HA5' := Lib.hid hA5
    have HOO5 := Lib.hid ho5
    have V05 := Lib.hid (V04.out.below hb5 V04.out.lt)
    have V15 := Lib.hid (V14.out.below hb5 V14.out.lt)
    have HB5 := Lib.hid (HB4.out.trans (hb5.mono HB4.out.size))
    have HZ5 : Hid (w.heap.size + 2 ≤ w5.heap.size) := Lib.hid (by have := V15.out.lt; omega)
    have HLI : Hid (Inc (ad (s.filter fun x => decide (la < x.2)))) := Lib.hid (ad_filter_inc _ HI.out)
    have hll : (ad (s.filter fun x => decide (la < x.2))).length ≤ 20000 := by rw [ad_len]; exact hfl
    clear hA5 hf5 ho5 hb5 V04 V14 HB4 HS4 hfl
    obtain ⟨ls, hls⟩ : ∃ ls, ad (s.filter fun x => decide (la < x.2)) = ls := ⟨_, rfl⟩
    rw [hls] at HKS HA5' HOO5 HLI hll ⊢
    clear hls
    obtain ⟨n5, hn5⟩ : ∃ n5, ls.length = n5 := ⟨_, rfl⟩
    rw [hn5] at hll HOO5 ⊢
    have HN5 := Lib.hid hn5
    clear hn5
    have hn1 := news_new w5 [.int .u32 g, .slice b ln lc] 73
    have HN1 := Lib.hid hn1
    clear hn1
    obtain ⟨c0, c1, c2, c3, c4, c5, c6, f0, f1, f2, f3, f4, f5, f6⟩ := V05.out.cells
    go_wp2_with ((refine wpList_app_cell rfl 35 73 i0 _ 2 32 Tryz.underlying35 hi0 hz0 hz1 hz2 rfl (by decide) (by omega) (.tmp 17) (.tmp 23) rfl (w.heap.size + 2) _ 0 [] rfl (World.ownsRow_nil _ _ _ _) ⟨w5.heap.size, 0, none⟩ 1 [.int .u32 g, .slice b ln lc] rfl rfl HN1.out (by simp [Value.oneCell']) (by omega) (by have := HZ5.out; simp; omega) ?_; intro aq' cq' w' hown hg; have hbb : Hid (Below w5.heap.size w5 w') := Lib.hid (((Below.refl _ w5).alloc (Nat.le_refl _) _).trans (grown_below (World.ownsRow_nil _ w5.heap.size 73 2) hg.out (by simp))); have V0' := Lib.hid (V05.out.below hbb.out V05.out.lt); have V1' := Lib.hid (V15.out.below hbb.out V15.out.lt); clear c0 c1 c2 c3 c4 c5 c6 f0 f1 f2 f3 f4 f5 f6; obtain ⟨c0, c1, c2, c3, c4, c5, c6, f0, f1, f2, f3, f4, f5, f6⟩ := V0'.out.cells))
    have BS := But1.set w' w.heap.size 6 (.slice aq' 1 cq')
    have HB6 := Lib.hid (HB5.out.trans (hbb.out.mono HB5.out.size))
    have HB9 := Lib.hid (HB6.out.trans (BS.below (Nat.le_refl _) HB6.out.size))
    have HQ0 : Qs w' (w.heap.size + 2) aq' cq' [⟨g, xs, b, lc⟩] := ⟨by rw [qv_one]; simpa [Qr.sl, HL.out] using hown.out, fun r hr => by
      obtain rfl : r = ⟨g, xs, b, lc⟩ := by simpa using hr
      exact ⟨HG.out, HIA.out, by rw [HL.out]; exact own_grown HO.out HB6.out (Nat.le_refl _)⟩⟩
    have HQ := Lib.hid ((HQ0.hv V0'.out BS).le (B' := w.heap.size) (by omega))
    have HRS : Hid (List.map Qr.nm [⟨g, xs, b, lc⟩] = askQ g xs) := Lib.hid (by rw [HAQ.out]; rfl)
    have V0 := Lib.hid (V0'.out.set6 aq' 1 cq')
    have V1 := Lib.hid (V1'.out.but BS (by omega))
    have HHW := Lib.hid (HH.out.below HB9.out)
    have HAW := Lib.hid (HA.out.below HB9.out)
    have HA5 := Lib.hid (vown_as (by rw [HN5.out]; exact vown_ty (own_grown HOO5.out hbb.out (Nat.le_refl _)) V0'.out (by decide) BS) HA5'.out.2)
    have HNQ : Hid (1 = ([⟨g, xs, b, lc⟩] : List Qr).length) := Lib.hid rfl
    generalize ([⟨g, xs, b, lc⟩] : List Qr) = rs at *
    clear c0 c1 c2 c3 c4 c5 c6 f0 f1 f2 f3 f4 f5 f6 BS hown hg hbb V0' V1' HB6 HQ0 V05 V15 HB5 HA5' HZ5 HN1 HAQ
    generalize w'.setCell ⟨w.heap.size, 6, none⟩ (.slice aq' 1 cq') = w9' at *
    refine wp_region_last (akV w.heap.size g ex left a n c kp la aq' 1 cq' b ln lc b5 n5 d5 xs ls s w9') (fun W => Below w9'.heap.size w9' W) (fun _ A B => Below A.heap.size A B) akD [26, 27, 28, 29, 30, 31, 32, 33] (by kernel_rfl) (by kernel_rfl) (by kernel_rfl) (by kernel_rfl) (by kernel_rfl) (by decide) (Below.refl _ w9').drew
      (fun i j oi oj v us A B hoi hoj hij hni hw hSA hr hv => ak_st _ _ _ _ _ _ _ _ _ _ _ _ _ _ _ _ _ _ _ _ _ _ (fun e => hni (by subst e; rfl)) hr hv)
      ⟨?_, ?_, ?_, ?_, ?_, ?_, ?_, ?_, ?_, trivial⟩ ?hend
    case refine_1 =>
      intro a' w9 hS h0 hd
      have e2 : a'.tmps[2]?.getD undef = .pointer (some ⟨w.heap.size, 0, none⟩) := vev (h0 2 (by kernel_rfl))
      obtain ⟨c0, c1, c2, c3, c4, c5, c6, f0, f1, f2, f3, f4, f5, f6⟩ := (V0.out.below hS V0.out.lt).cells
      refine Does2.value (.agg #[.int .u32 g, .bool ex, .int .i64 left, .slice a n c, .int .i64 kp, .int .i64 la, .slice aq' 1 cq']) (w' := w9) ?_ ⟨rfl, fun _ => ⟨hS, Below.refl _ _⟩⟩
      clear hS h0 hd
      go_simp
    case refine_2 =>
      intro a' w9 hS h0 hd
      have e1 : a'.tmps[1]?.getD undef = .slice b ln lc := vev (h0 1 (by kernel_rfl))
      refine Does2.value (.slice b ln lc) (w' := w9) ?_ ⟨rfl, fun _ => ⟨hS, Below.refl _ _⟩⟩
      clear hS h0 hd
      go_simp
    case refine_3 =>
      intro a' w9 hS h0 hd
      have e5 : a'.tmps[5]?.getD undef = .slice b5 n5 d5 := vev (h0 5 (by kernel_rfl))
      refine Does2.value (.slice b5 n5 d5) (w' := w9) ?_ ⟨rfl, fun _ => ⟨hS, Below.refl _ _⟩⟩
      clear hS h0 hd
      go_simp
    case refine_4 =>
      intro a' w9 hS h0 hd
      have e27 : a'.tmps[27]?.getD undef = .slice b ln lc := vev (hd 1 List.mem_cons_self)
      have e28 : a'.tmps[28]?.getD undef = .slice b5 n5 d5 := vev (hd 2 (List.mem_cons_of_mem _ List.mem_cons_self))
      refine Does2.call 117 #[.slice b ln lc, .slice b5 n5 d5] (w' := w9) ?_ ((vInter b b5 ln n5 lc d5 xs ls w9 HL.out HN5.out (by omega) (by omega) (HAW.out.below hS) (HA5.out.below hS)).mono ?_)
      · clear hS h0 hd
        go_simp
      · rintro e w8 ⟨⟨a8, c8, rfl, hA8, hf8, ho8⟩, hb⟩
        exact ⟨_, rfl, ⟨a8, c8, rfl, hA8⟩, fun _ => ⟨hS.trans (hb.mono hS.size), hb⟩⟩
    case refine_5 =>
      intro a' w9 hS h0 hd
      have e2 : a'.tmps[2]?.getD undef = .pointer (some ⟨w.heap.size, 0, none⟩) := vev (h0 2 (by kernel_rfl))
      refine Does2.value (.pointer (some ⟨w.heap.size, 4, none⟩)) (w' := w9) ?_ ⟨rfl, fun _ => ⟨hS, Below.refl _ _⟩⟩
      clear hS h0 hd
      go_simp
    case refine_6 =>
      intro a' w9 hS h0 hd
      have e30 : a'.tmps[30]?.getD undef = .pointer (some ⟨w.heap.size, 4, none⟩) := vev (hd 4 List.mem_cons_self)
      refine Does2.value (.pointer (some ⟨w.heap.size, 5, none⟩)) (w' := w9) ?_ ⟨rfl, fun _ => ⟨hS, Below.refl _ _⟩⟩
      clear hS h0 hd
      go_simp
    case refine_7 =>
      intro a' w9 hS h0 hd
      have e31 : a'.tmps[31]?.getD undef = .pointer (some ⟨w.heap.size, 5, none⟩) := vev (hd 5 List.mem_cons_self)
      obtain ⟨c0, c1, c2, c3, c4, c5, c6, f0, f1, f2, f3, f4, f5, f6⟩ := (V0.out.below hS V0.out.lt).cells
      refine Does2.value (.int .i64 la) (w' := w9) ?_ ⟨rfl, fun _ => ⟨hS, Below.refl _ _⟩⟩
      clear hS h0 hd
      go_simp
    case refine_8 =>
      intro a' w9 hS h0 hd
      have e26 : a'.tmps[26]?.getD undef = .agg #[.int .u32 g, .bool ex, .int .i64 left, .slice a n c, .int .i64 kp, .int .i64 la, .slice aq' 1 cq'] := vev (hd 0 List.mem_cons_self)
      obtain ⟨a29, c29, e29, h29⟩ := hd 3 (List.mem_cons_of_mem _ List.mem_cons_self)
      replace e29 := vev e29
      have e32 : a'.tmps[32]?.getD undef = .int .i64 la := vev (hd 6 (List.mem_cons_of_mem _ (List.mem_cons_of_mem _ List.mem_cons_self)))
      refine Does2.call 111 #[.agg #[.int .u32 g, .bool ex, .int .i64 left, .slice a n c, .int .i64 kp, .int .i64 la, .slice aq' 1 cq'], .slice a29 (int xs ls).length c29, .int .i64 la] (w' := w9) ?_ ((mKeep g ex left a n c kp la aq' 1 cq' s a29 _ c29 (int xs ls) la w9 HX.out hn (HHW.out.1.below hS) HI.out rfl (by have := those_len (fun p q => p && q) xs ls; have h1 := HL.out; have h2 := HN5.out; unfold int; omega) h29 (int_inc HXI.out HLI.out) HT.out).mono ?_)
      · clear hS h0 hd
        go_simp
      · rintro e w8 ⟨⟨a8, c8, rfl, hA8⟩, hb⟩
        exact ⟨_, rfl, ⟨a8, c8, rfl, hA8⟩, fun _ => ⟨hS.trans (hb.mono hS.size), hb⟩⟩
    case refine_9 =>
      intro a' w9 hS h0 hd
      have e4 : a'.tmps[4]?.getD undef = .pointer (some ⟨w.heap.size + 1, 0, none⟩) := vev (h0 4 (by kernel_rfl))
      obtain ⟨a33, c33, e33, h33⟩ := hd 7 List.mem_cons_self
      replace e33 := vev e33
      have v1 := V1.out.below hS V1.out.lt
      obtain ⟨d0, d1, d2, d3, d4, d5, d6, e0, e1, e2, e3, e4, e5, e6⟩ := v1.cells
      have hst := v1.store g ex left a33 (keepS s (int xs ls) la).length c33 kp la aq' 1 cq'
      have hbt := v1.store_but g ex left a33 (keepS s (int xs ls) la).length c33 kp la aq' 1 cq'
      refine Does2.skip (w' := (((((((w9.setCell ⟨w.heap.size + 1, 0, none⟩ (.int .u32 g)).setCell ⟨w.heap.size + 1, 1, none⟩ (.bool ex)).setCell ⟨w.heap.size + 1, 2, none⟩ (.int .i64 left)).setCell ⟨w.heap.size + 1, 3, none⟩ (.slice a33 (keepS s (int xs ls) la).length c33)).setCell ⟨w.heap.size + 1, 4, none⟩ (.int .i64 kp)).setCell ⟨w.heap.size + 1, 5, none⟩ (.int .i64 la)).setCell ⟨w.heap.size + 1, 6, none⟩ (.slice aq' 1 cq'))) ?_ ⟨⟨a33, c33, hst, h33.other v1.noH hbt, w9, hS, hbt, v1⟩, fun h => absurd rfl h⟩
      clear hS h0 hd h33 hst hbt v1
      go_simp
    case hend =>
      intro f w9 hv
      obtain ⟨a33, c33, hst, h33, W, hbW, hbt, hz⟩ := hv
      simp only [putAll, Act.put, List.setIfInBounds_toArray, List.set_cons_zero, List.set_cons_succ]
      have H33 := Lib.hid h33
      have HLD := Lib.hid hst.load
      have HQ9 := Lib.hid ((HQ.out.below hbW).hv hz hbt)
      have HBF := Lib.hid (HB9.out.trans ((hbW.mono HB9.out.size).trans (hbt.below (by omega) (Nat.le_trans HB9.out.size hbW.size))))
      clear hst h33 hbW hbt hz
      go_wp2_with fail
      refine ret_cell1 (p := 4) rfl rfl rfl HLD.out ?_
      refine ⟨⟨a33, c33, aq', cq', rs, by rw [HKS.out, ← HNQ.out], by rw [HKS.out]; exact H33.out, HRS.out, HQ9.out⟩, HBF.out⟩
end Go.Proofs.YtiabbkjmgaemaaaGreat
