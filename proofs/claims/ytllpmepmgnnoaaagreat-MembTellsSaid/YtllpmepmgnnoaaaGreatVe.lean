/- Variables: what is known, and a record that is heard. -/
import Derived.Test.YtllpmepmgnnoaaaGreatVc
namespace Go.Proofs.YtllpmepmgnnoaaaGreat
set_option linter.unusedVariables false
open Go.RowKit

theorem v_set {w : World} {R j : Nat} {cs : Array Value} {T : TypeId} {v : Value} (h : w.heap[R]? = some (.cells cs T (0, 0))) : (w.setCell ⟨R, j, none⟩ v).heap[R]? = some (.cells (cs.setIfInBounds j v) T (0, 0)) := by
  simp [World.setCell, Array.getElem?_modify, h]
theorem v_blk {w : World} {g : Nat} {o : Obj} (h : w.heap[g]? = some o) (o' : Obj) : (w.alloc o').heap[g]? = some o := (((Below.refl w.heap.size w).alloc (Nat.le_refl _) o').block g (Array.getElem?_eq_some_iff.1 h).1).trans h
/-- Block X is a variable of that type. -/
def HV (w : World) (X : Nat) (g : Int) (ex : Bool) (left : Int) (a : Option Addr) (n : Nat) (c : Nat) (k : Int) (la : Int) (aq : Option Addr) (nq : Nat) (cq : Nat) : Prop := w.heap[X]? = some (.cells #[.int .u32 g, .bool ex, .int .i64 left, .slice a n c, .int .i64 k, .int .i64 la, .slice aq nq cq] 58 (0, 0))
namespace HV
variable {w w' : World} {X R : Nat} {g : Int} {ex : Bool} {left : Int} {a : Option Addr} {n : Nat} {c : Nat} {k : Int} {la : Int} {aq : Option Addr} {nq : Nat} {cq : Nat}
theorem lt (h : HV w X g ex left a n c k la aq nq cq) : X < w.heap.size := (Array.getElem?_eq_some_iff.1 h).1
theorem cells (h : HV w X g ex left a n c k la aq nq cq) : w.cell? ⟨X, 0, none⟩ = some (.int .u32 g) ∧ w.cell? ⟨X, 1, none⟩ = some (.bool ex) ∧ w.cell? ⟨X, 2, none⟩ = some (.int .i64 left) ∧ w.cell? ⟨X, 3, none⟩ = some (.slice a n c) ∧ w.cell? ⟨X, 4, none⟩ = some (.int .i64 k) ∧ w.cell? ⟨X, 5, none⟩ = some (.int .i64 la) ∧ w.cell? ⟨X, 6, none⟩ = some (.slice aq nq cq) ∧ w.frozen? ⟨X, 0, none⟩ = false ∧ w.frozen? ⟨X, 1, none⟩ = false ∧ w.frozen? ⟨X, 2, none⟩ = false ∧ w.frozen? ⟨X, 3, none⟩ = false ∧ w.frozen? ⟨X, 4, none⟩ = false ∧ w.frozen? ⟨X, 5, none⟩ = false ∧ w.frozen? ⟨X, 6, none⟩ = false := by
  have h' : w.heap[X]? = some (.cells #[.int .u32 g, .bool ex, .int .i64 left, .slice a n c, .int .i64 k, .int .i64 la, .slice aq nq cq] 58 (0, 0)) := h
  refine ⟨?_, ?_, ?_, ?_, ?_, ?_, ?_, ?_, ?_, ?_, ?_, ?_, ?_, ?_⟩
  all_goals first
    | (simp [World.cell?, h'])
    | (simp [World.frozen?, h'])
theorem below (h : HV w X g ex left a n c k la aq nq cq) {B : Nat} (hb : Below B w w') (hX : X < B) : HV w' X g ex left a n c k la aq nq cq := (hb.block X hX).trans h
theorem but (h : HV w X g ex left a n c k la aq nq cq) (hb : But1 R w w') (hne : X ≠ R) : HV w' X g ex left a n c k la aq nq cq := (hb.block X h.lt hne).trans h
theorem new (w : World) (g : Int) (ex : Bool) (left : Int) (a : Option Addr) (n : Nat) (c : Nat) (k : Int) (la : Int) (aq : Option Addr) (nq : Nat) (cq : Nat) : HV (w.alloc (.cells #[.int .u32 g, .bool ex, .int .i64 left, .slice a n c, .int .i64 k, .int .i64 la, .slice aq nq cq] 58)) w.heap.size g ex left a n c k la aq nq cq := Go.Deep.blk_alloc_new _ _
theorem keep (h : HV w X g ex left a n c k la aq nq cq) (o : Obj) : HV (w.alloc o) X g ex left a n c k la aq nq cq := h.below (bel1 w o) h.lt
theorem set0 (h : HV w X g ex left a n c k la aq nq cq) (g' : Int) : HV (w.setCell ⟨X, 0, none⟩ (.int .u32 g')) X g' ex left a n c k la aq nq cq := v_set (j := 0) h
theorem set1 (h : HV w X g ex left a n c k la aq nq cq) (ex' : Bool) : HV (w.setCell ⟨X, 1, none⟩ (.bool ex')) X g ex' left a n c k la aq nq cq := v_set (j := 1) h
theorem set2 (h : HV w X g ex left a n c k la aq nq cq) (left' : Int) : HV (w.setCell ⟨X, 2, none⟩ (.int .i64 left')) X g ex left' a n c k la aq nq cq := v_set (j := 2) h
theorem set3 (h : HV w X g ex left a n c k la aq nq cq) (a' : Option Addr) (n' : Nat) (c' : Nat) : HV (w.setCell ⟨X, 3, none⟩ (.slice a' n' c')) X g ex left a' n' c' k la aq nq cq := v_set (j := 3) h
theorem set4 (h : HV w X g ex left a n c k la aq nq cq) (k' : Int) : HV (w.setCell ⟨X, 4, none⟩ (.int .i64 k')) X g ex left a n c k' la aq nq cq := v_set (j := 4) h
theorem set5 (h : HV w X g ex left a n c k la aq nq cq) (la' : Int) : HV (w.setCell ⟨X, 5, none⟩ (.int .i64 la')) X g ex left a n c k la' aq nq cq := v_set (j := 5) h
theorem set6 (h : HV w X g ex left a n c k la aq nq cq) (aq' : Option Addr) (nq' : Nat) (cq' : Nat) : HV (w.setCell ⟨X, 6, none⟩ (.slice aq' nq' cq')) X g ex left a n c k la aq' nq' cq' := v_set (j := 6) h
theorem store (h : HV w X g ex left a n c k la aq nq cq) (g' : Int) (ex' : Bool) (left' : Int) (a' : Option Addr) (n' : Nat) (c' : Nat) (k' : Int) (la' : Int) (aq' : Option Addr) (nq' : Nat) (cq' : Nat) : HV (((((((w.setCell ⟨X, 0, none⟩ (.int .u32 g')).setCell ⟨X, 1, none⟩ (.bool ex')).setCell ⟨X, 2, none⟩ (.int .i64 left')).setCell ⟨X, 3, none⟩ (.slice a' n' c')).setCell ⟨X, 4, none⟩ (.int .i64 k')).setCell ⟨X, 5, none⟩ (.int .i64 la')).setCell ⟨X, 6, none⟩ (.slice aq' nq' cq')) X g' ex' left' a' n' c' k' la' aq' nq' cq' := (((((((h.set0 g').set1 ex').set2 left').set3 a' n' c').set4 k').set5 la').set6 aq' nq' cq')
theorem store_but (h : HV w X g ex left a n c k la aq nq cq) (g' : Int) (ex' : Bool) (left' : Int) (a' : Option Addr) (n' : Nat) (c' : Nat) (k' : Int) (la' : Int) (aq' : Option Addr) (nq' : Nat) (cq' : Nat) : But1 X w (((((((w.setCell ⟨X, 0, none⟩ (.int .u32 g')).setCell ⟨X, 1, none⟩ (.bool ex')).setCell ⟨X, 2, none⟩ (.int .i64 left')).setCell ⟨X, 3, none⟩ (.slice a' n' c')).setCell ⟨X, 4, none⟩ (.int .i64 k')).setCell ⟨X, 5, none⟩ (.int .i64 la')).setCell ⟨X, 6, none⟩ (.slice aq' nq' cq')) := ((((((((But1.refl X w).trans (But1.set _ X 0 _)).trans (But1.set _ X 1 _)).trans (But1.set _ X 2 _)).trans (But1.set _ X 3 _)).trans (But1.set _ X 4 _)).trans (But1.set _ X 5 _)).trans (But1.set _ X 6 _))
theorem load (h : HV w X g ex left a n c k la aq nq cq) : (loadVar 58 ⟨X, 0, none⟩).run Tryz.prog w = .ok (.agg #[.int .u32 g, .bool ex, .int .i64 left, .slice a n c, .int .i64 k, .int .i64 la, .slice aq nq cq]) w := by
  obtain ⟨c0, c1, c2, c3, c4, c5, c6, -⟩ := h.cells
  clear h
  go_simp
end HV
/-- Block X is a variable of that type. -/
def MV (w : World) (X : Nat) (g : Int) (ex : Bool) (left : Int) (a : Option Addr) (n : Nat) (c : Nat) : Prop := w.heap[X]? = some (.cells #[.int .u32 g, .bool ex, .int .i64 left, .slice a n c] 28 (0, 0))
namespace MV
variable {w w' : World} {X R : Nat} {g : Int} {ex : Bool} {left : Int} {a : Option Addr} {n : Nat} {c : Nat}
theorem lt (h : MV w X g ex left a n c) : X < w.heap.size := (Array.getElem?_eq_some_iff.1 h).1
theorem cells (h : MV w X g ex left a n c) : w.cell? ⟨X, 0, none⟩ = some (.int .u32 g) ∧ w.cell? ⟨X, 1, none⟩ = some (.bool ex) ∧ w.cell? ⟨X, 2, none⟩ = some (.int .i64 left) ∧ w.cell? ⟨X, 3, none⟩ = some (.slice a n c) ∧ w.frozen? ⟨X, 0, none⟩ = false ∧ w.frozen? ⟨X, 1, none⟩ = false ∧ w.frozen? ⟨X, 2, none⟩ = false ∧ w.frozen? ⟨X, 3, none⟩ = false := by
  have h' : w.heap[X]? = some (.cells #[.int .u32 g, .bool ex, .int .i64 left, .slice a n c] 28 (0, 0)) := h
  refine ⟨?_, ?_, ?_, ?_, ?_, ?_, ?_, ?_⟩
  all_goals first
    | (simp [World.cell?, h'])
    | (simp [World.frozen?, h'])
theorem below (h : MV w X g ex left a n c) {B : Nat} (hb : Below B w w') (hX : X < B) : MV w' X g ex left a n c := (hb.block X hX).trans h
theorem but (h : MV w X g ex left a n c) (hb : But1 R w w') (hne : X ≠ R) : MV w' X g ex left a n c := (hb.block X h.lt hne).trans h
theorem new (w : World) (g : Int) (ex : Bool) (left : Int) (a : Option Addr) (n : Nat) (c : Nat) : MV (w.alloc (.cells #[.int .u32 g, .bool ex, .int .i64 left, .slice a n c] 28)) w.heap.size g ex left a n c := Go.Deep.blk_alloc_new _ _
theorem keep (h : MV w X g ex left a n c) (o : Obj) : MV (w.alloc o) X g ex left a n c := h.below (bel1 w o) h.lt
theorem set0 (h : MV w X g ex left a n c) (g' : Int) : MV (w.setCell ⟨X, 0, none⟩ (.int .u32 g')) X g' ex left a n c := v_set (j := 0) h
theorem set1 (h : MV w X g ex left a n c) (ex' : Bool) : MV (w.setCell ⟨X, 1, none⟩ (.bool ex')) X g ex' left a n c := v_set (j := 1) h
theorem set2 (h : MV w X g ex left a n c) (left' : Int) : MV (w.setCell ⟨X, 2, none⟩ (.int .i64 left')) X g ex left' a n c := v_set (j := 2) h
theorem set3 (h : MV w X g ex left a n c) (a' : Option Addr) (n' : Nat) (c' : Nat) : MV (w.setCell ⟨X, 3, none⟩ (.slice a' n' c')) X g ex left a' n' c' := v_set (j := 3) h
theorem store (h : MV w X g ex left a n c) (g' : Int) (ex' : Bool) (left' : Int) (a' : Option Addr) (n' : Nat) (c' : Nat) : MV ((((w.setCell ⟨X, 0, none⟩ (.int .u32 g')).setCell ⟨X, 1, none⟩ (.bool ex')).setCell ⟨X, 2, none⟩ (.int .i64 left')).setCell ⟨X, 3, none⟩ (.slice a' n' c')) X g' ex' left' a' n' c' := ((((h.set0 g').set1 ex').set2 left').set3 a' n' c')
theorem store_but (h : MV w X g ex left a n c) (g' : Int) (ex' : Bool) (left' : Int) (a' : Option Addr) (n' : Nat) (c' : Nat) : But1 X w ((((w.setCell ⟨X, 0, none⟩ (.int .u32 g')).setCell ⟨X, 1, none⟩ (.bool ex')).setCell ⟨X, 2, none⟩ (.int .i64 left')).setCell ⟨X, 3, none⟩ (.slice a' n' c')) := (((((But1.refl X w).trans (But1.set _ X 0 _)).trans (But1.set _ X 1 _)).trans (But1.set _ X 2 _)).trans (But1.set _ X 3 _))
theorem load (h : MV w X g ex left a n c) : (loadVar 28 ⟨X, 0, none⟩).run Tryz.prog w = .ok (.agg #[.int .u32 g, .bool ex, .int .i64 left, .slice a n c]) w := by
  obtain ⟨c0, c1, c2, c3, -⟩ := h.cells
  clear h
  go_simp
end MV
theorem HV.noH {w : World} {X : Nat} {g : Int} {ex : Bool} {left : Int} {a : Option Addr} {n c : Nat} {k la : Int} {aq : Option Addr} {nq cq : Nat} (h : HV w X g ex left a n c k la aq nq cq) : ∀ o x y, w.cell? ⟨X, o, none⟩ = some (.int .u32 x) → w.cell? ⟨X, o + 1, none⟩ ≠ some (.int .i64 y) := by
  intro o x y h0 h1
  have h' : w.heap[X]? = some (.cells #[.int .u32 g, .bool ex, .int .i64 left, .slice a n c, .int .i64 k, .int .i64 la, .slice aq nq cq] 58 (0, 0)) := h
  simp only [World.cell?, h'] at h0 h1
  match o with
  | 0 => simp at h1
  | 1 => simp at h0
  | 2 => simp at h0
  | 3 => simp at h0
  | 4 => simp at h0
  | 5 => simp at h0
  | 6 => simp at h0
  | o + 7 => simp at h0
theorem MV.noH {w : World} {X : Nat} {g : Int} {ex : Bool} {left : Int} {a : Option Addr} {n c : Nat} (h : MV w X g ex left a n c) : ∀ o x y, w.cell? ⟨X, o, none⟩ = some (.int .u32 x) → w.cell? ⟨X, o + 1, none⟩ ≠ some (.int .i64 y) := by
  intro o x y h0 h1
  have h' : w.heap[X]? = some (.cells #[.int .u32 g, .bool ex, .int .i64 left, .slice a n c] 28 (0, 0)) := h
  simp only [World.cell?, h'] at h0 h1
  match o with
  | 0 => simp at h1
  | 1 => simp at h0
  | 2 => simp at h0
  | 3 => simp at h0
  | o + 4 => simp at h0
theorem As.but {w w' : World} {X : Nat} {a : Option Addr} {xs : List Int} (h : As w a xs) (hb : But1 X w w') (hn : ∀ b off, a = some ⟨b, off, none⟩ → xs ≠ [] → b ≠ X) : As w' a xs := by
  refine ⟨?_, h.2⟩
  rcases h.1 with h1 | ⟨b, off, e, hc⟩
  · exact .inl h1
  · by_cases h0 : xs = []
    · exact .inl h0
    · exact .inr ⟨b, off, e, fun k hk => (hb.cell (cell_lt (hc k hk)) (hn b off e h0)).trans (hc k hk)⟩
theorem vown_but {w w' : World} {X B n size : Nat} {e : TypeId} {v : Value} {xs : List Value} (h : w.ownsRow B e size v n xs) (hb : But1 X w w') (hX : X < B) : w'.ownsRow B e size v n xs := by
  refine ⟨h.1, ?_⟩
  rcases h.2 with h1 | ⟨g, cap, cur, e1, hB, hg, h3⟩
  · exact .inl h1
  · exact .inr ⟨g, cap, cur, e1, hB, (hb.block g (Array.getElem?_eq_some_iff.1 hg).1 (by omega)).trans hg, h3⟩
/-- By the types of their elements: a row isn't the variable. -/
theorem vown_ty {w w' : World} {X B n size : Nat} {e T : TypeId} {v : Value} {xs : List Value} {cs : Array Value} {p : Nat × Nat} (h : w.ownsRow B e size v n xs) (hX : w.heap[X]? = some (.cells cs T p)) (hne : T ≠ e) (hb : But1 X w w') : w'.ownsRow B e size v n xs := by
  refine ⟨h.1, ?_⟩
  rcases h.2 with h1 | ⟨g, cap, cur, e1, hB, hg, h3⟩
  · exact .inl h1
  · refine .inr ⟨g, cap, cur, e1, hB, (hb.block g (Array.getElem?_eq_some_iff.1 hg).1 ?_).trans hg, h3⟩
    intro e2
    subst e2
    rw [hX] at hg
    simp only [Option.some.injEq, Obj.cells.injEq] at hg
    exact hne hg.2.1
end Go.Proofs.YtllpmepmgnnoaaaGreat
