/- A row of addresses in a block of the call's own, as an array that is sorted in place. -/
import Derived.Test.YtllpmepmgnnoaaaGreatNa
import Derived.Sort.LotA
import Derived.Sort.Row
import Derived.CellFam
namespace Go.Proofs.YtllpmepmgnnoaaaGreat
set_option linter.unusedVariables false
open Go.RowKit
open Go.Sort (swp)

/-- Block g holds the numbers d from place off on, none frozen. -/
def Arr (w : World) (g off : Nat) (d : Array Int) : Prop := ∃ c : Array Value, w.heap[g]? = some (.cells c 25 (0, 0)) ∧ off + d.size ≤ c.size ∧ ∀ i, i < d.size → c[off + i]? = some (.int .u32 d[i]!)
namespace Arr
variable {w w' : World} {g off : Nat} {d : Array Int}
theorem cell (h : Arr w g off d) {i : Nat} (hi : i < d.size) : w.cell? ⟨g, off + i, none⟩ = some (.int .u32 d[i]!) := by
  obtain ⟨c, hb, _, hc⟩ := h
  simp [World.cell?, hb, hc i hi]
theorem frozen (h : Arr w g off d) (k : Nat) : w.frozen? ⟨g, k, none⟩ = false := by
  obtain ⟨c, hb, _, _⟩ := h
  simp [World.frozen?, hb]
theorem lt (h : Arr w g off d) : g < w.heap.size := by
  obtain ⟨c, hb, _, _⟩ := h
  exact (Array.getElem?_eq_some_iff.1 hb).1
theorem of_block (h : Arr w g off d) (e : w'.heap[g]? = w.heap[g]?) : Arr w' g off d := by
  obtain ⟨c, hb, h2⟩ := h
  exact ⟨c, e.trans hb, h2⟩
theorem below {B : Nat} (h : Arr w g off d) (hb : Below B w w') (hg : g < B) : Arr w' g off d := h.of_block (hb.block g hg)
theorem drewN (h : Arr w g off d) (n : Nat) : Arr (w.drewN n) g off d := h
theorem set (h : Arr w g off d) (i : Nat) (x : Int) (hi : i < d.size) : Arr (w.setCell ⟨g, off + i, none⟩ (.int .u32 x)) g off (d.setIfInBounds i x) := by
  obtain ⟨c, hb, hn, hc⟩ := h
  refine ⟨c.setIfInBounds (off + i) (.int .u32 x), ?_, by simpa using hn, fun j hj => ?_⟩
  · simp [World.setCell, Array.getElem?_modify, hb]
  · have hj' : j < d.size := by simpa using hj
    rw [Array.getElem?_setIfInBounds]
    by_cases e : i = j
    · subst e
      rw [if_pos rfl, if_pos (by omega), Go.Sort.getElem!_set_same d i x hi]
    · rw [if_neg (by omega), hc j hj', Go.Sort.getElem!_set_other d i j x (fun h => e h.symm)]
theorem swp (h : Arr w g off d) (i j : Nat) (hi : i < d.size) (hj : j < d.size) :
    Arr ((w.setCell ⟨g, off + i, none⟩ (.int .u32 d[j]!)).setCell ⟨g, off + j, none⟩ (.int .u32 d[i]!)) g off (Go.Sort.swp d i j) :=
  (h.set i _ hi).set j _ (by simpa using hj)
end Arr
theorem But1.swp {R : Nat} {w w' : World} (h : But1 R w w') (i j : Nat) (u v : Value) : But1 R w ((w'.setCell ⟨R, i, none⟩ u).setCell ⟨R, j, none⟩ v) := (h.trans (But1.set _ _ _ _)).trans (But1.set _ _ _ _)
/-- Less on numbers. -/
abbrev ltI (x y : Int) : Bool := Go.Sort.ltInt x y
theorem ltI_swo : Go.Sort.SWO ltI := Go.Sort.swo_ltInt
/-- What the row is, under a name of its own: what a walk reads and may write. -/
theorem Arr.fam {w : World} {g off n : Nat} {d : Array Int} (h : Arr w g off d) (hn : d.size = n) : ∃ G : Nat → Int, (∀ t, G t = d[t]!) ∧ (∀ t, t < n → w.cell? ⟨g, off + t, none⟩ = some (.int .u32 (G t))) ∧ (∀ t, t < n → w.frozen? ⟨g, off + t, none⟩ = false) :=
  ⟨fun t => d[t]!, fun _ => rfl, fun t ht => h.cell (by omega), fun t _ => h.frozen _⟩

theorem sIsNaN (x : Int) (w : World) : Calls Tryz.prog 101 #[.int .u32 x] w fun e w' => e = .returned (.bool false) ∧ w' = w := by
  go_enter Tryz.func101, Tryz.ntmps101
  go_wp2
  go_ret
  exact ⟨by simp, rfl⟩
set_option maxHeartbeats 1000000 in
theorem sLess (x y : Int) (w : World) : Calls Tryz.prog 85 #[.int .u32 x, .int .u32 y] w fun e w' => e = .returned (.bool (ltI x y)) ∧ w' = w := by
  go_enter Tryz.func85, Tryz.ntmps85
  go_wp2_with (go_at_call 101; refine (sIsNaN _ _).mono ?_; rintro e w' ⟨rfl, rfl⟩)
  go_ret
  exact ⟨rfl, rfl⟩
end Go.Proofs.YtllpmepmgnnoaaaGreat
