/- Slices of bytes: what they hold, and the document's own answer to whether two are the same. -/
import Derived.Test.YtllpmepmgnnoaaaGreatChecked
import Derived.WalkKit
import Derived.WalkLawsBesides
import Derived.Outline
import Derived.OpenShut
import Derived.Below
import Derived.IntWalk
import Derived.Lib.Hide
import Derived.Deep.QuietTactic
import Derived.BigQuiet
namespace Go.Proofs.YtllpmepmgnnoaaaGreat
set_option linter.unusedVariables false
open Go.RowKit

/-- A slice of bytes. -/
def Bs (w : World) (a : Option Addr) (xs : List Int) : Prop := (xs = [] ∨ ∃ b off, a = some ⟨b, off, none⟩ ∧ ∀ k, k < xs.length → w.cell? ⟨b, off + k, none⟩ = some (.int .u8 (xs.getD k 0))) ∧ ∀ k, k < xs.length → 0 ≤ xs.getD k 0 ∧ xs.getD k 0 ≤ 255
theorem cell_lt {W : World} {a : Addr} {v : Value} (h : W.cell? a = some v) : a.block < W.heap.size := World.block_lt_of_cell? W a h
theorem bs_below {w w' : World} {a : Option Addr} {xs : List Int} (h : Bs w a xs) (hb : Below w.heap.size w w') : Bs w' a xs := by
  refine ⟨?_, h.2⟩
  rcases h.1 with h1 | ⟨b, off, e, hc⟩
  · exact .inl h1
  · refine .inr ⟨b, off, e, fun k hk => ?_⟩
    rw [hb.cell (p := ⟨b, off + k, none⟩) (cell_lt (hc k hk))]
    exact hc k hk
theorem ret_v {a b : Value} (h : a = b) : Ending.returned a = .returned b := by rw [h]
theorem ret_int {k : IntKind} {a b : Int} (h : a = b) : Ending.returned (.int k a) = .returned (.int k b) := by rw [h]
theorem ret_bool {a b : Bool} (h : a = b) : Ending.returned (.bool a) = .returned (.bool b) := by rw [h]
theorem bdrawn {B : Nat} {a w : World} (h : Below B a w) (n : Nat) : Below B a (w.drewN n) := h.trans ⟨rfl, rfl, rfl, Nat.le_refl _, fun _ _ => rfl⟩
theorem bcell {W w1 : World} (hb : Below W.heap.size W w1) : (∀ b o, b < W.heap.size → w1.cell? ⟨b, o, none⟩ = W.cell? ⟨b, o, none⟩) ∧ (∀ b o, b < W.heap.size → w1.frozen? ⟨b, o, none⟩ = W.frozen? ⟨b, o, none⟩) :=
  ⟨fun b o h => hb.cell (p := ⟨b, o, none⟩) h, fun b o h => hb.frozen (p := ⟨b, o, none⟩) h⟩
end Go.Proofs.YtllpmepmgnnoaaaGreat
