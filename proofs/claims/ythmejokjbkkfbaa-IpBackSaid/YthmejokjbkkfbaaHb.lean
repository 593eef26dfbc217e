/- A header in a variable of its own. -/
import Derived.Test.YthmejokjbkkfbaaIb
namespace Go.Proofs.Ythmejokjbkkfbaa
set_option linter.unusedVariables false
open Go.RowKit

/-- Block B is a variable that holds the header h. -/
def HBox (W : World) (B : Nat) (h : Hdr) : Prop := W.heap[B]? = some (.cells (hcs h) 26 (0, 0))
namespace HBox
variable {w w' W : World} {B : Nat} {h : Hdr}
theorem lt (k : HBox W B h) : B < W.heap.size := (Array.getElem?_eq_some_iff.1 k).1
theorem cells (k : HBox W B h) : W.cell? ⟨B, 0, none⟩ = some (.int .u32 h.src) ∧ W.cell? ⟨B, 1, none⟩ = some (.int .u32 h.dst) ∧ W.cell? ⟨B, 2, none⟩ = some (.int .u8 h.proto) ∧ W.cell? ⟨B, 3, none⟩ = some (.int .u8 h.ttl) ∧
    W.cell? ⟨B, 4, none⟩ = some (.int .u16 h.id) ∧ W.cell? ⟨B, 5, none⟩ = some (.bool h.alert) := by
  have e : ∀ j, W.cell? ⟨B, j, none⟩ = (hcs h)[j]? := fun j => by
    have k' : W.heap[B]? = some (.cells (hcs h) 26 (0, 0)) := k
    simp [World.cell?, k']
  rw [e, e, e, e, e, e]
  exact ⟨rfl, rfl, rfl, rfl, rfl, rfl⟩
theorem frozen (k : HBox W B h) (j : Nat) : W.frozen? ⟨B, j, none⟩ = false := by
  have k' : W.heap[B]? = some (.cells (hcs h) 26 (0, 0)) := k
  simp [World.frozen?, k']
theorem below {C : Nat} (k : HBox w B h) (hb : Below C w w') (hC : B < C) : HBox w' B h := (hb.block B hC).trans k
theorem keep (k : HBox w B h) (hb : Below w.heap.size w w') : HBox w' B h := k.below hb k.lt
theorem new (w : World) (h : Hdr) : HBox (w.alloc (.cells #[.int .u32 h.src, .int .u32 h.dst, .int .u8 h.proto, .int .u8 h.ttl, .int .u16 h.id, .bool h.alert] 26)) w.heap.size h := World.alloc_heap_new _ _
theorem drewN (k : HBox W B h) (n : Nat) : HBox (W.drewN n) B h := k
theorem store (k : HBox W B h) (h' : Hdr) : HBox ((((((W.setCell ⟨B, 0, none⟩ (.int .u32 h'.src)).setCell ⟨B, 1, none⟩ (.int .u32 h'.dst)).setCell ⟨B, 2, none⟩ (.int .u8 h'.proto)).setCell ⟨B, 3, none⟩ (.int .u8 h'.ttl)).setCell ⟨B, 4, none⟩ (.int .u16 h'.id)).setCell ⟨B, 5, none⟩ (.bool h'.alert)) B h' :=
  heap_setCell_same _ _ _ _ _ _ (heap_setCell_same _ _ _ _ _ _ (heap_setCell_same _ _ _ _ _ _ (heap_setCell_same _ _ _ _ _ _ (heap_setCell_same _ _ _ _ _ _ (heap_setCell_same _ _ _ _ _ _ k)))))
theorem load (k : HBox W B h) : (loadVar 26 ⟨B, 0, none⟩).run Try.prog W = .ok (.agg #[.int .u32 h.src, .int .u32 h.dst, .int .u8 h.proto, .int .u8 h.ttl, .int .u16 h.id, .bool h.alert]) W := by
  obtain ⟨c0, c1, c2, c3, c4, c5⟩ := k.cells
  clear k
  go_simp
end HBox
/-- Six cells written anew: what lies below is as it was. -/
theorem below_store {C B : Nat} {w W : World} (h : Below C w W) (hB : C ≤ B) (v0 v1 v2 v3 v4 v5 : Value) : Below C w ((((((W.setCell ⟨B, 0, none⟩ v0).setCell ⟨B, 1, none⟩ v1).setCell ⟨B, 2, none⟩ v2).setCell ⟨B, 3, none⟩ v3).setCell ⟨B, 4, none⟩ v4).setCell ⟨B, 5, none⟩ v5) :=
  (((((h.setCell (p := ⟨B, 0, none⟩) hB _).setCell (p := ⟨B, 1, none⟩) hB _).setCell (p := ⟨B, 2, none⟩) hB _).setCell (p := ⟨B, 3, none⟩) hB _).setCell (p := ⟨B, 4, none⟩) hB _).setCell (p := ⟨B, 5, none⟩) hB _
/-- A return whose first result lies in a variable. -/
theorem ret_cell {P : Program} {fn : Func} {R : Ending → World → Prop} {a : Act} {w : World} {p u v : Nat} {ty : TypeId} {q : Addr} {x : Value} (hr : fn.results = #[.cell p ty, .tmp u, .tmp v]) (hd : a.defers = []) (hp : a.tmps.getD p undef = .pointer (some q))
    (hl : (loadVar ty q).run P w = .ok x w) (hR : R (.returned (.tuple #[x, a.tmps.getD u undef, a.tmps.getD v undef])) w) : bodyPost P fn R .ret a w := by
  refine ⟨hd, _, ?_, hR⟩
  have hp' : a.tmps[p]?.getD undef = .pointer (some q) := by simpa using hp
  simp only [results, hr]
  simp [Result.andThen, asAddr, hp', hl]
end Go.Proofs.Ythmejokjbkkfbaa
