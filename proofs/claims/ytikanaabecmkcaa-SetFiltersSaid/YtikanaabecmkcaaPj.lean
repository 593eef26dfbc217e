/- Wants; the law's own small functions. -/
import Derived.Test.YtikanaabecmkcaaPi
import Derived.BigQuiet
namespace Go.Proofs.Ytikanaabecmkcaa
set_option linter.unusedVariables false
open Go.RowKit

set_option maxRecDepth 100000 in
set_option maxHeartbeats 4000000 in
theorem sWants (ex : Bool) (a : Option Addr) (n c : Nat) (xs : List Int) (x : Int) (w : World) (hx : xs.length = n) (hm : n ≤ 1000000000) (h : As w a xs) :
    Calls Try.prog 30 #[.agg #[.bool ex, .slice a n c], .int .u32 x] w fun e w' => e = .returned (.bool (decide (x ∈ xs) != ex)) ∧ Below w.heap.size w w' := by
  have H : ∀ w', Below w.heap.size w w' → Calls Try.prog 18 #[.slice a n c, .int .u32 x] w' fun e w2 => e = .returned (.bool (decide (x ∈ xs))) ∧ w2 = w' := fun w' hb => sHas a n c xs x w' hx hm (h.below hb)
  have HH := Lib.hid H
  clear H h
  go_enter Try.func30, Try.ntmps30
  go_wp2_with fail
  have hN := Go.Deep.blk_alloc_new w (.cells #[.bool ex, .slice a n c] 35)
  have c0 : (w.alloc (.cells #[.bool ex, .slice a n c] 35)).cell? ⟨w.heap.size, 0, none⟩ = some (.bool ex) := by simp only [World.cell?, hN]; rfl
  have c1 : (w.alloc (.cells #[.bool ex, .slice a n c] 35)).cell? ⟨w.heap.size, 1, none⟩ = some (.slice a n c) := by simp only [World.cell?, hN]; rfl
  clear hN
  have hb : Below w.heap.size w (w.alloc (.cells #[.bool ex, .slice a n c] 35)) := bel1 w _
  have HB := Lib.hid hb
  clear hb
  generalize w.alloc (.cells #[.bool ex, .slice a n c] 35) = w1 at *
  have c2 : ∀ q, (w1.drewN q).cell? ⟨w.heap.size, 0, none⟩ = some (.bool ex) := fun q => by rw [← c0]; rfl
  have c3 : ∀ q, (w1.drewN q).cell? ⟨w.heap.size, 1, none⟩ = some (.slice a n c) := fun q => by rw [← c1]; rfl
  go_quiet ((exact Calls.quiet_of_same (HH.out _ (bdrawn HB.out _))))
  go_wp2_with fail
  go_ret
  exact ⟨rfl, bdrawn HB.out nq⟩
end Go.Proofs.Ytikanaabecmkcaa
