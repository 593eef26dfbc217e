/- The document's own Wants and Same. -/
import Derived.Test.YtikanaabecmkcaaPr
import Derived.Test.YtikanaabecmkcaaPn
import Derived.BigQuiet
namespace Go.Proofs.Ytikanaabecmkcaa
set_option linter.unusedVariables false
open Go.RowKit

set_option maxRecDepth 100000 in
set_option maxHeartbeats 4000000 in
theorem rWants (ex : Bool) (a : Option Addr) (n c : Nat) (xs : List Int) (x : Int) (w : World) (hx : xs.length = n) (hm : n ≤ 1000000000) (h : As w a xs) :
    Calls Try.prog 31 #[.agg #[.bool ex, .slice a n c], .int .u32 x] w fun e w' => e = .returned (.bool (decide (x ∈ xs) != ex)) ∧ Below w.heap.size w w' := by
  have H : ∀ w', Below w.heap.size w w' → Calls Try.prog 19 #[.slice a n c, .int .u32 x] w' fun e w2 => e = .returned (.bool (decide (x ∈ xs))) ∧ w2 = w' := fun w' hb => rHas a n c xs x w' hx hm (h.below hb)
  have HH := Lib.hid H
  clear H h
  go_enter Try.func31, Try.ntmps31
  go_wp2_with fail
  have hN := Go.Deep.blk_alloc_new w (.cells #[.bool ex, .slice a n c] 35)
  have c0 : (w.alloc (.cells #[.bool ex, .slice a n c] 35)).cell? ⟨w.heap.size, 0, none⟩ = some (.bool ex) := by simp only [World.cell?, hN]; rfl
  have c1 : (w.alloc (.cells #[.bool ex, .slice a n c] 35)).cell? ⟨w.heap.size, 1, none⟩ = some (.slice a n c) := by simp only [World.cell?, hN]; rfl
  clear hN
  have hb : Below w.heap.size w (w.alloc (.cells #[.bool ex, .slice a n c] 35)) := bel1 w _
  have HB := Lib.hid hb
  clear hb
  generalize w.alloc (.cells #[.bool ex, .slice a n c] 35) = w1 at *
  have c2 : ∀ q, (w1.drewN q).cell? ⟨w.heap.size, 0, none⟩ = some (.bool ex) := fun q => by rw [← c0]; rfl
  have c3 : ∀ q, (w1.drewN q).cell? ⟨w.heap.size, 1, none⟩ = some (.slice a n c) := fun q => by rw [← c1]; rfl
  go_quiet ((exact Calls.quiet_of_same (HH.out _ (bdrawn HB.out _))))
  go_wp2_with fail
  go_ret
  exact ⟨rfl, bdrawn HB.out nq⟩
set_option maxRecDepth 100000 in
set_option maxHeartbeats 4000000 in
theorem rSameF (e1 e2 : Bool) (a b : Option Addr) (n m c d : Nat) (xs ys : List Int) (w : World) (hx : xs.length = n) (hy : ys.length = m) (hm : n ≤ 1000000000) (h1 : As w a xs) (h2 : As w b ys) (he : e1 = e2) :
    Calls Try.prog 28 #[.agg #[.bool e1, .slice a n c], .agg #[.bool e2, .slice b m d]] w fun e w' => e = .returned (.bool (decide (xs = ys))) ∧ Below w.heap.size w w' := by
  subst he
  have HX := Lib.hid hx
  have HY := Lib.hid hy
  have H1 := Lib.hid h1
  have H2 := Lib.hid h2
  clear hx hy h1 h2
  go_enter Try.func28, Try.ntmps28
  cases e1
  all_goals
    go_wp2_with fail
    refine (rRows a b n m c d xs ys _ HX.out HY.out (by omega) ((H1.out.below (bel1 w _)).below (bel1 _ _)) ((H2.out.below (bel1 w _)).below (bel1 _ _))).mono ?_
    rintro e w2 ⟨rfl, hB⟩
    have HB := Lib.hid (((bel1 w _).alloc (by simp) _).trans (hB.mono (by simp; omega)))
    clear hB
    obtain ⟨eb, heb⟩ : ∃ eb, decide (xs = ys) = eb := ⟨_, rfl⟩
    rw [heb]
    go_wp2_with fail
    go_ret
    exact ⟨by simp [heb], HB.out⟩
end Go.Proofs.Ytikanaabecmkcaa
